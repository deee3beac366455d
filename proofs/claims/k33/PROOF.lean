import PyProof.Rows.All
import Wide.All
import OpenK.AllK
import Wide.FinOn
import Lean
import PyProof.EqAt
import PyProof.EqKinds
import PyProof.TupleCall
import PySem.Challenge.RW_halvecut_k33_whole_in_or_out
set_option Elab.async false
set_option linter.all false
set_option maxRecDepth 100000
namespace L2
open PySem PySem.Spec PyProof.Rows
abbrev Key := Sum Int Str
def wZ : Key -> Value -> Bool
 | .inl k, v => Value.isInt k v
 | .inr x, v => Value.isStrOf x v
def AX (w : World) : Key -> Int
 | .inl k => hashInt k
 | .inr x => hashStr w x
theorem bC : ∀ {k : Key} {v : Value}, wZ k v = true -> (∃ i t, k = Sum.inl i /\ v = Value.int i t) ∨ (∃ x t, k = Sum.inr x /\ v = Value.str x t)
 | .inl i, v, h => by
  obtain ⟨t, e⟩ := Value.isInt_shape (k := i) (v := v) h
  exact .inl ⟨i, t, rfl, e⟩
 | .inr x, v, h => by
  obtain ⟨t, e⟩ := Value.isStrOf_shape (x := x) (v := v) h
  exact .inr ⟨x, t, rfl, e⟩
theorem zJ (a b : Int) : decide ((Sum.inl a : Key) = Sum.inl b) = (a == b) := by
 by_cases e : a = b
 ·subst e; simp
 ·have h : ¬ (Sum.inl a : Key) = Sum.inl b := fun q => e (Sum.inl.inj q)
  rw [decide_eq_false h]
  exact (beq_eq_false_iff_ne.mpr e).symm
theorem zV (a b : Str) : decide ((Sum.inr a : Key) = Sum.inr b) = decide (a = b) := by
 by_cases e : a = b
 ·subst e; simp
 ·have h : ¬ (Sum.inr a : Key) = Sum.inr b := fun q => e (Sum.inr.inj q)
  rw [decide_eq_false h, decide_eq_false e]
theorem zw (a : Int) (b : Str) : decide ((Sum.inl a : Key) = Sum.inr b) = false := decide_eq_false (fun q => nomatch q)
theorem yQ (a : Str) (b : Int) : decide ((Sum.inr a : Key) = Sum.inl b) = false := decide_eq_false (fun q => nomatch q)
def rz (prog : Program) (w : World) : PySem.KeyKind prog w Key where
 is := wZ
 hash := AX w
 inj := fun v a b ha hb => by
  rcases bC ha with ⟨i, t, rfl, rfl⟩ | ⟨x, t, rfl, rfl⟩
  ·rcases bC hb with ⟨j, u, rfl, e⟩ | ⟨y, u, rfl, e⟩
   ·injection e with e1 _; rw [e1]
   ·exact nomatch e
  ·rcases bC hb with ⟨j, u, rfl, e⟩ | ⟨y, u, rfl, e⟩
   ·exact nomatch e
   ·injection e with e1 _; rw [e1]
 byValue := fun k v h => by
  rcases bC h with ⟨i, t, rfl, rfl⟩ | ⟨x, t, rfl, rfl⟩ <;> rfl
 pyHash := fun hv h => by
  rcases bC hv with ⟨i, t, rfl, rfl⟩ | ⟨x, t, rfl, rfl⟩
  ·exact wpAny_pyHash_int h
  ·exact wpAny_pyHash_str h
 eqBool := fun hu hv h => by
  rcases bC hu with ⟨i, t, rfl, rfl⟩ | ⟨x, t, rfl, rfl⟩
  ·rcases bC hv with ⟨j, u, rfl, rfl⟩ | ⟨y, u, rfl, rfl⟩
   ·rw [zJ] at h; exact wpAny_eqBool_int h
   ·rw [zw] at h; exact SeqAt.EqAt.int_str i t y u _ _ _ _ h
  ·rcases bC hv with ⟨j, u, rfl, rfl⟩ | ⟨y, u, rfl, rfl⟩
   ·rw [yQ] at h; exact SeqAt.EqAt.str_int x t j u _ _ _ _ h
   ·rw [zV] at h; exact wpAny_eqBool_str h
 «strs» := fun k x t v h => by
  rcases bC h with ⟨i, u, rfl, e⟩ | ⟨y, u, rfl, e⟩
  ·exact nomatch e
  ·injection e with e1 _
   subst e1
   cases v <;> rfl
end L2
namespace L2
open PySem PySem.Spec PyProof.Rows
inductive V where
 | non | bl (b : Bool) | int (i : Int) | str (x : Str) | byt (b : Array UInt8) | flt (b : UInt64) | ref (a : Addr) | ty (n : String)
 deriving DecidableEq
def RelV : V -> Value -> Prop
 | .non, u => u = Value.none
 | .bl b, u => u = Value.bool b
 | .int i, u => ∃ t, u = Value.int i t
 | .str x, u => ∃ t, u = Value.str x t
 | .byt b, u => ∃ t, u = Value.bytes b t
 | .flt b, u => ∃ t, u = Value.float b t
 | .ref a, u => u = Value.ref a
 | .ty n, u => u = Value.type n
abbrev Vals : List V -> List Value -> Prop := Paired RelV
theorem Vals.length {xs : List V} {us : List Value} (r : Vals xs us) : xs.length = us.length := Paired.length r
theorem Vals.get : ∀ {xs : List V} {us : List Value} {i : Nat} {x : V}, Vals xs us -> xs[i]? = some x -> ∃ u, us[i]? = some u /\ RelV x u
 | _, _, _, _, .nil, e => by simp at e
 | _, _, 0, _, .cons r _, e => by simp at e; subst e; exact ⟨_, rfl, r⟩
 | _, _, i + 1, x, .cons _ t, e => by
  obtain ⟨u, h1, h2⟩ := Vals.get (i := i) (x := x) t (by simpa using e)
  exact ⟨u, by simpa using h1, h2⟩
theorem Vals.append : ∀ {xs ys : List V} {us ws : List Value}, Vals xs us -> Vals ys ws -> Vals (xs ++ ys) (us ++ ws)
 | _, _, _, _, .nil, s => s
 | _, _, _, _, .cons r t, s => .cons r (Vals.append t s)
theorem Vals.take : ∀ {xs : List V} {us : List Value} (n : Nat), Vals xs us -> Vals (xs.take n) (us.take n)
 | _, _, 0, _ => .nil
 | _, _, _ + 1, .nil => .nil
 | _, _, n + 1, .cons r t => .cons r (Vals.take n t)
theorem Vals.drop : ∀ {xs : List V} {us : List Value} (n : Nat), Vals xs us -> Vals (xs.drop n) (us.drop n)
 | _, _, 0, r => r
 | _, _, _ + 1, .nil => .nil
 | _, _, n + 1, .cons _ t => Vals.drop n t
theorem Vals.none_of : ∀ {xs : List V} {us : List Value} {i : Nat}, Vals xs us -> xs[i]? = none -> us[i]? = none := fun {xs us i} r e => by
 have h1 := r.length
 have h2 : xs.length <= i := List.getElem?_eq_none_iff.mp e
 exact List.getElem?_eq_none_iff.mpr (by omega)
def yT : Option V -> Option Value -> Prop
 | some v, some u => RelV v u
 | none, none => True
 | _, _ => False
def KV {κ : Type} : List (κ × V) -> List (κ × Value) -> Prop := Paired fun (p : κ × V) (q : κ × Value) => p.1 = q.1 /\ RelV p.2 q.2
def kV : Key -> V
 | .inl i => .int i
 | .inr x => .str x
inductive HO where
 | lst (xs : List V)
 | tup (xs : List V)
 | dK (kvs : List (Key × V)) | dT (kvs : List (List Key × V))
 | set (S : Int -> Bool) (n : Nat)
 | ins (C dx : Addr) (fs : List (Str × V))
 | own (x : Addr)
 | xd (fs : List (Str × V))
 | met (f x : Addr)
 | rng (lo hi : Int)
 | frz (o : Obj) (u : HO)
 | tbl (ps : Array Value)
 | ext (φ : Heap -> Prop)
abbrev Hp := Addr -> Option HO
def upd (H : Hp) (a : Addr) (o : HO) : Hp := fun b => if b = a then some o else H b
theorem aD {H : Hp} {a : Addr} {o : HO} : upd H a o a = some o := by unfold upd; rw [if_pos rfl]
theorem aw {H : Hp} {a b : Addr} {o : HO} (h : b ≠ a) : upd H a o b = H b := by unfold upd; rw [if_neg h]
theorem gZ {H : Hp} {a b : Addr} {o u : HO} (h : H a = some o) (h' : H b = some u) (d : o ≠ u) : a ≠ b := by
 intro e; subst e; rw [h] at h'; exact d (Option.some.inj h')
theorem aV {H : Hp} {a b : Addr} {o : HO} (h : H a = some o) (h' : H b = none) : a ≠ b := by
 intro e; subst e; rw [h] at h'; cases h'
section
variable (P : Program) (w : World)
def bX (H : Hp) (h : Heap) (a : Addr) : HO -> Prop
 | .lst xs => xs.length <= sizeLine /\ ∃ (its : List Value) (n : Nat), Vals xs its /\ h.get? a = some { cls := .type "list", data := .seq its.toArray n }
 | .tup xs => xs.length <= sizeLine /\ ∃ its : List Value, Vals xs its /\ IsTup h a its.toArray
 | .dK kvs => kvs.length <= sizeLine /\ (a == sysModules) = false /\ ∃ vs, KV kvs vs /\ h.DictOf (rz P w) a vs
 | .dT kvs => kvs.length <= sizeLine /\ (a == sysModules) = false /\ ∃ xs : List (List Key × Addr × Value),
   Paired (fun (p : List Key × V) (q : List Key × Addr × Value) => p.1 = q.1 /\ H q.2.1 = some (.tup (p.1.map kV)) /\ RelV p.2 q.2.2) kvs xs ∧
   ∃ o es ep, h.get? a = some o /\ o.ExactDict /\ o.data = .dict es ep /\ es.toList = xs.map (entryOfKey (tupleKind (rz P w))) /\ (xs.map (·.1)).Nodup
 | .set S n => h.SetOf (intKind P w) a S n
 | .ins C dx fs => H dx = some (.own a) /\ fs.length <= 1000 /\ dx ≠ a /\ h.get? a = some (PySem.W.instObj C dx) ∧
   ∃ mA, h.Ns1 dx mA /\ (∀ f, yT (fs.lookup f) (mA f)) /\ PySem.Within mA (fs.map (·.1))
 | .own _ => ∃ o, h.get? a = some o
 | .xd fs => ∃ mA, h.Ns1 a mA /\ ∀ f, yT (fs.lookup f) (mA f)
 | .rng lo hi => ∃ t u v, h.get? a = some { cls := .type "range", data := .fields #[.int lo t, .int hi u, .int 1 v] }
 | .frz o u => h.get? a = some o /\ bX H h a u
 | .tbl ps => h.get? a = some { cls := .none, data := .fields ps }
 | .met f x => h.get? a = some (PySem.W.methodObj (.ref f) (.ref x))
 | .ext φ => φ h /\ (∃ o, h.get? a = some o) /\ ∀ h1 h2 : Heap, φ h1 -> (∀ o, h1.get? a = some o -> h2.get? a = some o) -> φ h2
def HOk (H : Hp) (h : Heap) : Prop := ∀ a o, H a = some o -> bX P w H h a o
end
section
variable {P : Program} {w : World} {H H' : Hp} {h h' : Heap} {a : Addr} {o : HO}
theorem bX.lt (x : bX P w H h a o) : a < h.objs.size := by
 cases o with
 | lst xs => obtain ⟨_, _, _, _, e⟩ := x; exact Heap.lt_size e
 | tup xs => obtain ⟨_, _, _, p⟩ := x; exact p.lt
 | dK kvs => obtain ⟨_, _, _, _, o, _, _, e, _⟩ := x; exact Heap.lt_size e
 | dT kvs => obtain ⟨_, _, _, _, o, _, _, e, _⟩ := x; exact Heap.lt_size e
 | set S n => obtain ⟨o, _, _, _, e, _⟩ := x; exact Heap.lt_size e
 | ins C dx fs => obtain ⟨_, _, _, e, _⟩ := x; exact Heap.lt_size e
 | own y => obtain ⟨_, e⟩ := x; exact Heap.lt_size e
 | xd fs => obtain ⟨_, ⟨_, _, _, e, _⟩, _⟩ := x; exact Heap.lt_size e
 | rng lo hi => obtain ⟨_, _, _, e⟩ := x; exact Heap.lt_size e
 | frz ob u => obtain ⟨e, _⟩ := x; exact Heap.lt_size e
 | tbl ps => exact Heap.lt_size (show h.get? a = some _ from x)
 | met f y => exact Heap.lt_size (show h.get? a = some _ from x)
 | ext φ => obtain ⟨_, ⟨_, e⟩, _⟩ := x; exact Heap.lt_size e
theorem Paired.mapP {α β : Type} {F G : α -> β -> Prop} : ∀ {l₁ : List α} {l₂ : List β}, Paired F l₁ l₂ -> (∀ a b, F a b -> G a b) -> Paired G l₁ l₂
 | _, _, .nil, _ => .nil
 | _, _, .cons r t, f => .cons (f _ _ r) (Paired.mapP t f)
theorem bX.stay (x : bX P w H h a o) (k : ∀ b u, (b = a ∨ H b = some (.own a)) -> h.get? b = some u -> h'.get? b = some u)
  (ho : ∀ b, H b = some (.own a) -> H' b = some (.own a)) (ht : ∀ b xs, H b = some (.tup xs) -> H' b = some (.tup xs)) : bX P w H' h' a o := by
 induction o with
 | lst xs => obtain ⟨z, its, n, r, e⟩ := x; exact ⟨z, its, n, r, k _ _ (.inl rfl) e⟩
 | tup xs => obtain ⟨z, its, r, ob, e, c⟩ := x; exact ⟨z, its, r, ob, k _ _ (.inl rfl) e, c⟩
 | dK kvs => obtain ⟨z, y, vs, r, ob, es, ep, e, c⟩ := x; exact ⟨z, y, vs, r, ob, es, ep, k _ _ (.inl rfl) e, c⟩
 | dT kvs =>
  obtain ⟨z, y, xs, r, ob, es, ep, e, c⟩ := x
  exact ⟨z, y, xs, Paired.mapP r fun p q z => ⟨z.1, ht _ _ z.2.1, z.2.2⟩, ob, es, ep, k _ _ (.inl rfl) e, c⟩
 | set S n => obtain ⟨ob, es, ep, t, e, c⟩ := x; exact ⟨ob, es, ep, t, k _ _ (.inl rfl) e, c⟩
 | ins C dx fs =>
  obtain ⟨d, z, ne, e, mA, ⟨od, es, ep, e2, c⟩, r⟩ := x
  exact ⟨ho _ d, z, ne, k _ _ (.inl rfl) e, mA, ⟨od, es, ep, k _ _ (.inr d) e2, c⟩, r⟩
 | own y => obtain ⟨ob, e⟩ := x; exact ⟨ob, k _ _ (.inl rfl) e⟩
 | xd fs => obtain ⟨mA, ⟨od, es, ep, e, c⟩, r⟩ := x; exact ⟨mA, ⟨od, es, ep, k _ _ (.inl rfl) e, c⟩, r⟩
 | rng lo hi => obtain ⟨t, u, v, e⟩ := x; exact ⟨t, u, v, k _ _ (.inl rfl) e⟩
 | frz ob u ih => obtain ⟨e, q⟩ := x; exact ⟨k _ _ (.inl rfl) e, ih q⟩
 | tbl ps =>
  have e : h.get? a = some { cls := .none, data := .fields ps } := x
  show h'.get? a = some { cls := .none, data := .fields ps }
  exact k a _ (.inl rfl) e
 | met f y =>
  have e : h.get? a = some (PySem.W.methodObj (.ref f) (.ref y)) := x
  show h'.get? a = some (PySem.W.methodObj (.ref f) (.ref y))
  exact k a _ (.inl rfl) e
 | ext φ => obtain ⟨p, ⟨o, e⟩, st⟩ := x; exact ⟨st _ _ p fun o q => k _ _ (.inl rfl) q, ⟨o, k _ _ (.inl rfl) e⟩, st⟩
theorem HOk.lt (x : HOk P w H h) (e : H a = some o) : a < h.objs.size := (x a o e).lt
theorem HOk.fresh (x : HOk P w H h) (e : h.objs.size <= a) : H a = none := by
 cases q : H a with
 | none => rfl
 | some u => exact absurd (Nat.lt_of_lt_of_le (x.lt q) e) (Nat.lt_irrefl _)
theorem HOk.kept (x : HOk P w H h) (k : ∀ b u, h.get? b = some u -> h'.get? b = some u) : HOk P w H h' := fun a o e =>
 (x a o e).stay (fun b u _ q => k b u q) (fun _ q => q) fun _ _ q => q
theorem HOk.laid (x : HOk P w H h) (k : ∀ b u, h.get? b = some u -> h'.get? b = some u) (hp : h.objs.size <= a) (new : bX P w (upd H a o) h' a o) : HOk P w (upd H a o) h' := fun b u e => by
 have hn := x.fresh hp
 by_cases hb : b = a
 ·subst hb; rw [aD] at e; cases e; exact new
 ·rw [aw hb] at e
  exact (x b u e).stay (fun c v _ q => k c v q) (fun c q => by rw [aw (aV q hn)]; exact q) fun c xs q => by rw [aw (aV q hn)]; exact q
end
def Rd (H : Hp) (a : Addr) (u : HO) : Prop := H a = some u ∨ ∃ o, H a = some (.frz o u)
theorem Rd.ok {P : Program} {w : World} {H : Hp} {h : Heap} {a : Addr} {u : HO} (r : Rd H a u) (x : HOk P w H h) : bX P w H h a u := by
 rcases r with r | ⟨o, r⟩
 ·exact x a u r
 ·obtain ⟨_, q⟩ := x a _ r
  exact q
def Mut : Option HO -> Prop
 | some (.lst _) => True
 | some (.dK _) => True
 | some (.dT _) => True
 | some (.set _ _) => True
 | some (.ins _ _ _) => True
 | some (.ext _) => True
 | _ => False
section
variable {P : Program} {w : World} {H : Hp} {h h' : Heap} {x e : Addr} {o' : HO}
theorem HOk.write (ok : HOk P w H h) (mu : Mut (H x)) (he : e = x ∨ H e = some (.own x)) (k : ∀ b u, b ≠ e -> h.get? b = some u -> h'.get? b = some u) (heo : ∃ u, h'.get? e = some u)
  (new : bX P w (upd H x o') h' x o') : HOk P w (upd H x o') h' := fun b u q => by
 have nown : ∀ c y, H c = some (.own y) -> c ≠ x := fun c y r z => by subst z; rw [r] at mu; exact mu
 have ntup : ∀ c xs, H c = some (.tup xs) -> c ≠ x := fun c xs r z => by subst z; rw [r] at mu; exact mu
 by_cases hb : b = x
 ·subst hb; rw [aD] at q; cases q; exact new
 ·rw [aw hb] at q
  by_cases hbe : b = e
  ·have q' : H b = some (.own x) := by
    rcases he with z | z
    ·exact absurd (hbe.trans z) hb
    ·rw [hbe]; exact z
   rw [q] at q'; cases q'
   obtain ⟨v, hv⟩ := heo
   exact ⟨v, by rw [hbe]; exact hv⟩
  ·refine (ok b u q).stay (fun c v hc r => k c v ?_ r) (fun c r => by rw [aw (nown c b r)]; exact r) fun c xs r => by rw [aw (ntup c xs r)]; exact r
   rcases hc with rfl | hc
   ·exact hbe
   ·rintro rfl
    rcases he with z | z
    ·exact nown c b hc z
    ·rw [hc] at z; cases z; exact hb rfl
end
structure Un (fs ex : List Addr) (H H' : Hp) (h h' : Heap) : Prop where
 keep : ∀ b o, h.get? b = some o -> H b = none -> b ∉ fs -> b ∉ ex -> h'.get? b = some o
 slot : ∀ b o, h.get? b = some o -> H b = none -> b ∈ fs -> b ∉ ex -> ∃ sl, h'.get? b = some { o with slots := sl }
 free : ∀ b o, h.get? b = some o -> H b = none -> b ∉ ex -> H' b = none
 there : ∀ b o, h.get? b = some o -> b ∉ ex -> ∃ o', h'.get? b = some o'
 tups : ∀ b xs, H b = some (.tup xs) -> H' b = some (.tup xs)
 frzs : ∀ b o u, H b = some (.frz o u) -> H' b = some (.frz o u)
 tbls : ∀ b ps, H b = some (.tbl ps) -> ∃ more, H' b = some (.tbl (ps ++ more))
section
variable {fs fs' ex ex' : List Addr} {H H1 H2 : Hp} {h h1 h2 h' : Heap} {a x e : Addr} {o : HO}
theorem Un.any (u : Un fs ex H H1 h h1) {b : Addr} {ob : Obj} (q : h.get? b = some ob) (n : H b = none) (hx : b ∉ ex) : ∃ sl, h1.get? b = some { ob with slots := sl } := by
 by_cases hb : b ∈ fs
 ·exact u.slot b ob q n hb hx
 ·exact ⟨ob.slots, u.keep b ob q n hb hx⟩
theorem Un.kept (k : ∀ b u, h.get? b = some u -> h'.get? b = some u) : Un fs ex H H h h' :=
 ⟨fun b ob q _ _ _ => k b ob q, fun b ob q _ _ _ => ⟨ob.slots, k b ob q⟩, fun _ _ _ n _ => n, fun b ob q _ => ⟨ob, k b ob q⟩, fun _ _ q => q, fun _ _ _ q => q, fun _ ps q => ⟨#[], by rw [q]; simp⟩⟩
theorem Un.refl : Un fs ex H H h h := Un.kept fun _ _ q => q
theorem Un.laid (k : ∀ b u, h.get? b = some u -> h'.get? b = some u) (hp : h.objs.size <= a) (hn : H a = none) : Un fs ex H (upd H a o) h h' where
 keep := fun b u q _ _ _ => k b u q
 slot := fun b u q _ _ _ => ⟨u.slots, k b u q⟩
 free := fun b u q n _ => by rw [aw (Nat.ne_of_lt (Nat.lt_of_lt_of_le (Heap.lt_size q) hp))]; exact n
 there := fun b u q _ => ⟨u, k b u q⟩
 tups := fun b xs q => by rw [aw (aV q hn)]; exact q
 frzs := fun b u xs q => by rw [aw (aV q hn)]; exact q
 tbls := fun b ps q => ⟨#[], by rw [aw (aV q hn), q]; simp⟩
theorem Un.write (mu : Mut (H x)) (he : e = x ∨ H e = some (.own x)) (k : ∀ b u, b ≠ e -> h.get? b = some u -> h'.get? b = some u) (heo : ∃ u, h'.get? e = some u) : Un fs ex H (upd H x o) h h' := by
 have hx : ∀ b, H b = none -> b ≠ x := fun b n z => by subst z; rw [n] at mu; exact mu
 have hb : ∀ b, H b = none -> b ≠ e := fun b n z => by
  subst z
  rcases he with r | r
  ·exact hx b n r
  ·rw [n] at r; cases r
 have hm : ∀ b u, H b = some u -> ¬ Mut (some u) -> b ≠ x := fun b u q nm z => by subst z; rw [q] at mu; exact nm mu
 refine ⟨fun b u q n _ _ => k b u (hb b n) q, fun b u q n _ _ => ⟨u.slots, k b u (hb b n) q⟩, fun b u q n _ => by rw [aw (hx b n)]; exact n, fun b u q _ => ?_,
  fun b xs q => by rw [aw (hm b _ q fun z => z)]; exact q, fun b u xs q => by rw [aw (hm b _ q fun z => z)]; exact q, fun b ps q => ⟨#[], by rw [aw (hm b _ q fun z => z), q]; simp⟩⟩
 by_cases hbe : b = e
 ·subst hbe; exact heo
 ·exact ⟨u, k b u hbe q⟩
end
def trk (h : Heap) (H : Hp) : List Addr := (List.range h.objs.size).filter fun a => (H a).isSome
def jw (h : Heap) (H : Hp) : Heap := PySem.W.hideAll h (trk h H)
theorem uc (h : Heap) (H : Hp) : (jw h H).objs.size = h.objs.size := PySem.W.hideAll_size _ _
theorem vX {h : Heap} {H : Hp} {b : Addr} {o : Obj} (e : h.get? b = some o) (n : H b = none) : (jw h H).get? b = some o :=
 PySem.W.hideAll_get _ e fun hm => by
  have q : (H b).isSome = true := (List.mem_filter.mp hm).2
  rw [n] at q; simp at q
theorem xT {h : Heap} {H : Hp} {b : Addr} {o : Obj} (e : (jw h H).get? b = some o) : h.get? b = some o /\ H b = none := by
 have e' : h.get? b = some o := PySem.W.of_hideAll (trk h H) e
 refine ⟨e', ?_⟩
 cases q : H b with
 | none => rfl
 | some x =>
  have hm : b ∈ trk h H := List.mem_filter.mpr ⟨List.mem_range.mpr (Heap.lt_size e'), by simp [q]⟩
  have z : (jw h H).get? b = none := PySem.W.hideAll_none (trk h H) hm
  rw [z] at e; cases e
def xW (g h : Heap) (L : Addr) : List (Addr × Obj) := (List.range h.objs.size).filterMap fun a => if a = L ∨ (g.get? a).isSome = true then none else (h.get? a).map fun o => (a, o)
def rest (g h : Heap) (L d : Addr) : List (Addr × Obj) := (xW g h L).filter fun p => decide (p.1 ≠ d)
end L2
namespace L2
open PySem PySem.Spec PyProof.Rows
structure Mod (K : PySem.W.Frag) (mg : Str -> Option Value) (base : Heap) : Prop where
 kin : K.In base
 glob : base.Ns mainGlobals mg
 blt : ∃ mb, base.Ns builtinsNs mb /\ ∀ x : Str, x ≠ "__name__" -> mb x = bootBuiltins x
 nolimit : base.NoLimit
structure Cx where
 prog : Program
 w : World
 K : PySem.W.Frag
 mg : Str -> Option Value
 base : Heap
 A : Around
 N : List Str
 s₀ : Shared
 H₀ : Hp
 env : Env
 outer : List Env
 stack : List Env
 ex : List Addr
 fn : Str -> Bool
 calm : Bool
 pn : List (Addr × Obj)
 xe : Value -> Shared -> Prop
def frs (l : List Env) : List Addr := l.filterMap (·.frame)
abbrev Cx.fs (X : Cx) : List Addr := frs X.outer
def Vis (sc : Scope) (x : Str) : Prop := sc.names.lookup x = some .local ∨ sc.names.lookup x = some .cell ∨ sc.names.lookup x = some .free
def Loc (sc : Scope) (x : Str) : Prop := sc.names.lookup x = some .local ∨ sc.names.lookup x = some .cell
def Look (env : Env) (h : Heap) (m : Str -> Option Value) (x : Str) (u : Value) : Prop :=
 (env.kindOf x = some .local /\ m x = some u) ∨ ((env.kindOf x = some .cell ∨ env.kindOf x = some .free) /\ ∃ c, env.cells.lookup x = some c /\ h.IsCell c (some u))
structure Cx.Ok (X : Cx) : Prop where
 mod : Mod X.K X.mg X.base
 kind : X.env.scope.kind = .function
 glob : X.env.globals = mainGlobals
 blt : X.env.builtins = builtinsNs
 above : X.s₀.heap.objs.size <= X.env.locals
 inj : ∀ x y c, X.env.cells.lookup x = some c -> X.env.cells.lookup y = some c -> x = y
 has : ∀ x, (X.env.kindOf x = some .cell ∨ X.env.kindOf x = some .free) -> ∃ c, X.env.cells.lookup x = some c
 cab : ∀ x c, X.fn x = true -> X.env.cells.lookup x = some c -> X.s₀.heap.objs.size <= c
 hd : X.calm = true -> X.A.handled = none
 frames : X.A.frames = some X.stack
 stk : X.stack = X.outer ∨ (X.stack = X.env :: X.outer /\ X.env.frame = some X.env.locals)
 exf : ∀ b ∈ X.ex, b ≠ X.env.locals /\ ∀ x c, X.env.cells.lookup x = some c -> c ≠ b
 bs : ∀ b o, X.base.get? b = some o -> X.s₀.heap.get? b = some o /\ X.H₀ b = none
 bsz : X.base.objs.size <= X.s₀.heap.objs.size
 noex : ∀ b o, X.base.get? b = some o -> b ∉ X.ex
 exfs : ∀ b ∈ X.ex, b ∉ X.fs
 funs : X.s₀.heap.FunFrames X.base X.outer
 frf : ∀ b ∈ X.fs, X.H₀ b = none
structure Inv (X : Cx) (pins : List (Addr × Obj)) (σ : List (Option V)) (H : Hp) (s : Shared) : Prop where
 ok : X.Ok
 os : s.os = X.s₀.os
 bare : AllBare s.gens
 base : Un X.fs X.ex X.H₀ H X.s₀.heap s.heap
 loc : ∃ m, s.heap.Ns X.env.locals m /\ ∀ (i : Nat) (x : Str) (v : V), X.N[i]? = some x -> σ[i]? = some (some v) -> Vis X.env.scope x -> ∃ u, RelV v u /\ Look X.env s.heap m x u
 cell : ∀ x c, X.env.cells.lookup x = some c -> ∃ v, s.heap.IsCell c v
 free : H X.env.locals = none
 freeC : ∀ x c, X.env.cells.lookup x = some c -> H c = none
 pin : ∀ p ∈ X.pn ++ pins, s.heap.get? p.1 = some p.2 /\ H p.1 = none /\ p.1 ≠ X.env.locals /\ p.1 ∉ X.fs /\ ∀ v, p.2.data ≠ .cell v
 hok : HOk X.prog X.w H s.heap
 len : σ.length = X.N.length
section
variable {X : Cx} {pins : List (Addr × Obj)} {σ : List (Option V)} {H H' : Hp} {s : Shared} {h' : Heap}
theorem Cx.Ok.nofr (ok : X.Ok) {b : Addr} {o : Obj} (e : X.base.get? b = some o) : b ∉ X.fs := fun hb => by
 have := (ok.funs.mem hb).1
 rw [e] at this; cases this
theorem Inv.bs (I : Inv X pins σ H s) : ∀ b o, X.base.get? b = some o -> s.heap.get? b = some o /\ H b = none := fun b o e =>
 ⟨I.base.keep b o (I.ok.bs b o e).1 (I.ok.bs b o e).2 (I.ok.nofr e) (I.ok.noex b o e), I.base.free b o (I.ok.bs b o e).1 (I.ok.bs b o e).2 (I.ok.noex b o e)⟩
theorem Inv.bk (I : Inv X pins σ H s) : ∀ b o, X.base.get? b = some o -> s.heap.get? b = some o := fun b o e => (I.bs b o e).1
theorem Inv.mod (I : Inv X pins σ H s) : Mod X.K X.mg X.base := I.ok.mod
theorem Inv.kIn (I : Inv X pins σ H s) : X.K.In s.heap := I.ok.mod.kin.keeps I.bk
theorem Inv.lt (I : Inv X pins σ H s) : X.env.locals < s.heap.objs.size := let ⟨_, hn, _⟩ := I.loc; hn.lt
theorem Inv.sz (I : Inv X pins σ H s) : X.s₀.heap.objs.size <= s.heap.objs.size := Nat.le_trans I.ok.above (Nat.le_of_lt I.lt)
theorem Inv.nofs (I : Inv X pins σ H s) {a : Addr} (h : s.heap.objs.size <= a) : a ∉ X.fs := fun hb => by
 obtain ⟨_, o, ho, _⟩ := I.ok.funs.mem hb
 exact absurd (Nat.lt_of_lt_of_le (Heap.lt_size ho) (Nat.le_trans I.sz h)) (Nat.lt_irrefl _)
theorem Inv.cne (I : Inv X pins σ H s) : ∀ x c, X.env.cells.lookup x = some c -> c ≠ X.env.locals := fun x c e z => by
 obtain ⟨v, o, ho, hd⟩ := I.cell x c e
 obtain ⟨m, ⟨o', es, ep, ho', hd', _⟩, _⟩ := I.loc
 rw [z, ho'] at ho; cases ho; rw [hd'] at hd; cases hd
theorem Inv.funs (I : Inv X pins σ H s) : s.heap.FunFrames X.base X.outer := by
 have all : ∀ (l : List Env), (∀ b ∈ frs l, b ∈ X.fs) -> X.s₀.heap.FunFrames X.base l -> s.heap.FunFrames X.base l := by
  intro l
  induction l with
  | nil => intro _ _; trivial
  | cons env r ih =>
   intro hs hl
   obtain ⟨hk, ⟨L, o, hf, hn, ho, hd⟩, hr⟩ := hl
   have hL : L ∈ X.fs := hs L (by unfold frs; rw [List.filterMap_cons, hf]; exact List.mem_cons_self)
   obtain ⟨sl, e⟩ := I.base.slot L o ho (I.ok.frf L hL) hL fun z => I.ok.exfs L z hL
   exact ⟨hk, ⟨L, _, hf, hn, e, hd⟩, ih (fun b hb => hs b (by unfold frs; rw [List.filterMap_cons, hf]; exact List.mem_cons_of_mem _ hb)) hr⟩
 exact all X.outer (fun _ hb => hb) I.ok.funs
theorem Inv.stack (I : Inv X pins σ H s) : s.heap.FunFrames X.base X.stack := by
 rcases I.ok.stk with e | ⟨e, hf⟩
 ·rw [e]; exact I.funs
 ·rw [e]
  obtain ⟨m, hn, _⟩ := I.loc
  refine .cons (by rw [I.ok.kind]; decide) hf hn ?_ I.funs
  exact Heap.get?_none_of_le (Nat.le_trans I.ok.bsz I.ok.above)
theorem Inv.stkSub (I : Inv X pins σ H s) : ∀ b ∈ frs X.stack, b ∈ X.env.locals :: X.fs := fun b hb => by
 rcases I.ok.stk with e | ⟨e, hf⟩
 ·rw [e] at hb; exact List.mem_cons_of_mem _ hb
 ·rw [e] at hb
  unfold frs at hb
  rw [List.filterMap_cons, hf] at hb
  exact hb
theorem Inv.stkFree (I : Inv X pins σ H s) : ∀ b ∈ frs X.stack, H b = none := fun b hb => by
 rcases List.mem_cons.mp (I.stkSub b hb) with e | hb
 ·rw [e]; exact I.free
 ·obtain ⟨_, o, ho, _⟩ := I.ok.funs.mem hb
  exact I.base.free b o ho (I.ok.frf b hb) fun z => I.ok.exfs b z hb
theorem Inv.step {g' : Array GenState} {t' : Nat} {d' : Drawn} {ch : List Addr} (I : Inv X pins σ H s)
  (hch : ∀ b ∈ ch, (b ∈ X.ex ∨ X.s₀.heap.objs.size <= b) /\ b ≠ X.env.locals /\ (∀ x c, X.env.cells.lookup x = some c -> c ≠ b) /\ ∀ p ∈ X.pn ++ pins, p.1 ≠ b)
  (keep : ∀ b o, b ≠ X.env.locals -> b ∉ X.fs -> b ∉ ch -> s.heap.get? b = some o -> H b = none -> h'.get? b = some o)
  (slot : ∀ b o, b ≠ X.env.locals -> b ∈ X.fs -> b ∉ ch -> s.heap.get? b = some o -> H b = none -> ∃ sl, h'.get? b = some { o with slots := sl }) (free : ∀ b o, b ∉ ch -> s.heap.get? b = some o -> H b = none -> H' b = none)
  (there : ∀ b o, b ∉ ch -> s.heap.get? b = some o -> ∃ o', h'.get? b = some o')
  (tups : ∀ b xs, H b = some (.tup xs) -> H' b = some (.tup xs)) (frzs : ∀ b o u, H b = some (.frz o u) -> H' b = some (.frz o u)) (tbls : ∀ b ps, H b = some (.tbl ps) -> ∃ more, H' b = some (.tbl (ps ++ more)))
  (ns : ∀ m, s.heap.Ns X.env.locals m -> h'.Ns X.env.locals m) (hok : HOk X.prog X.w H' h') (hg : AllBare g') :
  Inv X pins σ H' { s with heap := h', gens := g', drawn := d', toks := t' } := by
 have neL : ∀ b o, X.s₀.heap.get? b = some o -> b ≠ X.env.locals := fun b o e => Nat.ne_of_lt (Nat.lt_of_lt_of_le (Heap.lt_size e) I.ok.above)
 have neC : ∀ b o, X.s₀.heap.get? b = some o -> b ∉ X.ex -> b ∉ ch := fun b o e hx hb => by
  rcases (hch b hb).1 with z | z
  ·exact hx z
  ·exact absurd (Nat.lt_of_lt_of_le (Heap.lt_size e) z) (Nat.lt_irrefl _)
 have cellK : ∀ x c, X.env.cells.lookup x = some c -> ∀ v, s.heap.IsCell c v -> h'.IsCell c v := fun x c e v ⟨o, ho, hd⟩ => by
  have nch : c ∉ ch := fun z => (hch c z).2.2.1 x c e rfl
  by_cases hc : c ∈ X.fs
  ·obtain ⟨sl, q⟩ := slot c o (I.cne x c e) hc nch ho (I.freeC x c e)
   exact ⟨_, q, hd⟩
  ·exact ⟨o, keep c o (I.cne x c e) hc nch ho (I.freeC x c e), hd⟩
 refine ⟨I.ok, I.os, hg, ⟨fun b o e n hb hx => ?_, fun b o e n hb hx => ?_, fun b o e n hx => ?_, fun b o e hx => ?_, fun b xs e => tups b xs (I.base.tups b xs e), fun b o xs e => frzs b o xs (I.base.frzs b o xs e), fun b ps e => ?_⟩, ?_, fun x c e => ?_, ?_, fun x c e => ?_, fun p hp => ?_, hok, I.len⟩
 ·exact keep b o (neL b o e) hb (neC b o e hx) (I.base.keep b o e n hb hx) (I.base.free b o e n hx)
 ·obtain ⟨sl, e1⟩ := I.base.slot b o e n hb hx
  obtain ⟨sl', e2⟩ := slot b _ (neL b o e) hb (neC b o e hx) e1 (I.base.free b o e n hx)
  exact ⟨sl', e2⟩
 ·obtain ⟨o', e1⟩ := I.base.there b o e hx
  exact free b o' (neC b o e hx) e1 (I.base.free b o e n hx)
 ·obtain ⟨o', e1⟩ := I.base.there b o e hx
  exact there b o' (neC b o e hx) e1
 ·obtain ⟨m1, e1⟩ := I.base.tbls b ps e
  obtain ⟨m2, e2⟩ := tbls b _ e1
  exact ⟨m1 ++ m2, by rw [e2, Array.append_assoc]⟩
 ·obtain ⟨m, hn, hl⟩ := I.loc
  refine ⟨m, ns m hn, fun i x v e1 e2 e3 => ?_⟩
  obtain ⟨u, r, l⟩ := hl i x v e1 e2 e3
  refine ⟨u, r, ?_⟩
  rcases l with l | ⟨k, c, e, z⟩
  ·exact .inl l
  ·exact .inr ⟨k, c, e, cellK x c e _ z⟩
 ·obtain ⟨v, z⟩ := I.cell x c e
  exact ⟨v, cellK x c e v z⟩
 ·obtain ⟨m, ⟨o, _, _, ho, _⟩, _⟩ := I.loc
  exact free _ o (fun z => (hch _ z).2.1 rfl) ho I.free
 ·obtain ⟨v, o, ho, hd⟩ := I.cell x c e
  exact free c o (fun z => (hch c z).2.2.1 x c e rfl) ho (I.freeC x c e)
 ·obtain ⟨e, n, ne, nf, d⟩ := I.pin p hp
  have nch : p.1 ∉ ch := fun z => (hch p.1 z).2.2.2 p hp rfl
  exact ⟨keep p.1 p.2 ne nf nch e n, free p.1 p.2 nch e n, ne, nf, d⟩
theorem Inv.un {t' : Nat} (I : Inv X pins σ H s) (u : Un X.fs [] H H' s.heap h') (hok : HOk X.prog X.w H' h') : Inv X pins σ H' { s with heap := h', toks := t' } := by
 obtain ⟨m, ⟨o, es, ep, ho, r⟩, _⟩ := id I.loc
 obtain ⟨sl, hL⟩ := u.any ho I.free (by simp)
 exact I.step (g' := s.gens) (d' := s.drawn) (ch := []) (fun _ z => nomatch z) (fun b o _ hb _ e n => u.keep b o e n hb (by simp)) (fun b o _ hb _ e n => u.slot b o e n hb (by simp)) (fun b o _ e n => u.free b o e n (by simp)) (fun b o _ e => u.there b o e (by simp)) u.tups u.frzs u.tbls (fun m' hm => by
  obtain ⟨o', es', ep', ho', r'⟩ := hm
  rw [ho] at ho'; cases ho'
  exact ⟨_, es', ep', hL, r'⟩) hok I.bare
theorem Inv.call {g' : Array GenState} {t' : Nat} {d' : Drawn} {ch : List Addr} (I : Inv X pins σ H s) (u : Un (frs X.stack) ch H H' s.heap h') (hok : HOk X.prog X.w H' h') (hg : AllBare g')
  (hch : ∀ b ∈ ch, (b ∈ X.ex ∨ X.s₀.heap.objs.size <= b) /\ b ≠ X.env.locals /\ (∀ x c, X.env.cells.lookup x = some c -> c ≠ b) /\ ∀ p ∈ X.pn ++ pins, p.1 ≠ b) :
  Inv X pins σ H' { s with heap := h', gens := g', drawn := d', toks := t' } := by
 obtain ⟨m, ⟨o, es, ep, ho, r⟩, _⟩ := id I.loc
 obtain ⟨sl, hL⟩ := u.any ho I.free fun z => (hch _ z).2.1 rfl
 exact I.step (ch := ch) hch (fun b o hL hb hc e n => u.keep b o e n (fun z => (List.mem_cons.mp (I.stkSub b z)).elim hL hb) hc) (fun b o _ _ hc e n => u.any e n hc) (fun b o hc e n => u.free b o e n hc) (fun b o hc e => u.there b o e hc) u.tups u.frzs u.tbls (fun m' hm => by
  obtain ⟨o', es', ep', ho', r'⟩ := hm
  rw [ho] at ho'; cases ho'
  exact ⟨_, es', ep', hL, r'⟩) hok hg
theorem Inv.turned {t' : Nat} {it : Addr} (I : Inv X pins σ H s) (k : ∀ b o, b ≠ it -> s.heap.get? b = some o -> h'.get? b = some o) (hn : H it = none) (hL : it ≠ X.env.locals)
  (h1 : it ∈ X.ex ∨ X.s₀.heap.objs.size <= it) (h2 : ∀ x c, X.env.cells.lookup x = some c -> c ≠ it) (h3 : ∀ p ∈ X.pn ++ pins, p.1 ≠ it) : Inv X pins σ H { s with heap := h', toks := t' } := by
 have nit : ∀ b u, H b = some u -> b ≠ it := fun b u e z => by rw [z, hn] at e; cases e
 refine I.step (g' := s.gens) (d' := s.drawn) (ch := [it]) (fun b hb => ?_) (fun b o _ _ hc e _ => k b o (fun z => hc (by simp [z])) e) (fun b o _ _ hc e _ => ⟨o.slots, k b o (fun z => hc (by simp [z])) e⟩) (fun _ _ _ _ n => n)
  (fun b o hc e => ⟨o, k b o (fun z => hc (by simp [z])) e⟩) (fun _ _ e => e) (fun _ _ _ e => e) (fun b ps e => ⟨#[], by rw [e]; simp⟩) (fun m hm => ?_) (fun b u e => ?_) I.bare
 ·have e : b = it := by simpa using hb
  subst e
  exact ⟨h1, hL, h2, h3⟩
 ·obtain ⟨o, es, ep, ho, r⟩ := hm
  exact ⟨o, es, ep, k _ o (Ne.symm hL) ho, r⟩
 ·refine (I.hok b u e).stay (fun c v hc q => k c v ?_ q) (fun _ q => q) fun _ _ q => q
  rcases hc with z | z
  ·rw [z]; exact nit b u e
  ·exact nit c _ z
theorem Inv.tok (I : Inv X pins σ H s) (t : Nat) : Inv X pins σ H { s with toks := t } := I.un (h' := s.heap) (t' := t) Un.refl I.hok
theorem Inv.kept {t' : Nat} (I : Inv X pins σ H s) (k : ∀ b u, s.heap.get? b = some u -> h'.get? b = some u) : Inv X pins σ H { s with heap := h', toks := t' } := I.un (Un.kept k) (I.hok.kept k)
theorem Inv.laid {a : Addr} {o : HO} {t' : Nat} (I : Inv X pins σ H s) (k : ∀ b u, s.heap.get? b = some u -> h'.get? b = some u) (hp : s.heap.objs.size <= a) (new : bX X.prog X.w (upd H a o) h' a o) :
  Inv X pins σ (upd H a o) { s with heap := h', toks := t' } := I.un (Un.laid k hp (I.hok.fresh hp)) (I.hok.laid k hp new)
theorem Inv.write {x e : Addr} {o : HO} {t' : Nat} (I : Inv X pins σ H s) (mu : Mut (H x)) (he : e = x ∨ H e = some (.own x)) (k : ∀ b u, b ≠ e -> s.heap.get? b = some u -> h'.get? b = some u) (heo : ∃ u, h'.get? e = some u)
  (new : bX X.prog X.w (upd H x o) h' x o) : Inv X pins σ (upd H x o) { s with heap := h', toks := t' } := I.un (Un.write mu he k heo) (I.hok.write mu he k heo new)
theorem Inv.pins_of {pins' : List (Addr × Obj)} (I : Inv X pins σ H s) (h : ∀ p ∈ pins', s.heap.get? p.1 = some p.2 /\ H p.1 = none /\ p.1 ≠ X.env.locals /\ p.1 ∉ X.fs /\ ∀ v, p.2.data ≠ .cell v) : Inv X pins' σ H s :=
 ⟨I.ok, I.os, I.bare, I.base, I.loc, I.cell, I.free, I.freeC, fun p hp => (List.mem_append.mp hp).elim (fun z => I.pin p (List.mem_append_left _ z)) (h p), I.hok, I.len⟩
theorem oR {N : List Str} (hN : N.Nodup) {i j : Nat} {x : Str} (a : N[i]? = some x) (b : N[j]? = some x) : i = j := by
 obtain ⟨h1, e1⟩ := List.getElem?_eq_some_iff.mp a
 obtain ⟨h2, e2⟩ := List.getElem?_eq_some_iff.mp b
 exact (List.getElem_inj hN).mp (e1.trans e2.symm)
theorem nr {M : Model} {A : Around} {E : Value -> Shared -> Prop} {i : Nat} {x : Str} {v : V} {u : Value} {Q : Unit -> Shared -> Prop} (I : Inv X pins σ H s) (hN : X.N.Nodup) (hi : X.N[i]? = some x) (hx : Loc X.env.scope x) (r : RelV v u)
  (h : ∀ s', Inv X pins (σ.set i (some v)) H s' -> (∃ a, Heap.SameBut a s.heap s'.heap /\ (a = X.env.locals ∨ X.env.cells.lookup x = some a)) -> Q () s') (hf : X.fn x = true ∨ X.env.scope.names.lookup x = some .local := by first | exact .inl rfl | exact .inr rfl | assumption) : wpAny M A (storeName X.env x u) Q E s := by
 obtain ⟨m, hn, hl⟩ := id I.loc
 have hcls : (X.env.scope.kind == .class || (X.env.scope.kind == .module && X.env.locals != X.env.globals)) = false := by rw [I.ok.kind]; rfl
 have hiσ : i < σ.length := by rw [I.len]; exact (List.getElem?_eq_some_iff.mp hi).1
 have cne := I.cne
 have tracked : ∀ {a : Addr} {h' : Heap}, (∃ o, s.heap.get? a = some o /\ H a = none) -> Heap.SameBut a s.heap h' -> HOk X.prog X.w H h' := fun {a h'} ha hs b ob e => by
  obtain ⟨_, _, hfree⟩ := ha
  refine (I.hok b ob e).stay (fun c w' hc q => (hs.2 c ?_).trans q) (fun _ q => q) fun _ _ q => q
  rintro rfl
  rcases hc with rfl | hc
  ·rw [hfree] at e; cases e
  ·rw [hfree] at hc; cases hc
 rcases hx with hk | hk
 ·refine wpAny_storeName_local hk hn (fun h' hn' hs => ?_) hcls
  obtain ⟨oL, _, _, hoL, _⟩ := id hn
  refine h _ ⟨I.ok, I.os, I.bare, ⟨fun b o e n hb hx => ?_, fun b o e n hb hx => ?_, I.base.free, fun b o e hx => ?_, I.base.tups, I.base.frzs, I.base.tbls⟩, ⟨_, hn', fun j y v' e1 e2 e3 => ?_⟩, fun y c e => ?_, I.free, I.freeC, fun p hp => ?_, tracked ⟨oL, hoL, I.free⟩ hs, by simpa using I.len⟩ ⟨_, hs, .inl rfl⟩
  ·exact (hs.2 b (Nat.ne_of_lt (Nat.lt_of_lt_of_le (Heap.lt_size e) I.ok.above))).trans (I.base.keep b o e n hb hx)
  ·obtain ⟨sl, e1⟩ := I.base.slot b o e n hb hx
   exact ⟨sl, (hs.2 b (Nat.ne_of_lt (Nat.lt_of_lt_of_le (Heap.lt_size e) I.ok.above))).trans e1⟩
  ·obtain ⟨o', e1⟩ := I.base.there b o e hx
   exact ⟨o', (hs.2 b (Nat.ne_of_lt (Nat.lt_of_lt_of_le (Heap.lt_size e) I.ok.above))).trans e1⟩
  ·by_cases hj : j = i
   ·subst hj
    rw [hi] at e1; cases e1
    rw [List.getElem?_set_self hiσ] at e2
    cases e2
    exact ⟨u, r, .inl ⟨hk, by simp⟩⟩
   ·rw [List.getElem?_set_ne (Ne.symm hj)] at e2
    obtain ⟨u', r', q⟩ := hl j y v' e1 e2 e3
    refine ⟨u', r', ?_⟩
    rcases q with ⟨k, e⟩ | ⟨k, c, e, z⟩
    ·refine .inl ⟨k, ?_⟩
     have : y ≠ x := fun e => hj (oR hN e1 (e ▸ hi))
     simp [this, e]
    ·exact .inr ⟨k, c, e, z.sameBut hs (cne y c e)⟩
  ·obtain ⟨w', z⟩ := I.cell y c e
   exact ⟨w', z.sameBut hs (cne y c e)⟩
  ·obtain ⟨e, n, ne, nf, d⟩ := I.pin p hp
   exact ⟨(hs.2 p.1 ne).trans e, n, ne, nf, d⟩
 ·have hfn : X.fn x = true := by
   rcases hf with z | z
   ·exact z
   ·rw [z] at hk; cases hk
  obtain ⟨c, hc⟩ := I.ok.has x (.inl hk)
  obtain ⟨w', z⟩ := I.cell x c hc
  refine wpAny_storeName_cell I.ok.kind hk hc z (fun h' hc' hs => ?_)
  obtain ⟨oc, hoc, hocd⟩ := id z
  refine h { s with heap := h' } ⟨I.ok, I.os, I.bare, ⟨fun b o e n hb hx => ?_, fun b o e n hb hx => ?_, I.base.free, fun b o e hx => ?_, I.base.tups, I.base.frzs, I.base.tbls⟩, ⟨m, hn.sameBut hs (Ne.symm (cne x c hc)), fun j y v' e1 e2 e3 => ?_⟩, fun y c' e => ?_, I.free, I.freeC, fun p hp => ?_, tracked ⟨oc, hoc, I.freeC x c hc⟩ hs, by simpa using I.len⟩ ⟨c, hs, .inr hc⟩
  ·exact (hs.2 b (Nat.ne_of_lt (Nat.lt_of_lt_of_le (Heap.lt_size e) (I.ok.cab x c hfn hc)))).trans (I.base.keep b o e n hb hx)
  ·obtain ⟨sl, e1⟩ := I.base.slot b o e n hb hx
   exact ⟨sl, (hs.2 b (Nat.ne_of_lt (Nat.lt_of_lt_of_le (Heap.lt_size e) (I.ok.cab x c hfn hc)))).trans e1⟩
  ·obtain ⟨o', e1⟩ := I.base.there b o e hx
   exact ⟨o', (hs.2 b (Nat.ne_of_lt (Nat.lt_of_lt_of_le (Heap.lt_size e) (I.ok.cab x c hfn hc)))).trans e1⟩
  ·by_cases hj : j = i
   ·subst hj
    rw [hi] at e1; cases e1
    rw [List.getElem?_set_self hiσ] at e2
    cases e2
    exact ⟨u, r, .inr ⟨.inl hk, c, hc, hc'⟩⟩
   ·rw [List.getElem?_set_ne (Ne.symm hj)] at e2
    obtain ⟨u', r', q⟩ := hl j y v' e1 e2 e3
    refine ⟨u', r', ?_⟩
    rcases q with q | ⟨k, c', e, z'⟩
    ·exact .inl q
    ·refine .inr ⟨k, c', e, z'.sameBut hs ?_⟩
     rintro rfl
     exact hj (oR hN e1 (I.ok.inj _ _ _ e hc ▸ hi))
  ·by_cases hcc : c' = c
   ·subst hcc; exact ⟨_, hc'⟩
   ·obtain ⟨w2, z2⟩ := I.cell y c' e
    exact ⟨w2, z2.sameBut hs hcc⟩
  ·obtain ⟨e, n, ne, nf, d⟩ := I.pin p hp
   refine ⟨(hs.2 p.1 ?_).trans e, n, ne, nf, d⟩
   intro q
   rw [q, hoc] at e
   have q' : oc = p.2 := Option.some.inj e
   exact d w' (by rw [<- q']; exact hocd)
theorem eZ {M : Model} {A : Around} {E : Value -> Shared -> Prop} {i : Nat} {x : Str} {v : V} {u : Value} {Q : Unit -> Shared -> Prop} (I : Inv X pins σ H s) (hN : X.N.Nodup) (hi : X.N[i]? = some x) (hx : Loc X.env.scope x) (r : RelV v u)
  (h : ∀ s', Inv X pins (σ.set i (some v)) H s' -> Q () s') (hf : X.fn x = true ∨ X.env.scope.names.lookup x = some .local := by first | exact .inl rfl | exact .inr rfl | assumption) : wpAny M A (storeName X.env x u) Q E s :=
 nr I hN hi hx r (fun s' I' _ => h s' I') hf
theorem Inv.call' {s' : Shared} {ch : List Addr} (I : Inv X pins σ H s) (ho : s'.os = s.os) (u : Un (frs X.stack) ch H H' s.heap s'.heap) (hok : HOk X.prog X.w H' s'.heap) (hg : AllBare s'.gens)
  (hch : ∀ b ∈ ch, (b ∈ X.ex ∨ X.s₀.heap.objs.size <= b) /\ b ≠ X.env.locals /\ (∀ x c, X.env.cells.lookup x = some c -> c ≠ b) /\ ∀ p ∈ X.pn ++ pins, p.1 ≠ b) : Inv X pins σ H' s' := by
 obtain ⟨h', g', d', t', o'⟩ := s'
 have e : o' = s.os := ho
 subst e
 exact I.call (g' := g') (t' := t') (d' := d') u hok hg hch
end
abbrev XK := Value -> Option Addr -> Hp -> Prop
abbrev St := List (Option V)
abbrev VK := V -> Hp -> Prop
abbrev TE := St -> Hp -> VK -> Prop
abbrev TT := St -> Hp -> (Bool -> Hp -> Prop) -> Prop
abbrev TA := St -> Hp -> (List V -> Hp -> Prop) -> Prop
structure Ends where
 nx : St -> Hp -> Prop
 rt : VK
 bk : St -> Hp -> Prop := fun _ _ => False
 ct : St -> Hp -> Prop := fun _ _ => False
abbrev TS := Ends -> St -> Hp -> Prop
def EP (X : Cx) (pins : List (Addr × Obj)) (σ : St) (Q : VK) (u : Value) (s' : Shared) : Prop := ∃ v H', Inv X pins σ H' s' /\ RelV v u /\ Q v H'
def AP (X : Cx) (pins : List (Addr × Obj)) (σ : St) (Q : List V -> Hp -> Prop) (us : List Value) (s' : Shared) : Prop := ∃ vs H', Inv X pins σ H' s' /\ Vals vs us /\ Q vs H'
def SP (X : Cx) (pins : List (Addr × Obj)) (D : Ends) (f : Flow) (s' : Shared) : Prop :=
 match f with
 | .next => ∃ σ' H', Inv X pins σ' H' s' /\ D.nx σ' H'
 | .brk => ∃ σ' H', Inv X pins σ' H' s' /\ D.bk σ' H'
 | .cont => ∃ σ' H', Inv X pins σ' H' s' /\ D.ct σ' H'
 | .ret u => ∃ v σ' H', Inv X pins σ' H' s' /\ RelV v u /\ D.rt v H'
def PE (X : Cx) (e : Expr) (t : TE) : Prop :=
 ∀ (pins : List (Addr × Obj)) (s : Shared) (σ : St) (H : Hp) (Q : VK), Inv X pins σ H s -> t σ H Q -> wpAny (model X.prog X.w) X.A (eval e X.env) (EP X pins σ Q) X.xe s
def PA (X : Cx) (es : List Expr) (t : TA) : Prop :=
 ∀ (pos : Pos) (pins : List (Addr × Obj)) (s : Shared) (σ : St) (H : Hp) (Q : List V -> Hp -> Prop), Inv X pins σ H s -> t σ H Q -> wpAny (model X.prog X.w) X.A (spliced (backTo pos (starEach es X.env))) (AP X pins σ Q) X.xe s
def PS (X : Cx) (st : Stmt) (t : TS) : Prop :=
 ∀ (pins : List (Addr × Obj)) (s : Shared) (σ : St) (H : Hp) (D : Ends), Inv X pins σ H s -> t D σ H -> wpAny (model X.prog X.w) X.A (exec st X.env) (SP X pins D) X.xe s
def PSs (X : Cx) (st : List Stmt) (t : TS) : Prop :=
 ∀ (pins : List (Addr × Obj)) (s : Shared) (σ : St) (H : Hp) (D : Ends), Inv X pins σ H s -> t D σ H -> wpAny (model X.prog X.w) X.A (execs st X.env) (SP X pins D) X.xe s
theorem thn {α : Type} {t : Sem α} {Q Q' : α -> Shared -> Prop} {M : Model} {A : Around} {E : Value -> Shared -> Prop} {s : Shared} (h : wpAny M A t Q E s) (hQ : ∀ a s, Q a s -> Q' a s) : wpAny M A t Q' E s := wpAny_mono h hQ fun _ _ x => x
end L2
namespace L2
open PySem PySem.Spec PyProof.Rows
section
variable {X : Cx}
def sr (i : Nat) : TE := fun σ H Q => ∃ v, σ[i]? = some (some v) /\ Q v H
def tC (v : V) : TE := fun _ H Q => Q v H
theorem gH {i : Nat} {x : Str} {pos : Pos} (hN : X.N[i]? = some x) (hv : Vis X.env.scope x) (hd : (x == ("__debug__" : Str)) = false := by decide) (hcd : (x == ("__classdict__" : Str)) = false := by decide) : PE X (.Name x pos) (sr i) := by
 intro pins s σ H Q I h
 obtain ⟨v, e, h⟩ := h
 obtain ⟨m, hn, hl⟩ := I.loc
 obtain ⟨u, r, l⟩ := hl i x v hN e hv
 have fin : EP X pins σ Q u s := ⟨v, H, I, r, h⟩
 rcases l with ⟨hk, hm⟩ | ⟨hk, c, hc, hcell⟩
 ·exact wpAny_Name (wpAny_loadName_local I.ok.kind hk hn hm fin) hd
 ·rcases hk with hk | hk
  ·exact wpAny_Name (wpAny_loadName_cell I.ok.kind hk hc hcell fin) hd
  ·exact wpAny_Name (wpAny_loadName_free I.ok.kind hk hc hcell fin hcd) hd
theorem l4 {i j pos} : PE X (.Constant (.int i) j pos) (tC (.int i)) := fun _ _ _ H _ I h => wpAny_Constant_int ⟨.int i, H, I.tok _, ⟨_, rfl⟩, h⟩
theorem AA {b j pos} : PE X (.Constant (.bool b) j pos) (tC (.bl b)) := fun _ _ _ H _ I h => Constant_bool ⟨.bl b, H, I, rfl, h⟩
theorem zK {j pos} : PE X (.Constant .none j pos) (tC .non) := fun _ _ _ H _ I h => Constant_none ⟨.non, H, I, rfl, h⟩
theorem ub {x j pos} : PE X (.Constant (.str x) j pos) (tC (.str x)) := fun _ _ _ H _ I h => Calls.Constant_str ⟨.str x, H, I.tok _, ⟨_, rfl⟩, h⟩
def Gl (X : Cx) (x : Str) : Prop := X.env.kindOf x = some .globalImplicit
theorem xu {E : Value -> Shared -> Prop} {pins : List (Addr × Obj)} {s : Shared} {σ : St} {H : Hp} {x : Str} {u : Value} {pos : Pos} {Q : Value -> Shared -> Prop} (I : Inv X pins σ H s) (hg : Gl X x) (hm : X.mg x = some u) (h : Q u s)
  (hd : (x == ("__debug__" : Str)) = false := by decide) : wpAny (model X.prog X.w) X.A (eval (.Name x pos) X.env) Q E s :=
 Calls.Name_function_global I.ok.kind hg (Calls.loadGlobal_global (by rw [I.ok.glob]; exact I.mod.glob.keeps I.bk) hm h) hd
theorem cS {E : Value -> Shared -> Prop} {pins : List (Addr × Obj)} {s : Shared} {σ : St} {H : Hp} {x : Str} {u : Value} {pos : Pos} {Q : Value -> Shared -> Prop} (I : Inv X pins σ H s) (hg : Gl X x) (hm : X.mg x = none) (hv : bootBuiltins x = some u) (h : Q u s)
  (hn : x ≠ "__name__" := by decide) (hd : (x == ("__debug__" : Str)) = false := by decide) : wpAny (model X.prog X.w) X.A (eval (.Name x pos) X.env) Q E s := by
 obtain ⟨mb, h1, h2⟩ := I.mod.blt
 exact Calls.Name_function_global I.ok.kind hg (Calls.loadGlobal_builtin (by rw [I.ok.glob]; exact I.mod.glob.keeps I.bk) hm (by rw [I.ok.blt]; exact h1.keeps I.bk) ((h2 x hn).trans hv) h) hd
theorem yv {x : Str} {v : V} {u : Value} {pos : Pos} (hg : Gl X x) (hm : X.mg x = none) (hv : bootBuiltins x = some u) (r : RelV v u) (hn : x ≠ "__name__" := by decide) (hd : (x == ("__debug__" : Str)) = false := by decide) : PE X (.Name x pos) (tC v) :=
 fun _ _ _ H _ I h => cS I hg hm hv ⟨v, H, I, r, h⟩ hn hd
variable {a b : Expr} {ta tb : TE} {pos : Pos}
theorem p5 (b : Expr) {op : CmpOp} (h : op ≠ .In) (h2 : op ≠ .NotIn) : behindInMarks op b = false := by
 have e1 : (op == CmpOp.In) = false := by cases op <;> first | rfl | exact absurd rfl h
 have e2 : (op == CmpOp.NotIn) = false := by cases op <;> first | rfl | exact absurd rfl h2
 cases b <;> simp [behindInMarks, e1, e2]
variable {tA tB' : TT} {rest : List Expr}
end
end L2
namespace L2
open PySem PySem.Spec PyProof.Rows
def SqL (K : PySem.W.Frag) (H : Hp) (a : Addr) (xs : List V) : Prop :=
 Rd H a (.lst xs) ∨
  ∃ (o : Obj) (its : Array Value) (n : Nat), K.lookup a = some o /\ o.cls = .type "list" /\ o.dict = none /\ o.data = .seq its n /\ its.size <= sizeLine /\ Vals xs its.toList
def SqT (K : PySem.W.Frag) (H : Hp) (a : Addr) (xs : List V) : Prop :=
 Rd H a (.tup xs) ∨
  ∃ (o : Obj) (its : Array Value) (n : Nat), K.lookup a = some o /\ o.cls = .type "tuple" /\ o.data = .seq its n /\ its.size <= sizeLine /\ Vals xs its.toList
def AO : Value -> Option V
 | .none => some .non
 | .bool b => some (.bl b)
 | .int i _ => some (.int i)
 | .str x _ => some (.str x)
 | .bytes b _ => some (.byt b)
 | .float b _ => some (.flt b)
 | .ref a => some (.ref a)
 | .type n => some (.ty n)
 | _ => none
theorem RelV.abs {x : V} {u : Value} (r : RelV x u) : AO u = some x := by
 cases x with
 | non => cases r; rfl
 | bl _ => cases r; rfl
 | int _ => obtain ⟨t, rfl⟩ := r; rfl
 | str _ => obtain ⟨t, rfl⟩ := r; rfl
 | byt _ => obtain ⟨t, rfl⟩ := r; rfl
 | flt _ => obtain ⟨t, rfl⟩ := r; rfl
 | ref _ => cases r; rfl
 | ty _ => cases r; rfl
theorem RelV.inj {x y : V} {u : Value} (r : RelV x u) (q : RelV y u) : x = y := Option.some.inj (r.abs.symm.trans q.abs)
theorem Vals.inj : ∀ {xs ys : List V} {us : List Value}, Vals xs us -> Vals ys us -> xs = ys
 | _, _, _, .nil, .nil => rfl
 | _, _, _, .cons r t, .cons r' t' => by rw [r.inj r', Vals.inj t t']
section
variable {X : Cx} {pins : List (Addr × Obj)} {σ : St} {H : Hp} {s : Shared} {a : Addr} {xs ys : List V}
theorem SqL.of {K : PySem.W.Frag} (h : H a = some (.lst xs)) : SqL K H a xs := .inl (.inl h)
theorem SqT.of {K : PySem.W.Frag} (h : H a = some (.tup xs)) : SqT K H a xs := .inl (.inl h)
theorem Inv.list (I : Inv X pins σ H s) (h : SqL X.K H a xs) : ∃ its : List Value, Vals xs its /\ PlainL s.heap a its.toArray /\ xs.length <= sizeLine := by
 rcases h with h | ⟨o, its, n, hk, hc, hd, hs, hz, r⟩
 ·obtain ⟨z, its, n, r, e⟩ := h.ok I.hok
  exact ⟨its, r, ⟨_, n, e, rfl, rfl, rfl⟩, z⟩
 ·refine ⟨its.toList, r, ⟨o, n, I.kIn a o hk, hc, hd, by simpa using hs⟩, ?_⟩
  have e := r.length
  simp only [Array.length_toList] at e
  omega
theorem Inv.tuple (I : Inv X pins σ H s) (h : SqT X.K H a xs) : ∃ its : List Value, Vals xs its /\ IsTup s.heap a its.toArray /\ xs.length <= sizeLine := by
 rcases h with h | ⟨o, its, n, hk, hc, hs, hz, r⟩
 ·obtain ⟨z, its, r, p⟩ := h.ok I.hok
  exact ⟨its, r, p, z⟩
 ·refine ⟨its.toList, r, ⟨o, I.kIn a o hk, hc, n, by simpa using hs⟩, ?_⟩
  have e := r.length
  simp only [Array.length_toList] at e
  omega
theorem Inv.list_inj (I : Inv X pins σ H s) (h : SqL X.K H a xs) (h' : SqL X.K H a ys) : xs = ys := by
 obtain ⟨its, r, ⟨o, n, e, _, _, d⟩, _⟩ := I.list h
 obtain ⟨its', r', ⟨o', n', e', _, _, d'⟩, _⟩ := I.list h'
 rw [e] at e'; cases e'
 rw [d] at d'
 injection d' with d1 _
 have : its = its' := by simpa using congrArg Array.toList d1
 subst this
 exact r.inj r'
theorem Inv.tuple_inj (I : Inv X pins σ H s) (h : SqT X.K H a xs) (h' : SqT X.K H a ys) : xs = ys := by
 obtain ⟨its, r, ⟨o, e, _, n, d⟩, _⟩ := I.tuple h
 obtain ⟨its', r', ⟨o', e', _, n', d'⟩, _⟩ := I.tuple h'
 rw [e] at e'; cases e'
 rw [d] at d'
 injection d' with d1 _
 have : its = its' := by simpa using congrArg Array.toList d1
 subst this
 exact r.inj r'
end
abbrev Cx.wish (X : Cx) (E : Value -> Shared -> Prop) : Cx := { X with xe := E }
abbrev Cx.nox (X : Cx) : Cx := X.wish fun _ _ => False
theorem Cx.Ok.wish {X : Cx} (ok : X.Ok) (E : Value -> Shared -> Prop) : (X.wish E).Ok :=
 ⟨ok.mod, ok.kind, ok.glob, ok.blt, ok.above, ok.inj, ok.has, ok.cab, ok.hd, ok.frames, ok.stk, ok.exf, ok.bs, ok.bsz, ok.noex, ok.exfs, ok.funs, ok.frf⟩
theorem Cx.Ok.unwish {X : Cx} {E : Value -> Shared -> Prop} (ok : (X.wish E).Ok) : X.Ok :=
 ⟨ok.mod, ok.kind, ok.glob, ok.blt, ok.above, ok.inj, ok.has, ok.cab, ok.hd, ok.frames, ok.stk, ok.exf, ok.bs, ok.bsz, ok.noex, ok.exfs, ok.funs, ok.frf⟩
section
variable {X : Cx} {pins : List (Addr × Obj)} {σ : St} {H : Hp} {s : Shared} {E : Value -> Shared -> Prop}
theorem Inv.wish (I : Inv X pins σ H s) (E : Value -> Shared -> Prop) : Inv (X.wish E) pins σ H s := ⟨I.ok.wish E, I.os, I.bare, I.base, I.loc, I.cell, I.free, I.freeC, I.pin, I.hok, I.len⟩
theorem Inv.unwish (I : Inv (X.wish E) pins σ H s) : Inv X pins σ H s := ⟨I.ok.unwish, I.os, I.bare, I.base, I.loc, I.cell, I.free, I.freeC, I.pin, I.hok, I.len⟩
end
section
variable {X : Cx} {st : Stmt} {rest : List Stmt} {t u : TS} {e : Expr} {te : TE} {pos : Pos}
theorem Inv.quiet {pins : List (Addr × Obj)} {σ : St} {H : Hp} {s : Shared} (I : Inv X pins σ H s) : interactive X.env = false := by simp [interactive, I.ok.kind]
def xo (te : TE) : TS := fun D σ H => te σ H fun _ H1 => D.nx σ H1
theorem j8 (he : PE X e te) (hs : swapsWith e none pos.line X.env = pure false := by rfl) : PS X (.Expr e pos) (xo te) := by
 intro pins s σ H D I h
 exact wpAny_Expr_any (thn (he pins s σ H _ I h) fun v s1 ⟨x, H1, I1, r1, q1⟩ => ⟨σ, H1, I1, q1⟩) I.quiet hs
end
abbrev TG := V -> St -> Hp -> (St -> Hp -> Prop) -> Prop
section
variable {X : Cx} {pos : Pos}
def xm (i : Nat) : TG := fun v σ H Q => Q (σ.set i (some v)) H
def y3 (te : TE) (g : TG) : TS := fun D σ H => te σ H fun x H1 => g x σ H1 D.nx
theorem y4 {i : Nat} {x : Str} {e : Expr} {te : TE} {pos' : Pos} (hN : X.N.Nodup) (hi : X.N[i]? = some x) (hx : Loc X.env.scope x) (he : PE X e te) (hs : swapsWith e (some (.Name x pos')) pos.line X.env = pure false := by rfl) (hf : X.fn x = true ∨ X.env.scope.names.lookup x = some .local := by first | exact .inl rfl | exact .inr rfl | assumption) :
  PS X (.Assign [.Name x pos'] e pos) (y3 te (xm i)) := by
 intro pins s σ H D I h
 refine wpAny_Assign_Name (thn (he pins s σ H _ I h) fun v s1 ⟨y, H1, I1, r1, q1⟩ => ?_) hs
 exact eZ I1 hN hi hx r1 (fun s2 I2 => ⟨_, H1, I2, q1⟩) hf
def A1 (i j : Nat) (ta : TA) : TS := fun D σ H => ta σ H fun vs H1 => ∃ v w, vs = [v, w] /\ D.nx ((σ.set i (some v)).set j (some w)) H1
theorem zF {i j : Nat} {x y : Str} {a b : Expr} {ta : TA} {px py pt : Pos} {kt k2 pt2} (hc : X.calm = true) (hN : X.N.Nodup) (hi : X.N[i]? = some x) (hj : X.N[j]? = some y) (hij : i ≠ j)
  (hx : X.env.scope.names.lookup x = some .local) (hy : X.env.scope.names.lookup y = some .local) (ha : PA X [a, b] ta)
  (hw : swappedStores [.Tuple [.Name x px, .Name y py] kt pt] (.Tuple [a, b] k2 pt2) X.env = pure (some [x, y]))
  (hs : swapsWithSole [.Tuple [.Name x px, .Name y py] kt pt] (.Tuple [a, b] k2 pt2) pos.line X.env = pure false := by rfl) :
  PS X (.Assign [.Tuple [.Name x px, .Name y py] kt pt] (.Tuple [a, b] k2 pt2) pos) (A1 i j ta) := by
 intro pins s σ H D I h
 rw [exec_Assign_arm]
 refine wpAny_bind (wpAny_standAt ?_)
 rw [hs]
 refine wpAny_bind (wpAny_pure ?_)
 rw [if_neg (by decide)]
 refine wpAny_bind (Tuple_ (thn (ha _ pins s σ H _ I h) fun us s1 ⟨vs, H1, I1, r1, q1⟩ => ?_))
 obtain ⟨v, w, e1, q1⟩ := q1
 subst e1
 obtain ⟨u1, u2, rfl, rv, rw'⟩ : ∃ u1 u2, us = [u1, u2] /\ RelV v u1 /\ RelV w u2 := by
  cases r1 with
  | cons p q =>
   cases q with
   | cons p' q' =>
    cases q'
    exact ⟨_, _, rfl, p, p'⟩
 refine wpAny_newObj_type ?_ (by show 2 <= sizeLine; decide)
 have I2 : Inv X pins σ H1 { s1 with heap := s1.heap.push { cls := .type "tuple", data := .seq [u1, u2].toArray } } := I1.kept (t' := s1.toks) fun b o e => Heap.get?_push_of_some _ e
 rw [hw]
 refine wpAny_bind (wpAny_pure ?_)
 show wpAny (model X.prog X.w) X.A (do rule "assign.swapped-stores"; let items ← unpackItems (.ref s1.heap.objs.size) 2 none; assignInOrder [fun v => bindName X.env y v, fun v => bindName X.env x v] items.reverse; pure Flow.next) _ _ _
 refine wpAny_bind (wpAny_rule (wpAny_bind (unpackItems_tuple (items := #[u1, u2]) (I.ok.hd hc) (IsTup.new s1.heap _) fun h' hx' => ?_)))
 have I3 := I2.kept (h' := h') (t' := s1.toks) fun b o e => hx' b o (Nat.ne_of_lt (Heap.lt_size e)) e
 show wpAny _ _ (assignInOrder [fun v => bindName X.env y v, fun v => bindName X.env x v] [u2, u1] >>= fun _ => pure Flow.next) _ _ _
 refine wpAny_bind (assignInOrder_cons (wpAny_bindName (eZ I3 hN hj (.inl hy) rw' (fun s2 I4 => ?_) (.inr hy))))
 refine assignInOrder_cons (wpAny_bindName (eZ I4 hN hi (.inl hx) rv (fun s3 I5 => assignInOrder_nil (wpAny_pure ?_)) (.inr hx)))
 rw [List.set_comm _ _ (Ne.symm hij)] at I5
 exact ⟨_, H1, I5, q1⟩
end
section
variable {X : Cx} {pos : Pos}
end
structure It where
 go : Nat -> Hp -> Prop
 yld : Nat -> Hp -> V -> Hp -> Prop
 stop : Nat -> Hp -> Prop
def dF (X : Cx) (pins : List (Addr × Obj)) (H : Hp) (b : Addr) : Prop :=
 H b = none /\ b ≠ X.env.locals /\ b ∉ X.fs /\ (b ∈ X.ex ∨ X.s₀.heap.objs.size <= b) /\ (∀ x c, X.env.cells.lookup x = some c -> c ≠ b) /\ ∀ p ∈ X.pn ++ pins, p.1 ≠ b
theorem Inv.fpOk {X : Cx} {pins : List (Addr × Obj)} {σ : St} {H H' : Hp} {s : Shared} {b : Addr} (I : Inv X pins σ H s) (hb : s.heap.objs.size <= b) (hn : H' b = none) : dF X pins H' b := by
 refine ⟨hn, Nat.ne_of_gt (Nat.lt_of_lt_of_le I.lt hb), I.nofs hb, .inr (Nat.le_trans I.sz hb), fun x c e z => ?_, fun p hp z => ?_⟩
 ·obtain ⟨v, q⟩ := I.cell x c e
  exact absurd (Nat.lt_of_lt_of_le q.lt (by rw [z]; exact hb)) (Nat.lt_irrefl _)
 ·exact absurd (Nat.lt_of_lt_of_le (Heap.lt_size (I.pin p hp).1) (by rw [z]; exact hb)) (Nat.lt_irrefl _)
structure Turn (P : Program) (w : World) (K : PySem.W.Frag) (tg : Expr) (J : It) (fp : List Addr) (it : Addr) (tn : Nat -> Heap -> Prop) : Prop where
 mem : it ∈ fp
 obj : ∀ i h, tn i h -> ∀ b ∈ fp, ∃ o, h.get? b = some o /\ ∀ v, o.data ≠ .cell v
 keep : ∀ i h h', tn i h -> (∀ b ∈ fp, ∀ o, h.get? b = some o -> h'.get? b = some o) -> tn i h'
 item : ∀ (X : Cx), X.prog = P -> X.w = w -> X.K = K -> X.calm = true -> ∀ (i : Nat) (pins : List (Addr × Obj)) (s : Shared) (σ : St) (H : Hp) (E : Value -> Shared -> Prop), Inv X pins σ H s -> (∀ b ∈ fp, dF X pins H b) -> tn i s.heap -> J.go i H →
  wpAny (model P w) X.A (pyNext (.ref it)) (fun r s1 => ∃ u, r = some u ∧
   wpAny (model P w) X.A (letOwnedTupleGo tg (.ref it) u) (fun _ s2 => ∃ x H', Inv X pins σ H' s2 /\ RelV x u /\ J.yld i H x H' /\ tn (i + 1) s2.heap /\ ∀ b ∈ fp, H' b = none) E s1) E s
 done : ∀ (X : Cx), X.prog = P -> X.w = w -> X.K = K -> X.calm = true -> ∀ (i : Nat) (pins : List (Addr × Obj)) (s : Shared) (σ : St) (H : Hp) (E : Value -> Shared -> Prop), Inv X pins σ H s -> (∀ b ∈ fp, dF X pins H b) -> tn i s.heap -> J.stop i H →
  wpAny (model P w) X.A (pyNext (.ref it)) (fun r s1 => r = none /\ Inv X pins σ H s1) E s
 self : ∀ (A : Around) (i : Nat) (s : Shared) (Q : Value -> Shared -> Prop) (E : Value -> Shared -> Prop), tn i s.heap -> Q (.ref it) s -> wpAny (model P w) A (pyIter (.ref it)) Q E s
abbrev TI := St -> Hp -> (It -> Hp -> Prop) -> Prop
def PIE (X : Cx) (pins : List (Addr × Obj)) (σ : St) (tg : Expr) (R : It -> Hp -> Prop) (itv : Value) (s2 : Shared) : Prop :=
 ∃ (it : Addr) (fp : List Addr) (tn : Nat -> Heap -> Prop) (J : It) (H' : Hp), itv = .ref it /\ Inv X pins σ H' s2 /\ Turn X.prog X.w X.K tg J fp it tn /\ tn 0 s2.heap /\ (∀ b ∈ fp, dF X pins H' b) /\ R J H'
def PI (X : Cx) (tg iter : Expr) (wi : TI) : Prop :=
 ∀ (pins : List (Addr × Obj)) (s : Shared) (σ : St) (H : Hp) (R : It -> Hp -> Prop), Inv X pins σ H s -> wi σ H R →
  wpAny (model X.prog X.w) X.A (eval iter X.env) (fun v s1 => wpAny (model X.prog X.w) X.A (pyIter v) (PIE X pins σ tg R) X.xe s1) X.xe s
theorem sN {M : Model} {A : Around} {E : Value -> Shared -> Prop} {s : Shared} {tg : Expr} {it : Addr} {u : Value} {o : Obj} {n : String} {vs : Array Value} {Q : Unit -> Shared -> Prop} (ho : s.heap.get? it = some o) (hc : o.cls = .type n) (hd : o.data = .fields vs)
    (hn : ["enumerate", "zip", "dict_itemiterator", "dict_reverseitemiterator", "odict_iterator", "itertools.zip_longest", "itertools.pairwise"].contains n = false) (hQ : Q () s) : wpAny M A (letOwnedTupleGo tg (.ref it) u) Q E s := by
  unfold letOwnedTupleGo
  cases tg <;> first
    | exact wpAny_pure hQ
    | (cases u <;> first
        | exact wpAny_pure hQ
        | (refine wpAny_bind (wpAny_load ho ?_)
           rw [hc, hd]
           show wpAny M A (if (["enumerate", "zip", "dict_itemiterator", "dict_reverseitemiterator", "odict_iterator", "itertools.zip_longest", "itertools.pairwise"].contains n && vs[0]? == some (rawInt _)) = true then _ else _) Q E s
           rw [if_neg (by intro h; rw [hn, Bool.false_and] at h; cases h)]
           exact wpAny_pure hQ))
def Itl (K : PySem.W.Frag) (a : Addr) : It :=
 ⟨fun i H => ∃ xs x, SqL K H a xs /\ xs[i]? = some x, fun i H x H' => H' = H /\ ∀ xs, SqL K H a xs -> xs[i]? = some x, fun i H => ∃ xs, SqL K H a xs /\ xs.length <= i⟩
def Itt (K : PySem.W.Frag) (a : Addr) : It :=
 ⟨fun i H => ∃ xs x, SqT K H a xs /\ xs[i]? = some x, fun i H x H' => H' = H /\ ∀ xs, SqT K H a xs -> xs[i]? = some x, fun i H => ∃ xs, SqT K H a xs /\ xs.length <= i⟩
theorem uC {P : Program} {w : World} {K : PySem.W.Frag} {tg : Expr} (a it : Addr) : Turn P w K tg (Itl K a) [it] it (fun i h => h.IsListIter it a i) where
 mem := by simp
 obj := fun i h st b hb => by
  have e : b = it := by simpa using hb
  subst e
  obtain ⟨o, e, c, d⟩ := st
  exact ⟨o, e, fun v z => by rw [d] at z; cases z⟩
 keep := fun i h h' st k => st.at fun o e => k it (by simp) o e
 item := by
  intro X hP hw hK hc i pins s σ H E I hf st hg
  subst hP hw hK
  obtain ⟨xs, x, hq, hx⟩ := hg
  obtain ⟨its, rv, p, hz⟩ := I.list hq
  obtain ⟨u, hu, ru⟩ := rv.get hx
  obtain ⟨f0, f1, f2, f3, f4, f5⟩ := hf it (by simp)
  refine wpAny_pyNext_list_item st p.isList (x := u) (by simpa using hu) fun h' st' sb => ?_
  have I1 : Inv X pins σ H { s with heap := h' } := I.turned (t' := s.toks) (fun b o hb e => (sb.2 b hb).trans e) f0 f1 f3 f4 f5
  obtain ⟨o, e, c, d⟩ := id st'
  exact ⟨u, rfl, sN (s := { s with heap := h' }) e c d (by decide) ⟨x, H, I1, ru, ⟨rfl, fun ys hy => by rw [I.list_inj hy hq]; exact hx⟩, st', fun b hb => (hf b hb).1⟩⟩
 done := by
  intro X hP hw hK hc i pins s σ H E I hf st hg
  subst hP hw hK
  obtain ⟨xs, hq, hx⟩ := hg
  obtain ⟨its, rv, p, hz⟩ := I.list hq
  obtain ⟨f0, f1, f2, f3, f4, f5⟩ := hf it (by simp)
  have hl := rv.length
  exact wpAny_pyNext_list_end (I.ok.hd hc) st p.isList (by simp; omega) fun h' eb => ⟨rfl, I.turned (t' := s.toks) (fun b o hb e => eb b o hb e) f0 f1 f3 f4 f5⟩
 self := fun _ _ _ _ _ st h => wpAny_pyIter_listiter st h
theorem rZ {P : Program} {w : World} {K : PySem.W.Frag} {tg : Expr} (a it : Addr) : Turn P w K tg (Itt K a) [it] it (fun i h => h.IsTupleIter it a i) where
 mem := by simp
 obj := fun i h st b hb => by
  have e : b = it := by simpa using hb
  subst e
  obtain ⟨o, e, c, d⟩ := st
  exact ⟨o, e, fun v z => by rw [d] at z; cases z⟩
 keep := fun i h h' st k => st.at fun o e => k it (by simp) o e
 item := by
  intro X hP hw hK hc i pins s σ H E I hf st hg
  subst hP hw hK
  obtain ⟨xs, x, hq, hx⟩ := hg
  obtain ⟨its, rv, p, hz⟩ := I.tuple hq
  obtain ⟨u, hu, ru⟩ := rv.get hx
  obtain ⟨f0, f1, f2, f3, f4, f5⟩ := hf it (by simp)
  refine wpAny_pyNext_tuple_item st (show s.heap.IsTuple a its.toArray from p) (x := u) (by simpa using hu) fun h' st' sb => ?_
  have I1 : Inv X pins σ H { s with heap := h' } := I.turned (t' := s.toks) (fun b o hb e => (sb.2 b hb).trans e) f0 f1 f3 f4 f5
  obtain ⟨o, e, c, d⟩ := id st'
  exact ⟨u, rfl, sN (s := { s with heap := h' }) e c d (by decide) ⟨x, H, I1, ru, ⟨rfl, fun ys hy => by rw [I.tuple_inj hy hq]; exact hx⟩, st', fun b hb => (hf b hb).1⟩⟩
 done := by
  intro X hP hw hK hc i pins s σ H E I hf st hg
  subst hP hw hK
  obtain ⟨xs, hq, hx⟩ := hg
  obtain ⟨its, rv, p, hz⟩ := I.tuple hq
  obtain ⟨f0, f1, f2, f3, f4, f5⟩ := hf it (by simp)
  have hl := rv.length
  exact wpAny_pyNext_tuple_end (I.ok.hd hc) st (show s.heap.IsTuple a its.toArray from p) (by simp; omega) fun h' eb => ⟨rfl, I.turned (t' := s.toks) (fun b o hb e => eb b o hb e) f0 f1 f3 f4 f5⟩
 self := fun _ _ _ _ _ st h => wpAny_pyIter_tupleiter st h
end L2
namespace L2
open PySem PySem.Spec PyProof.Rows
section
variable {X : Cx} {tg : Expr}
def Av (K : PySem.W.Frag) (tl : TE) : TI := fun σ H R => tl σ H fun x H1 => ∃ a, x = .ref a /\ (∃ xs, SqL K H1 a xs) /\ R (Itl K a) H1
def AW (K : PySem.W.Frag) (tl : TE) : TI := fun σ H R => tl σ H fun x H1 => ∃ a, x = .ref a /\ (∃ xs, SqT K H1 a xs) /\ R (Itt K a) H1
theorem yt {l : Expr} {tl : TE} (hl : PE X l tl) : PI X tg l (Av X.K tl) := by
 intro pins s σ H R I h
 refine thn (hl pins s σ H _ I h) fun v s1 ⟨x, H1, I1, r1, q1⟩ => ?_
 obtain ⟨a, e, ⟨xs, hq⟩, q⟩ := q1
 subst e
 cases r1
 obtain ⟨its, rv, p, hz⟩ := I1.list hq
 refine wpAny_pyIter_list p.isList ?_
 refine ⟨s1.heap.objs.size, [s1.heap.objs.size], _, _, H1, rfl, I1.kept (t' := s1.toks) fun b o e => Heap.get?_push_of_some _ e, uC a _, ⟨_, Heap.get?_push_size _ rfl, rfl, rfl⟩, fun b hb => ?_, q⟩
 have e : b = s1.heap.objs.size := by simpa using hb
 subst e
 exact I1.fpOk (Nat.le_refl _) (I1.hok.fresh (Nat.le_refl _))
theorem zT {l : Expr} {tl : TE} (hl : PE X l tl) : PI X tg l (AW X.K tl) := by
 intro pins s σ H R I h
 refine thn (hl pins s σ H _ I h) fun v s1 ⟨x, H1, I1, r1, q1⟩ => ?_
 obtain ⟨a, e, ⟨xs, hq⟩, q⟩ := q1
 subst e
 cases r1
 obtain ⟨its, rv, p, hz⟩ := I1.tuple hq
 refine wpAny_pyIter_tuple (show s1.heap.IsTuple a its.toArray from p) ?_
 refine ⟨s1.heap.objs.size, [s1.heap.objs.size], _, _, H1, rfl, I1.kept (t' := s1.toks) fun b o e => Heap.get?_push_of_some _ e, rZ a _, ⟨_, Heap.get?_push_size _ rfl, rfl, rfl⟩, fun b hb => ?_, q⟩
 have e : b = s1.heap.objs.size := by simpa using hb
 subst e
 exact I1.fpOk (Nat.le_refl _) (I1.hok.fresh (Nat.le_refl _))
def ma (fp : List Addr) (h : Heap) : List (Addr × Obj) := fp.filterMap fun b => (h.get? b).map fun o => (b, o)
theorem gf {fp : List Addr} {h : Heap} {b : Addr} {o : Obj} (hb : b ∈ fp) (e : h.get? b = some o) : (b, o) ∈ ma fp h := List.mem_filterMap.mpr ⟨b, hb, by rw [e]; rfl⟩
theorem va {fp : List Addr} {h : Heap} {p : Addr × Obj} (hp : p ∈ ma fp h) : p.1 ∈ fp /\ h.get? p.1 = some p.2 := by
 obtain ⟨b, hb, e⟩ := List.mem_filterMap.mp hp
 cases q : h.get? b with
 | none => rw [q] at e; cases e
 | some o =>
  rw [q] at e
  have e' : (b, o) = p := Option.some.inj e
  subst e'
  exact ⟨hb, q⟩
theorem Inv.pinned {pins : List (Addr × Obj)} {σ : St} {H : Hp} {s : Shared} {fp : List Addr} (I : Inv X pins σ H s) (hf : ∀ b ∈ fp, dF X pins H b) (ho : ∀ b ∈ fp, ∃ o, s.heap.get? b = some o /\ ∀ v, o.data ≠ .cell v) : Inv X (pins ++ ma fp s.heap) σ H s :=
 I.pins_of fun p hp => (List.mem_append.mp hp).elim (fun z => I.pin p (List.mem_append_right _ z)) fun z => by
  obtain ⟨hb, e⟩ := va z
  obtain ⟨f0, f1, f2, _⟩ := hf p.1 hb
  obtain ⟨o, e', d⟩ := ho p.1 hb
  rw [e] at e'; cases e'
  exact ⟨e, f0, f1, f2, d⟩
theorem Inv.unpinned {pins pl : List (Addr × Obj)} {σ : St} {H : Hp} {s : Shared} (I : Inv X (pins ++ pl) σ H s) : Inv X pins σ H s := I.pins_of fun p hp => I.pin p (List.mem_append_right _ (List.mem_append_left _ hp))
end
end L2
namespace L2
open PySem PySem.Spec PyProof.Rows
abbrev R2 := V -> V -> Hp -> VK -> Prop
def OpR (X : Cx) (f : Value -> Value -> Sem Value) (r : R2) : Prop :=
 ∀ (pins : List (Addr × Obj)) (s : Shared) (σ : St) (H : Hp) (x y : V) (v u : Value) (Q : VK), Inv X pins σ H s -> RelV x v -> RelV y u -> r x y H Q →
  wpAny (model X.prog X.w) X.A (f v u) (EP X pins σ Q) X.xe s
def UnR (X : Cx) (f : Value -> Sem Value) (r : V -> Hp -> VK -> Prop) : Prop :=
 ∀ (pins : List (Addr × Obj)) (s : Shared) (σ : St) (H : Hp) (x : V) (v : Value) (Q : VK), Inv X pins σ H s -> RelV x v -> r x H Q →
  wpAny (model X.prog X.w) X.A (f v) (EP X pins σ Q) X.xe s
def kr (X : Cx) (f : Value) (r : List V -> Hp -> VK -> Prop) : Prop :=
 ∀ (pins : List (Addr × Obj)) (s : Shared) (σ : St) (H : Hp) (xs : List V) (us : List Value) (Q : VK), Inv X pins σ H s -> Vals xs us -> r xs H Q →
  wpAny (model X.prog X.w) X.A (call f us) (EP X pins σ Q) X.xe s
def tOp (r : R2) (ta tb : TE) : TE := fun σ H Q => ta σ H fun x H1 => tb σ H1 fun y H2 => r x y H2 Q
def rI (C : Int -> Int -> Prop) (g : Int -> Int -> V) : R2 := fun x y H Q => ∃ i j, x = .int i /\ y = .int j /\ C i j /\ Q (g i j) H
def rI0 (g : Int -> Int -> V) : R2 := fun x y H Q => ∃ i j, x = .int i /\ y = .int j /\ Q (g i j) H
def rU (g : Int -> V) : V -> Hp -> VK -> Prop := fun x H Q => ∃ i, x = .int i /\ Q (g i) H
section
variable {X : Cx} {a b c : Expr} {ta tb tc : TE} {pos : Pos}
theorem AH (ha : PE X a ta) (hb : PE X b tb) {pins : List (Addr × Obj)} {s : Shared} {σ : St} {H : Hp} {R : V -> V -> Hp -> Prop} (I : Inv X pins σ H s)
  (h : ta σ H fun x H1 => tb σ H1 fun y H2 => R x y H2) {Q : Value -> Shared -> Prop} {f : Value -> Value -> Sem Value}
  (hf : ∀ v u s2 x y H2, Inv X pins σ H2 s2 -> RelV x v -> RelV y u -> R x y H2 -> wpAny (model X.prog X.w) X.A (f v u) Q X.xe s2) :
  wpAny (model X.prog X.w) X.A (eval a X.env) (fun v s₁ => wpAny (model X.prog X.w) X.A (eval b X.env) (fun u s₂ => wpAny (model X.prog X.w) X.A (f v u) Q X.xe s₂) X.xe s₁) X.xe s := by
 refine thn (ha pins s σ H _ I h) fun v s1 ⟨x, H1, I1, r1, q1⟩ => ?_
 refine thn (hb pins s1 σ H1 _ I1 q1) fun u s2 ⟨y, H2, I2, r2, q2⟩ => ?_
 exact hf v u s2 x y H2 I2 r1 r2 q2
theorem opI {f : Value -> Value -> Sem Value} {C : Int -> Int -> Prop} {g : Int -> Int -> Int}
  (rule : ∀ (i j : Int) (t u : Tok) (s : Shared) (Q : Value -> Shared -> Prop) (E : Value -> Shared -> Prop), C i j -> Q (.int (g i j) s.toks) { s with toks := s.toks + 1 } -> wpAny (model X.prog X.w) X.A (f (.int i t) (.int j u)) Q E s) :
  OpR X f (rI C fun i j => .int (g i j)) := by
 intro pins s σ H x y v u Q I rx ry h
 obtain ⟨i, j, rfl, rfl, hc, q⟩ := h
 obtain ⟨t, rfl⟩ := rx
 obtain ⟨t', rfl⟩ := ry
 exact rule i j t t' s _ _ hc ⟨.int (g i j), H, I.tok _, ⟨_, rfl⟩, q⟩
theorem zG {f : Value -> Value -> Sem Value} {g : Int -> Int -> Int}
  (rule : ∀ (i j : Int) (t u : Tok) (s : Shared) (Q : Value -> Shared -> Prop) (E : Value -> Shared -> Prop), Q (.int (g i j) s.toks) { s with toks := s.toks + 1 } -> wpAny (model X.prog X.w) X.A (f (.int i t) (.int j u)) Q E s) :
  OpR X f (rI0 fun i j => .int (g i j)) := by
 intro pins s σ H x y v u Q I rx ry h
 obtain ⟨i, j, rfl, rfl, q⟩ := h
 obtain ⟨t, rfl⟩ := rx
 obtain ⟨t', rfl⟩ := ry
 exact rule i j t t' s _ _ ⟨.int (g i j), H, I.tok _, ⟨_, rfl⟩, q⟩
theorem rT {f : Value -> Value -> Sem Value} {g : Int -> Int -> Bool}
  (rule : ∀ (i j : Int) (t u : Tok) (s : Shared) (Q : Value -> Shared -> Prop) (E : Value -> Shared -> Prop), Q (.bool (g i j)) s -> wpAny (model X.prog X.w) X.A (f (.int i t) (.int j u)) Q E s) :
  OpR X f (rI0 fun i j => .bl (g i j)) := by
 intro pins s σ H x y v u Q I rx ry h
 obtain ⟨i, j, rfl, rfl, q⟩ := h
 obtain ⟨t, rfl⟩ := rx
 obtain ⟨t', rfl⟩ := ry
 exact rule i j t t' s _ _ ⟨.bl (g i j), H, I, rfl, q⟩
def mH (i j : Int) : Prop := 0 <= j /\ j <= 1000000 /\ i.natAbs < 2 ^ 64
theorem yY : OpR X (binaryOp .Add) (rI0 fun i j => .int (i + j)) := zG fun _ _ _ _ _ _ _ q => add_int q
theorem yL : OpR X (binaryOp .Sub) (rI0 fun i j => .int (i - j)) := zG fun _ _ _ _ _ _ _ q => sub_int q
theorem xJ : OpR X (binaryOp .Mod) (rI (fun _ j => j ≠ 0) fun i j => .int (i.fmod j)) := opI fun _ _ _ _ _ _ _ hc q => mod_int' hc q
theorem zL : OpR X (binaryOp .Pow) (rI mH fun i j => .int (i ^ j.toNat)) := opI fun _ _ _ _ _ _ _ hc q => pow_int_small hc.1 hc.2.1 hc.2.2 q
theorem unI {f : Value -> Sem Value} {g : Int -> Int}
  (rule : ∀ (i : Int) (t : Tok) (s : Shared) (Q : Value -> Shared -> Prop) (E : Value -> Shared -> Prop), Q (.int (g i) s.toks) { s with toks := s.toks + 1 } -> wpAny (model X.prog X.w) X.A (f (.int i t)) Q E s) :
  UnR X f (rU fun i => .int (g i)) := by
 intro pins s σ H x v Q I rx h
 obtain ⟨i, rfl, q⟩ := h
 obtain ⟨t, rfl⟩ := rx
 exact rule i t s _ _ ⟨.int (g i), H, I.tok _, ⟨_, rfl⟩, q⟩
theorem za : UnR X (unaryOp .USub) (rU fun i => .int (-i)) := unI fun _ _ _ _ _ q => neg_int q
end
def oD : V -> V -> Bool
 | .non, .non => true | .non, .int _ => true | .int _, .non => true | .non, .bl _ => true | .bl _, .non => true | .non, .str _ => true | .str _, .non => true
 | .int _, .int _ => true | .bl _, .bl _ => true | .str _, .str _ => true | .byt _, .byt _ => true
 | .int _, .str _ => true | .str _, .int _ => true | .bl _, .str _ => true | .str _, .bl _ => true
 | _, _ => false
def rEq : R2 := fun x y H Q => oD x y = true /\ Q (.bl (decide (x = y))) H
def rNe : R2 := fun x y H Q => oD x y = true /\ Q (.bl (!decide (x = y))) H
theorem ki {i j : Int} : decide (V.int i = V.int j) = (i == j) := by
 rw [Bool.eq_iff_iff]
 simp
theorem ux {i j : Bool} : decide (V.bl i = V.bl j) = (i == j) := by
 rw [Bool.eq_iff_iff]
 simp
theorem ri {i j : Str} : decide (V.str i = V.str j) = (i == j) := by
 rw [Bool.eq_iff_iff]
 simp
theorem rq {i j : Array UInt8} : decide (V.byt i = V.byt j) = (i.toList == j.toList) := by
 rw [Bool.eq_iff_iff]
 cases i
 cases j
 simp
section
variable {X : Cx} {a b c : Expr} {ta tb tc : TE} {pos : Pos}
theorem aO {pins : List (Addr × Obj)} {σ : St} {H : Hp} {s : Shared} {Q : VK} {k k' : Bool} (I : Inv X pins σ H s) (q : Q (.bl k) H) (e : k = k') : EP X pins σ Q (.bool k') s := by
 subst e
 exact ⟨.bl k, H, I, rfl, q⟩
theorem Ax : OpR X (compareOp .Eq) rEq := by
 intro pins s σ H x y v u Q I rx ry h
 obtain ⟨hs, q⟩ := h
 cases x with
 | non =>
  cases rx
  cases y with
  | non => cases ry; exact PySem.EqNone.eq_none_none (aO I q (by simp))
  | bl j => cases ry; exact PySem.EqNone.eq_none_bool (aO I q (by simp))
  | int j => obtain ⟨t', rfl⟩ := ry; exact PySem.EqNone.eq_none_int (aO I q (by simp))
  | str j => obtain ⟨t', rfl⟩ := ry; exact PySem.EqNone.eq_none_str (aO I q (by simp))
  | _ => exact absurd (show false = true from hs) Bool.false_ne_true
 | bl i =>
  cases rx
  cases y with
  | non => cases ry; exact PySem.EqNone.eq_bool_none (aO I q (by simp))
  | bl j => cases ry; exact eq_bool (aO I q ux)
  | str j => obtain ⟨t', rfl⟩ := ry; exact PySem.EqMixed.eq_bool_str (aO I q (by simp))
  | _ => exact absurd (show false = true from hs) Bool.false_ne_true
 | int i =>
  obtain ⟨t, rfl⟩ := rx
  cases y with
  | non => cases ry; exact PySem.EqNone.eq_int_none (aO I q (by simp))
  | int j => obtain ⟨t', rfl⟩ := ry; exact eq_int (aO I q ki)
  | str j => obtain ⟨t', rfl⟩ := ry; exact PySem.EqMixed.eq_int_str (aO I q (by simp))
  | _ => exact absurd (show false = true from hs) Bool.false_ne_true
 | str i =>
  obtain ⟨t, rfl⟩ := rx
  cases y with
  | non => cases ry; exact PySem.EqNone.eq_str_none (aO I q (by simp))
  | bl j => cases ry; exact PySem.EqMixed.eq_str_bool (aO I q (by simp))
  | int j => obtain ⟨t', rfl⟩ := ry; exact PySem.EqMixed.eq_str_int (aO I q (by simp))
  | str j => obtain ⟨t', rfl⟩ := ry; exact eq_str (aO I q ri)
  | _ => exact absurd (show false = true from hs) Bool.false_ne_true
 | byt i =>
  obtain ⟨t, rfl⟩ := rx
  cases y with
  | byt j => obtain ⟨t', rfl⟩ := ry; exact PySem.W.eq_bytes (aO I q rq)
  | _ => exact absurd (show false = true from hs) Bool.false_ne_true
 | _ => cases y <;> exact absurd (show false = true from hs) Bool.false_ne_true
theorem Aq : OpR X (compareOp .NotEq) rNe := by
 intro pins s σ H x y v u Q I rx ry h
 obtain ⟨hs, q⟩ := h
 cases x with
 | non =>
  cases rx
  cases y with
  | non => cases ry; exact PySem.EqNone.ne_none_none (aO I q (by simp))
  | bl j => cases ry; exact PySem.EqNone.ne_none_bool (aO I q (by simp))
  | int j => obtain ⟨t', rfl⟩ := ry; exact PySem.EqNone.ne_none_int (aO I q (by simp))
  | str j => obtain ⟨t', rfl⟩ := ry; exact PySem.EqNone.ne_none_str (aO I q (by simp))
  | _ => exact absurd (show false = true from hs) Bool.false_ne_true
 | bl i =>
  cases rx
  cases y with
  | non => cases ry; exact PySem.EqNone.ne_bool_none (aO I q (by simp))
  | bl j => cases ry; exact ne_bool (aO I q (congrArg not ux))
  | str j => obtain ⟨t', rfl⟩ := ry; exact PySem.EqMixed.ne_bool_str (aO I q (by simp))
  | _ => exact absurd (show false = true from hs) Bool.false_ne_true
 | int i =>
  obtain ⟨t, rfl⟩ := rx
  cases y with
  | non => cases ry; exact PySem.EqNone.ne_int_none (aO I q (by simp))
  | int j => obtain ⟨t', rfl⟩ := ry; exact ne_int (aO I q (congrArg not ki))
  | str j => obtain ⟨t', rfl⟩ := ry; exact PySem.EqMixed.ne_int_str (aO I q (by simp))
  | _ => exact absurd (show false = true from hs) Bool.false_ne_true
 | str i =>
  obtain ⟨t, rfl⟩ := rx
  cases y with
  | non => cases ry; exact PySem.EqNone.ne_str_none (aO I q (by simp))
  | bl j => cases ry; exact PySem.EqMixed.ne_str_bool (aO I q (by simp))
  | int j => obtain ⟨t', rfl⟩ := ry; exact PySem.EqMixed.ne_str_int (aO I q (by simp))
  | str j => obtain ⟨t', rfl⟩ := ry; exact ne_str (aO I q (congrArg not ri))
  | _ => exact absurd (show false = true from hs) Bool.false_ne_true
 | byt i =>
  obtain ⟨t, rfl⟩ := rx
  cases y with
  | byt j => obtain ⟨t', rfl⟩ := ry; exact PySem.W.ne_bytes (aO I q (congrArg not rq))
  | _ => exact absurd (show false = true from hs) Bool.false_ne_true
 | _ => cases y <;> exact absurd (show false = true from hs) Bool.false_ne_true
theorem Ay : OpR X (compareOp .Lt) (rI0 fun i j => .bl (decide (i < j))) := rT fun _ _ _ _ _ _ _ q => lt_int q
theorem As : OpR X (compareOp .LtE) (rI0 fun i j => .bl (decide (i <= j))) := rT fun _ _ _ _ _ _ _ q => le_int q
theorem Al : OpR X (compareOp .Gt) (rI0 fun i j => .bl (decide (j < i))) := rT fun _ _ _ _ _ _ _ q => gt_int q
theorem AG : OpR X (compareOp .GtE) (rI0 fun i j => .bl (decide (j <= i))) := rT fun _ _ _ _ _ _ _ q => ge_int q
theorem yV : OpR X (compareOp .Is) (fun x y H Q => y = .non /\ Q (.bl (decide (x = .non))) H) := by
 intro pins s σ H x y v u Q I rx ry h
 obtain ⟨rfl, q⟩ := h
 cases ry
 refine is_none_gen (aO I q ?_)
 cases x <;> first
  | (cases rx; rfl)
  | (obtain ⟨t, rfl⟩ := rx; rfl)
theorem xD : OpR X (compareOp .IsNot) (fun x y H Q => y = .non /\ Q (.bl (!decide (x = .non))) H) := by
 intro pins s σ H x y v u Q I rx ry h
 obtain ⟨rfl, q⟩ := h
 cases ry
 refine isnot_none_gen (aO I q ?_)
 cases x <;> first
  | (cases rx; rfl)
  | (obtain ⟨t, rfl⟩ := rx; rfl)
theorem pC : (sizeLine : Nat) < 2 ^ 63 := by rw [sizeLine_eq]; decide
theorem vals1 {x : V} {us : List Value} (r : Vals [x] us) : ∃ u, us = [u] /\ RelV x u := by
 cases r with
 | cons r1 r2 => cases r2; exact ⟨_, rfl, r1⟩
theorem vals2 {x y : V} {us : List Value} (r : Vals [x, y] us) : ∃ u w', us = [u, w'] /\ RelV x u /\ RelV y w' := by
 cases r with
 | cons r1 r2 =>
  cases r2 with
  | cons r3 r4 => cases r4; exact ⟨_, _, rfl, r1, r3⟩
theorem wg : kr X (.builtin "abs") (fun xs H Q => ∃ i, xs = [.int i] /\ Q (.int (if i < 0 then -i else i)) H) := by
 intro pins s σ H xs us Q I r h
 obtain ⟨i, rfl, q⟩ := h
 obtain ⟨u, rfl, t, rfl⟩ := vals1 r
 exact call_abs_int fun u tk => ⟨.int (if i < 0 then -i else i), H, I.tok _, ⟨_, rfl⟩, q⟩
theorem u0 (hc : X.calm = true) : kr X (.builtin "max") (fun xs H Q => ∃ i j, xs = [.int i, .int j] /\ Q (.int (if j > i then j else i)) H) := by
 intro pins s σ H xs us Q I r h
 obtain ⟨i, j, rfl, q⟩ := h
 obtain ⟨u, w', rfl, ⟨t, rfl⟩, ⟨t', rfl⟩⟩ := vals2 r
 refine max_two_ints (I.ok.hd hc) fun h' tk k => ⟨_, H, I.kept k, ?_, q⟩
 by_cases hj : j > i
 ·rw [if_pos hj, if_pos hj]; exact ⟨_, rfl⟩
 ·rw [if_neg hj, if_neg hj]; exact ⟨_, rfl⟩
end
end L2
namespace L2
open PySem PySem.Spec PyProof.Rows
structure A7 (h : Heap) (x dx C : Addr) (mA : Str -> Option Value) : Prop where
 obj : h.get? x = some (PySem.W.instObj C dx)
 ns : h.Ns1 dx mA
 ne : dx ≠ x
section
variable {prog : Program} {w : World} {A : Around} {E : Value -> Shared -> Prop} {s : Shared} {K : PySem.W.Frag} {x dx C f : Addr} {mA : Str -> Option Value} {name : Str} {v : Value}
end
section
variable {P : Program} {w : World} {H H' : Hp} {h h' : Heap} {a C dx : Addr} {fs fs' : List (Str × V)}
end
structure Cls (K : PySem.W.Frag) (C : Addr) : Prop where
 pg : PySem.W.plainGet K C Str.empty = true
 hd : PySem.W.hasDictIn K C = true
 po : PySem.W.plainOver K C = true
 sa : PySem.W.findIn K (.ref C) "__setattr__" = some (some (.builtin "object.__setattr__"))
structure Con (K : PySem.W.Frag) (C : Addr) (f : Str) (v : V) (u : Value) : Prop where
 at_ : PySem.W.findIn K (.ref C) f = some (some u)
 rel : RelV v u
 get : PySem.W.specialIn K u "__get__" = some none
 cp : PySem.W.copiedNames.contains f = false
structure Meth (K : PySem.W.Frag) (C : Addr) (m : Str) (f : Addr) : Prop where
 at_ : PySem.W.findIn K (.ref C) m = some (some (.ref f))
 fn : PySem.W.isFn K (.ref f) = true
 kp : PySem.W.keepIn K (.ref f) = true
section
variable {X : Cx} {pins : List (Addr × Obj)} {σ : St} {H : Hp} {s : Shared} {a C dx : Addr} {fs : List (Str × V)} {f : Str} {v : V} {A : Around} {E : Value -> Shared -> Prop}
end
section
variable {X : Cx} {o e value : Expr} {f : Str} {pos pos' tpos : Pos} {ta tv : TE}
end
section
variable {X : Cx} {pins : List (Addr × Obj)} {σ : St} {H : Hp} {s : Shared} {A : Around} {E : Value -> Shared -> Prop} {Q : Value -> Shared -> Prop} {c : Value} {b : Bool}
inductive gQ (K : PySem.W.Frag) (H : Hp) : V -> Value -> Prop where
 | non : gQ K H .non (.type "NoneType")
 | bl (x : Bool) : gQ K H (.bl x) (.type "bool")
 | int (i : Int) : gQ K H (.int i) (.type "int")
 | str (x : Str) : gQ K H (.str x) (.type "str")
 | flt (x : UInt64) : gQ K H (.flt x) (.type "float")
 | lst {a : Addr} {xs : List V} (e : H a = some (.lst xs)) : gQ K H (.ref a) (.type "list")
 | frz {a : Addr} {o : Obj} {xs : List V} (e : H a = some (.frz o (.lst xs))) : gQ K H (.ref a) (.type "list")
 | tup {a : Addr} {xs : List V} (e : H a = some (.tup xs)) : gQ K H (.ref a) (.type "tuple")
 | dK {a : Addr} {kvs : List (Key × V)} (e : H a = some (.dK kvs)) : gQ K H (.ref a) (.type "dict")
 | dT {a : Addr} {kvs : List (List Key × V)} (e : H a = some (.dT kvs)) : gQ K H (.ref a) (.type "dict")
 | ins {a C dx : Addr} {fs : List (Str × V)} (e : H a = some (.ins C dx fs)) (cl : Cls K C) (ha : PySem.W.findIn K (.ref C) "__class__" = some (some (.builtin "object.__class__")))
   (hn : PySem.W.specialIn K (.builtin "object.__class__") "__get__" = some (some (.builtin "getset_descriptor.__get__"))) (htk : PySem.W.takesIn K (.builtin "object.__class__") = some true)
   (hm : PySem.W.mroIn K C (.type "object") = some true) : gQ K H (.ref a) (.ref C)
end
end L2
namespace L2
open PySem PySem.Spec PyProof.Rows
structure bI (k : Nat) (A : Around) : Prop where
 hd : A.handled = none
 dp : A.depth + 3 * k + 5 < recursionLimit
 un : A.units + 16 * k + 200 < cLine
theorem bI.mono {j k : Nat} {A : Around} (r : bI k A) (h : j <= k) : bI j A := ⟨r.hd, by have := r.dp; omega, by have := r.un; omega⟩
theorem bI.deeper {k : Nat} {A : Around} (r : bI (k + 1) A) (env : Env) : bI k (A.deeper env) :=
 ⟨r.hd, by have := r.dp; show A.depth + 1 + 3 * k + 5 < _; omega, by have := r.un; show A.units + 3 + 16 * k + 200 < _; omega⟩
theorem bI.depth {k : Nat} {A : Around} (r : bI k A) : A.depth < recursionLimit := by have := r.dp; omega
theorem bI.units {k : Nat} {A : Around} (r : bI k A) : A.units + 64 < cLine := by have := r.un; omega
def om : TA := fun _ H Q => Q [] H
def hV (ta : TE) (tr : TA) : TA := fun σ H Q => ta σ H fun x H1 => tr σ H1 fun xs H2 => Q (x :: xs) H2
section
variable {X : Cx} {e : Expr} {es : List Expr} {te : TE} {t : TA} {pos : Pos}
theorem gy : PA X [] om := fun _ _ _ _ H Q I h => Calls.spliced_nil ⟨[], H, I, .nil, h⟩
theorem cD (ha : PE X e te) (hr : PA X es t) (hs : starEach (e :: es) X.env = (false, eval e X.env) :: starEach es X.env := by rfl) : PA X (e :: es) (hV te t) := by
 intro pos pins s σ H Q I h
 rw [hs]
 show wpAny _ _ (spliced ((false, eval e X.env) :: backTo pos (starEach es X.env))) _ _ s
 refine Calls.spliced_cons (thn (ha pins s σ H _ I h) fun u s1 ⟨x, H1, I1, r1, q1⟩ => ?_)
 exact thn (hr pos pins s1 σ H1 _ I1 q1) fun us s2 ⟨xs, H2, I2, r2, q2⟩ => ⟨x :: xs, H2, I2, .cons r1 r2, q2⟩
def zo (t : TA) : TE := fun σ H Q => t σ H fun xs H1 => xs.length <= sizeLine /\ ∀ p, H1 p = none -> Q (.ref p) (upd H1 p (.tup xs))
theorem zD {x1} (h : PA X es t) : PE X (.Tuple es x1 pos) (zo t) := by
 intro pins s σ H Q I hq
 refine wpAny_Tuple_spliced (thn (h pos pins s σ H _ I hq) fun us s1 ⟨xs, H1, I1, r, z, q⟩ => ⟨by rw [<- r.length]; exact z, ?_⟩)
 have hf : H1 s1.heap.objs.size = none := I1.hok.fresh (Nat.le_refl _)
 refine ⟨.ref s1.heap.objs.size, upd H1 s1.heap.objs.size (.tup xs), I1.laid (t' := s1.toks) (fun b u e => Heap.get?_push_of_some _ e) (Nat.le_refl _) ?_, rfl, q _ hf⟩
 exact ⟨z, us, r, ⟨_, Heap.get?_push_size _ rfl, rfl, _, rfl⟩⟩
end
abbrev Sp := List V -> Hp -> VK -> XK -> Prop
abbrev CXT := List Env -> Hp -> Shared -> XK -> Value -> Shared -> Prop
structure tK (P : Program) (w : World) (K : PySem.W.Frag) (mg : Str -> Option Value) (base : Heap) (A : Around) (outer : List Env) (s : Shared) (H : Hp) : Prop where
 frames : A.frames = some outer
 mod : Mod K mg base
 bs : ∀ b o, base.get? b = some o -> s.heap.get? b = some o /\ H b = none
 bsz : base.objs.size <= s.heap.objs.size
 funs : s.heap.FunFrames base outer
 frf : ∀ b ∈ frs outer, H b = none
 hok : HOk P w H s.heap
 bare : AllBare s.gens
def CE (outer : List Env) (P : Program) (w : World) (H : Hp) (s : Shared) (Q : VK) (u : Value) (s' : Shared) : Prop :=
 ∃ v H', s'.os = s.os /\ AllBare s'.gens /\ Un (frs outer) [] H H' s.heap s'.heap /\ HOk P w H' s'.heap /\ RelV v u /\ Q v H'
def CR (CX : CXT) (outer : List Env) (P : Program) (w : World) (H : Hp) (s : Shared) (Q : VK) (E : XK) (r : Result) (s' : Shared) : Prop :=
 match r with
 | .ok (.ret u) => CE outer P w H s Q u s'
 | .ok _ => False
 | .error e => CX outer H s E e s'
structure aI (P : Program) (w : World) (K : PySem.W.Frag) (mg : Str -> Option Value) (base : Heap) (CX : CXT) (k : Nat) (f : Addr) (fd : FuncData) (ps : List Str) (sp : Sp) : Prop where
 len : ∀ vs H Q E, sp vs H Q E -> vs.length = ps.length
 run : ∀ (A : Around) (outer : List Env) (s : Shared) (H : Hp) (args : Args) (us : List Value) (vs : List V) (Q : VK) (E : XK), bI k A -> tK P w K mg base A outer s H -> BindsTo s fd args (ps.zip us) -> Vals vs us -> sp vs H Q E →
  codeAny (model P w) A (.call (.ref f) args) (CR CX outer P w H s Q E) s
section
variable {X : Cx} {pins : List (Addr × Obj)} {σ : St} {H : Hp} {s s' : Shared}
theorem Inv.env0 (I : Inv X pins σ H s) : tK X.prog X.w X.K X.mg X.base X.A X.stack s H :=
 ⟨I.ok.frames, I.ok.mod, I.bs, Nat.le_trans I.ok.bsz I.sz, I.stack, I.stkFree, I.hok, I.bare⟩
theorem Inv.after {Q : VK} {u : Value} (I : Inv X pins σ H s) (h : CE X.stack X.prog X.w H s Q u s') : EP X pins σ Q u s' := by
 obtain ⟨v, H', os, bare, un, hok, r, q⟩ := h
 obtain ⟨hh, g, d, t, os'⟩ := s'
 obtain rfl : os' = s.os := os
 exact ⟨v, H', I.call (h' := hh) (g' := g) (d' := d) (t' := t) (ch := []) un hok bare (fun b z => absurd z (by simp)), r, q⟩
end
def Binds (K : PySem.W.Frag) (fd : FuncData) (ps : List Str) (ds : List Value) : Prop :=
 ∀ (s : Shared) (us : List Value), K.In s.heap -> (us ++ ds).length = ps.length -> BindsTo s fd ⟨us, []⟩ (ps.zip (us ++ ds))
theorem Binds.all {K : PySem.W.Frag} {fd : FuncData} {ps : List Str} (h : ∀ us : List Value, us.length = ps.length -> bindArgs fd ⟨us, []⟩ = pure (ps.zip us)) : Binds K fd ps [] := fun s us _ hl => by
 rw [List.append_nil] at hl ⊢
 exact .of_eq (h us hl)
def Passes (CX : CXT) (X : Cx) (E : XK) : Prop := ∀ (pins : List (Addr × Obj)) (σ : St) (H : Hp) (s : Shared) (e : Value) (s' : Shared), Inv X pins σ H s -> CX X.stack H s E e s' -> X.xe e s'
section
variable {X : Cx} {CX : CXT} {k : Nat} {f C : Addr} {fd : FuncData} {ps : List Str} {sp : Sp} {dvs : List V} {ds : List Value} {E : XK} {x m : Str} {p pos apos : Pos} {e o : Expr} {es : List Expr} {ta : TE} {t : TA}
theorem zU {pins : List (Addr × Obj)} {σ : St} {H : Hp} {s : Shared} {Q : VK} {us : List Value} {vs : List V} (F : aI X.prog X.w X.K X.mg X.base CX k f fd ps sp) (hr : bI k X.A) (hb : Binds X.K fd ps ds) (hd : Vals dvs ds) (hx : Passes CX X E)
  (I : Inv X pins σ H s) (r : Vals vs us) (h : sp (vs ++ dvs) H Q E) : wpAny (model X.prog X.w) X.A (call (.ref f) us) (EP X pins σ Q) X.xe s := by
 have r2 : Vals (vs ++ dvs) (us ++ ds) := r.append hd
 have hl : (us ++ ds).length = ps.length := by rw [<- r2.length]; exact F.len _ _ _ _ h
 refine wpAny_call (codeAny_mono (F.run X.A X.stack s H ⟨us, []⟩ (us ++ ds) (vs ++ dvs) Q E hr I.env0 (hb s us I.kIn hl) r2 h) fun r s' hq => ?_)
 cases r with
 | error e => exact hx pins σ H s e s' I hq
 | ok fl =>
  cases fl with
  | ret u => exact I.after hq
  | next => exact False.elim hq
  | brk => exact False.elim hq
  | cont => exact False.elim hq
structure Mk (K : PySem.W.Frag) (C f : Addr) : Prop where
 makes : PySem.W.makesIn K C = true
 init : PySem.W.findIn K (.ref C) "__init__" = some (some (.ref f))
 fn : PySem.W.isFn K (.ref f) = true
 kp : PySem.W.keepIn K (.ref C) = true
end
section
variable {X : Cx} {CX : CXT} {k : Nat} {f C : Addr} {fd : FuncData} {ps ks : List Str} {sp : Sp} {E : XK} {x m : Str} {p pos apos kpos : Pos} {e o : Expr} {es : List Expr} {kws : List Keyword} {te ta : TE} {t tk : TA} {nm : Option Str}
structure A2 (K : PySem.W.Frag) (fd : FuncData) (ps ks : List Str) (g : List Value -> List Value -> List Value) (gV : List V -> List V -> List V) : Prop where
 to : ∀ (s : Shared) (us ws : List Value), K.In s.heap -> (g us ws).length = ps.length -> BindsTo s fd ⟨us, ks.zip ws⟩ (ps.zip (g us ws))
 rel : ∀ {vs : List V} {us : List Value} {zs : List V} {ws : List Value}, Vals vs us -> Vals zs ws -> Vals (gV vs zs) (g us ws)
variable {g : List Value -> List Value -> List Value} {gV : List V -> List V -> List V}
end
structure ay (N P : List Str) (sc : Scope) : Prop where
 kind : sc.kind = .function
 co : sc.isCoroutine = false
 gen : sc.isGenerator = false
 nd : N.Nodup
 pre : N.take P.length = P
 par : ∀ x ∈ P, sc.names.lookup x = some .local ∨ sc.names.lookup x = some .cell
 nofree : ∀ y ∈ sc.names, y.2 ≠ .free
theorem mS {kindOf : Str -> Option NameKind} {x : Str} : ∀ {binds : List (Str × Value)} {m : Str -> Option Value}, (∀ v, (x, v) ∉ binds) -> bindL kindOf binds m x = m x
 | [], _, _ => rfl
 | (n, v) :: r, m, h => by
  unfold bindL
  rw [mS fun w hw => h w (List.mem_cons_of_mem _ hw)]
  split
  ·have : x ≠ n := by rintro rfl; exact h v List.mem_cons_self
   simp [this]
  ·rfl
theorem nF {kindOf : Str -> Option NameKind} {x : Str} : ∀ {binds : List (Str × Value)} {m : Str -> Option Value}, (∀ v, (x, v) ∉ binds) -> bindC kindOf binds m x = m x
 | [], _, _ => rfl
 | (n, v) :: r, m, h => by
  unfold bindC
  rw [nF fun w hw => h w (List.mem_cons_of_mem _ hw)]
  split
  ·rfl
  ·have : x ≠ n := by rintro rfl; exact h v List.mem_cons_self
   simp [this]
theorem nB {kindOf : Str -> Option NameKind} {x : Str} {v : Value} : ∀ {P : List Str} {vs : List Value} {i : Nat} {m : Str -> Option Value}, P.Nodup -> P[i]? = some x -> vs[i]? = some v -> kindOf x = some .local →
  bindL kindOf (P.zip vs) m x = some v
 | [], _, _, _, _, h, _, _ => by simp at h
 | _ :: _, [], _, _, _, _, h, _ => by simp at h
 | p :: P, w :: vs, 0, m, nd, h1, h2, hk => by
  simp at h1 h2; subst h1; subst h2
  show bindL kindOf ((p, w) :: P.zip vs) m p = _
  unfold bindL
  rw [mS fun v hv => (List.nodup_cons.mp nd).1 (List.of_mem_zip hv).1, if_pos hk]
  simp
 | p :: P, w :: vs, i + 1, m, nd, h1, h2, hk => by
  show bindL kindOf ((p, w) :: P.zip vs) m x = _
  unfold bindL
  exact nB (i := i) (List.nodup_cons.mp nd).2 (by simpa using h1) (by simpa using h2) hk
theorem m5 {kindOf : Str -> Option NameKind} {x : Str} {v : Value} : ∀ {P : List Str} {vs : List Value} {i : Nat} {m : Str -> Option Value}, P.Nodup -> P[i]? = some x -> vs[i]? = some v -> kindOf x ≠ some .local →
  bindC kindOf (P.zip vs) m x = some v
 | [], _, _, _, _, h, _, _ => by simp at h
 | _ :: _, [], _, _, _, _, h, _ => by simp at h
 | p :: P, w :: vs, 0, m, nd, h1, h2, hk => by
  simp at h1 h2; subst h1; subst h2
  show bindC kindOf ((p, w) :: P.zip vs) m p = _
  unfold bindC
  rw [nF fun v hv => (List.nodup_cons.mp nd).1 (List.of_mem_zip hv).1, if_neg hk]
  simp
 | p :: P, w :: vs, i + 1, m, nd, h1, h2, hk => by
  show bindC kindOf ((p, w) :: P.zip vs) m x = _
  unfold bindC
  exact m5 (i := i) (List.nodup_cons.mp nd).2 (by simpa using h1) (by simpa using h2) hk
def start (N : List Str) (vs : List V) : St := vs.map some ++ List.replicate (N.length - vs.length) none
def cA (CX : CXT) (P : Program) (w : World) (K : PySem.W.Frag) (mg : Str -> Option Value) (base : Heap) (N : List Str) (qual : Str) (scope : Scope) (f : Addr) (cd : Value) (A : Around) (outer : List Env) (s : Shared) (H : Hp) (E : XK) : Cx where
 prog := P
 w := w
 K := K
 mg := mg
 base := base
 A := A.deeper (envOfC qual scope s.heap.objs.size f cd)
 N := N
 s₀ := s
 H₀ := H
 env := envOfC qual scope s.heap.objs.size f cd
 outer := outer
 stack := envOfC qual scope s.heap.objs.size f cd :: outer
 ex := []
 calm := true
 fn := fun _ => true
 pn := []
 xe := fun e s' => wpAny (model P w) (A.deeper (envOfC qual scope s.heap.objs.size f cd)) (leaving (envOfC qual scope s.heap.objs.size f cd) e) (fun _ s'' => CX outer H s E e s'') (fun e' s'' => CX outer H s E e' s'') s'
theorem pP {sc : Scope} {n : Nat} {x : Str} (h : sc.names.lookup x = some .cell) : ∃ c, (cellsFrom n sc.names []).lookup x = some c := by
 have q := PySem.W.cellsFrom_some sc.names n [] (.inl h)
 exact Option.isSome_iff_exists.mp q
theorem uR {CX : CXT} {P : Program} {w : World} {K : PySem.W.Frag} {mg : Str -> Option Value} {base : Heap} {N ps : List Str} {qual : Str} {scope : Scope} {f : Addr} {cd : Value} {A : Around} {outer : List Env} {s s1 : Shared} {H : Hp} {E : XK} {us : List Value} {vs : List V}
  (S : ay N ps scope) (hd : A.handled = none) (e0 : tK P w K mg base A outer s H) (hl : vs.length = ps.length) (r : Vals vs us)
  (x : InCallC s s.heap.objs.size (bindL (envOfC qual scope s.heap.objs.size f cd).kindOf (ps.zip us) fun _ => none) (cellsFrom (s.heap.objs.size + 1) scope.names []) (bindC (envOfC qual scope s.heap.objs.size f cd).kindOf (ps.zip us) fun _ => none) s1) :
  Inv (cA CX P w K mg base N qual scope f cd A outer s H E) [] (start N vs) H s1 := by
 have hpl : ps.length <= N.length := by have := congrArg List.length S.pre; rw [List.length_take] at this; omega
 obtain ⟨h1, tk, rfl, hk⟩ := x.done
 have noA : ∀ b : Addr, b ∉ (cA CX P w K mg base N qual scope f cd A outer s H E).ex := fun b z => absurd (show b ∈ ([] : List Addr) from z) (by simp)
 refine ⟨⟨e0.mod, S.kind, rfl, rfl, Nat.le_refl _, fun y z c h1 h2 => ?_, fun y hy => ?_, fun y c _ h => ?_, fun _ => hd, Around.frames_deeper e0.frames, .inr ⟨rfl, rfl⟩, fun b z => absurd z (noA b), e0.bs, e0.bsz, fun b _ _ => noA b, fun b z => absurd z (noA b), e0.funs, e0.frf⟩,
  rfl, e0.bare, Un.kept hk, ⟨_, x.toInCall.ns, fun i y v h1 h2 h3 => ?_⟩, fun y c h => ⟨_, x.cell y c h⟩, e0.hok.fresh (Nat.le_refl _), fun y c h => ?_, fun p hp => absurd (show p ∈ ([] : List (Addr × Obj)) from hp) (by simp), e0.hok.kept hk, ?_⟩
 ·exact name_of_addr x.apart (PySem.mem_of_lookup h1) (PySem.mem_of_lookup h2)
 ·have hy : scope.names.lookup y = some .cell ∨ scope.names.lookup y = some .free := hy
  rcases hy with hy | hy
  ·exact pP hy
  ·exact absurd rfl (S.nofree _ (PySem.mem_of_lookup hy))
 ·exact Nat.le_of_lt (x.above y c (PySem.mem_of_lookup h))
 ·have hi : i < vs.length := by
   unfold start at h2
   by_cases hi : i < vs.length
   ·exact hi
   ·rw [List.getElem?_append_right (by simpa using hi)] at h2
    rw [List.getElem?_replicate] at h2
    split at h2 <;> cases h2
  have ha : vs[i]? = some v := by
   unfold start at h2
   rw [List.getElem?_append_left (by simpa using hi), List.getElem?_map] at h2
   cases e : vs[i]? with
   | none => rw [e] at h2; cases h2
   | some a => rw [e] at h2; cases h2; rfl
  obtain ⟨u, hu, rv⟩ := r.get ha
  have hp : ps[i]? = some y := by
   rw [<- S.pre, List.getElem?_take_of_lt (by omega)]; exact h1
  have ndP : ps.Nodup := by rw [<- S.pre]; exact S.nd.sublist (List.take_sublist _ _)
  refine ⟨u, rv, ?_⟩
  rcases S.par y (List.mem_of_getElem? hp) with k | k
  ·exact .inl ⟨k, nB ndP hp hu k⟩
  ·obtain ⟨c, e⟩ := pP (n := s.heap.objs.size + 1) k
   refine .inr ⟨.inl k, c, e, ?_⟩
   have q := x.cell y c e
   rw [m5 ndP hp hu (by show scope.names.lookup y ≠ _; rw [k]; decide)] at q
   exact q
 ·exact e0.hok.fresh (Nat.le_of_lt (x.above y c (PySem.mem_of_lookup h)))
 ·unfold start
  show _ = N.length
  rw [List.length_append, List.length_map, List.length_replicate]
  omega
theorem w6 {CX : CXT} {P : Program} {w : World} {K : PySem.W.Frag} {mg : Str -> Option Value} {base : Heap} {k : Nat} {f : Addr} {name qual : Str} {params : Arguments} {body : List Stmt} {scope : Scope} {dV kV doc pm cdv ct oc : Value} {an od : Option Addr}
  {osl : Array (Option Value)} {N ps : List Str} {sp : Sp} (lk : K.lookup f = some ⟨oc, od, .func (PySem.W.fnOf name qual params body scope dV kV doc pm an cdv ct), osl⟩) (hcd : PySem.W.codeIn K cdv qual = true) (S : ay N ps scope)
  (len : ∀ vs H Q E, sp vs H Q E -> vs.length = ps.length)
  (hbody : ∀ (A : Around) (outer : List Env) (s : Shared) (H : Hp) (vs : List V) (Q : VK) (E : XK), bI k (A.deeper (envOfC qual scope s.heap.objs.size f cdv)) -> sp vs H Q E →
   ∃ t, PSs (cA CX P w K mg base N qual scope f cdv A outer s H E) body t /\ t { nx := fun _ H' => Q .non H', rt := Q } (start N vs) H) :
  aI P w K mg base CX (k + 1) f (PySem.W.fnOf name qual params body scope dV kV doc pm an cdv ct) ps sp := by
 refine ⟨len, fun A outer s H args us vs Q E hr e0 hb r hsp => ?_⟩
 have hl := len _ _ _ _ hsp
 have KX : K.In s.heap := e0.mod.kin.keeps fun b o e => (e0.bs b o e).1
 have lim : s.heap.NoLimit := e0.mod.nolimit.keeps fun b o e => (e0.bs b o e).1
 have hkind : ∀ y ∈ ps.zip us, scope.names.lookup y.1 = some .local ∨ (scope.names.lookup y.1 = some .cell /\ ((cellsFrom (s.heap.objs.size + 1) scope.names []).lookup y.1).isSome = true) := fun ⟨n, v⟩ hy => by
  rcases S.par n (List.of_mem_zip hy).1 with q | q
  ·exact .inl q
  ·exact .inr ⟨q, PySem.W.cellsFrom_some _ _ _ (.inl q)⟩
 refine codeAny_call_function hr.depth (KX _ _ lk) rfl S.co S.gen rfl (PySem.W.codeRec_of KX hcd) (hb _ _ _ _ ?_)
 refine wpAny_newFunctionEnv_cells S.kind hkind fun env he s1 x => ?_
 subst he
 refine ⟨lim.keeps x.toInCall.keep, codeAny_func ?_⟩
 obtain ⟨t, ht, hq⟩ := hbody A outer s H vs Q E (hr.deeper _) hsp
 have I : Inv (cA CX P w K mg base N qual scope f cdv A outer s H E) [] (start N vs) H s1 := uR S hr.hd e0 hl r x
 refine wpAny_mono (ht [] s1 (start N vs) H _ I hq) (fun fl s' hs => ?_) fun e s' hs => hs
 have fin : ∀ {σ' : St} {H' : Hp} {v : V} {u : Value}, Inv (cA CX P w K mg base N qual scope f cdv A outer s H E) [] σ' H' s' -> RelV v u -> Q v H' -> CE outer P w H s Q u s' :=
  fun {σ' H' v u} J rv q => ⟨v, H', J.os, J.bare, J.base, J.hok, rv, q⟩
 cases fl with
 | ret u =>
  obtain ⟨v, σ', H', J, rv, q⟩ := hs
  exact fin J rv q
 | next =>
  obtain ⟨σ', H', J, q⟩ := hs
  exact fin (v := V.non) (u := Value.none) J rfl q
 | brk =>
  obtain ⟨_, _, _, q⟩ := hs
  exact False.elim q
 | cont =>
  obtain ⟨_, _, _, q⟩ := hs
  exact False.elim q
end L2
namespace L2
open PySem PySem.Spec PyProof.Rows
section
variable {X : Cx} {x : Str} {p pos : Pos} {e : Expr} {es : List Expr} {t : TA} {id T : String} {r : List V -> Hp -> VK -> Prop}
def tCB (r : List V -> Hp -> VK -> Prop) (t : TA) : TE := fun σ H Q => t σ H fun vs H1 => r vs H1 Q
theorem nC (hc : kr X (.type T) r) (hg : Gl X x) (hm : X.mg x = none) (hv : bootBuiltins x = some (.type T)) (ha : PA X (e :: es) t) (hn : x ≠ "__name__" := by decide) (hdb : (x == ("__debug__" : Str)) = false := by decide)
  (he : starEach (e :: es) X.env = (false, eval e X.env) :: starEach es X.env := by rfl) (hpl : (backTo pos (starEach es X.env)).any (·.1) = false := by rfl) : PE X (.Call (.Name x p) (e :: es) [] pos) (tCB r t) := by
 intro pins s σ H Q I h
 refine wpAny_Call_Name_kw (cS I hg hm hv ?_ hn hdb)
 exact PyProof.Rows.callWith_type1 (thn (ha pos pins s σ H _ I h) fun us s1 ⟨vs, H1, I1, r1, q1⟩ => hc pins s1 σ H1 vs us Q I1 r1 q1) he hpl
end
end L2
namespace HT
open PySem PyProof.Rows
def lexLt : List Int -> List Int -> Bool
 | [], [] => false
 | [], _ :: _ => true
 | _ :: _, [] => false
 | x :: xs, y :: ys => if x = y then lexLt xs ys else decide (x < y)
section
open PySem.SeqAt
open PySem.AutoSeq1 (wpAny_loadPart')
open PySem.MeetsSeq PySem.MeetsSeq2 PySem.MeetsSeq3
end
section
variable {prog : Program} {w : World} {A : Around} {E : Value -> Shared -> Prop} {s : Shared}
def sIx (n d : Nat) : Option Int -> Nat
 | none => d
 | some v => if v < 0 then (v + (n : Int)).toNat else min v.toNat n
theorem rO (n d k : Nat) : sIx n d (some (k : Int)) = min k n := by
 show (if (k : Int) < 0 then ((k : Int) + (n : Int)).toNat else min (k : Int).toNat n) = min k n
 rw [if_neg (by omega), Int.toNat_natCast]
theorem zq (n d : Nat) (hd : d <= n) (o : Option Int) : sIx n d o <= n := by
 cases o with
 | none => exact hd
 | some v =>
  show (if v < 0 then (v + (n : Int)).toNat else min v.toNat n) <= n
  by_cases hv : v < 0
  ·rw [if_pos hv]; omega
  ·rw [if_neg hv]; exact Nat.min_le_right _ _
theorem rL (v : Int) (n d : Nat) : (if v < 0 then max (v + (n : Int)) 0 else min v (n : Int)) = ((sIx n d (some v) : Nat) : Int) := by
 show (if v < 0 then max (v + (n : Int)) 0 else min v (n : Int)) = (((if v < 0 then (v + (n : Int)).toNat else min v.toNat n) : Nat) : Int)
 by_cases hv : v < 0
 ·simp only [if_pos hv]; omega
 ·simp only [if_neg hv]; omega
theorem tD (lo hi : Option Int) (n : Nat) : Builtin.Slice.sliceAdjust lo hi 1 (n : Int) = (((sIx n 0 lo : Nat) : Int), ((sIx n n hi : Nat) : Int)) := by
 have h1 : ¬ ((1 : Int) < 0) := by omega
 unfold Builtin.Slice.sliceAdjust
 simp only [h1, if_false]
 refine Prod.ext ?_ ?_
 ·cases lo with
  | none => rfl
  | some v => exact rL v n 0
 ·cases hi with
  | none => rfl
  | some v => exact rL v n n
theorem sE (i j : Nat) : Builtin.Slice.slicePlaces (i : Int) (j : Int) 1 = j - i := by
 unfold Builtin.Slice.slicePlaces
 have h1 : (1 : Int) > 0 := by omega
 simp only [h1, if_true, Int.ediv_one]
 split <;> omega
theorem l9 {v : Value} {o : Option Int} {Q : Option Int -> Shared -> Prop} (p : IsPart v o) (h : Q o s) : wpAny (model prog w) A (Builtin.Slice.slicePartIndex v) Q E s := by
 cases p with
 | none => exact slicePart_none h
 | int i t => exact slicePart_int h
theorem lB {sl : Addr} {vl vu : Value} {lo hi : Option Int} {n : Nat} {Q : Int × Int × Nat -> Shared -> Prop} (hs : s.heap.IsSliceOf sl vl vu .none) (pl : IsPart vl lo) (pu : IsPart vu hi)
  (h : Q (((sIx n 0 lo : Nat) : Int), 1, sIx n n hi - sIx n 0 lo) s) : wpAny (model prog w) A (Builtin.Slice.sliceApplied (.ref sl) (pure (n : Int))) Q E s := by
 obtain ⟨os, hos, hcs, hds⟩ := id hs
 unfold Builtin.Slice.sliceApplied Builtin.Slice.sliceFields
 refine wpAny_bind (wpAny_bind (wpAny_field hos hds (x := vl) rfl (wpAny_bind (wpAny_field hos hds (x := vu) rfl (wpAny_bind (wpAny_field hos hds (x := .none) rfl (wpAny_pure ?_)))))))
 refine wpAny_bind (slicePart_none ?_)
 show wpAny _ _ (if ((1 : Int) == 0) = true then _ else _) _ _ s
 rw [if_neg (by decide)]
 refine wpAny_bind (l9 pl (wpAny_bind (l9 pu (wpAny_bind (wpAny_pure ?_)))))
 show wpAny _ _ (match Builtin.Slice.sliceAdjust lo hi 1 (n : Int) with | (lo, hi) => pure (lo, (1 : Int), Builtin.Slice.slicePlaces lo hi 1)) _ _ s
 rw [tD lo hi n]
 show wpAny _ _ (pure (((sIx n 0 lo : Nat) : Int), (1 : Int), Builtin.Slice.slicePlaces ((sIx n 0 lo : Nat) : Int) ((sIx n n hi : Nat) : Int) 1)) _ _ s
 rw [sE]
 exact wpAny_pure h
theorem vK (xs : Array Value) (i k : Nat) : ((List.range k).filterMap fun (m : Nat) => xs[((i : Int) + (m : Int) * 1).toNat]?).toArray = ((xs.toList.drop i).take k).toArray := by
 have e : (fun (m : Nat) => xs[((i : Int) + (m : Int) * 1).toNat]?) = fun m => xs[i + m]? := by
  funext m
  have : ((i : Int) + (m : Int) * 1).toNat = i + m := by omega
  rw [this]
 rw [e]
 have := pick_run xs i k
 rw [List.filterMap_map] at this
 have e2 : ((fun x => xs[x]?) ∘ fun x => i + x) = fun m => xs[i + m]? := rfl
 rw [e2] at this
 rw [this]
theorem ku {t sl : Addr} {items : Array Value} {vl vu : Value} {lo hi : Option Int} {Q : Value -> Shared -> Prop} (ht : IsTup s.heap t items) (hs : s.heap.IsSliceOf sl vl vu .none) (pl : IsPart vl lo) (pu : IsPart vu hi)
  (hw : ¬ (sIx items.size 0 lo = 0 /\ sIx items.size items.size hi = items.size))
  (h : Q (.ref s.heap.objs.size) { s with heap := s.heap.push { cls := .type "tuple", data := .seq ((items.toList.drop (sIx items.size 0 lo)).take (sIx items.size items.size hi - sIx items.size 0 lo)).toArray } })
  (hsz : items.size <= sizeLine) : wpAny (model prog w) A (getItem (.ref t) (.ref sl)) Q E s := by
 have htake : sizeOk (.seq ((items.toList.drop (sIx items.size 0 lo)).take (sIx items.size items.size hi - sIx items.size 0 lo)).toArray) := by
  show ((items.toList.drop (sIx items.size 0 lo)).take (sIx items.size items.size hi - sIx items.size 0 lo)).toArray.size <= sizeLine
  rw [List.size_toArray, List.length_take, List.length_drop, Array.length_toList]
  omega
 have hj : sIx items.size items.size hi <= items.size := zq _ _ (Nat.le_refl _) hi
 obtain ⟨os, hos, hcs, hds⟩ := id hs
 have hTs : s.TypeIs (.ref sl) "slice" := ⟨os, hos, hcs⟩
 unfold getItem
 try with_reducible refine wpAny_holding ?_
 first | refine wpAny_bind (wpAny_pure ?_) | skip
 refine wpAny_bind (wpAny_sequenceKey ht.typeIs (by decide) ?_)
 refine wpAny_bind (wpAny_callSpecial?_slot (name := Str.ofString "__getitem__") ht.typeIs PyProof.Rows.slot_tuple_getitem
  (wpAny_call_entry PyProof.Rows.slot_tuple_getitem ht.typeIs entry_tuple_getitem ?_ (args_tuple_getitem _ _)))
 show wpAny _ _ (Builtin.Tuple.tupleItemsOf (.ref t) >>= _) _ _ s
 refine wpAny_bind (tupleItemsOf_ ht ?_)
 refine wpAny_bind (wpAny_typeOf hTs ?_)
 rw [if_pos (by decide)]
 refine wpAny_bind (lB hs pl pu ?_)
 have hno : ¬ ((((sIx items.size 0 lo : Nat) : Int) == 0 && (1 : Int) == 1 && (sIx items.size items.size hi - sIx items.size 0 lo) == items.size) = true) := by
  intro q
  rw [Bool.and_eq_true, Bool.and_eq_true] at q
  have q1 : ((sIx items.size 0 lo : Nat) : Int) = 0 := eq_of_beq q.1.1
  have q2 : sIx items.size items.size hi - sIx items.size 0 lo = items.size := eq_of_beq q.2
  exact hw ⟨by omega, by omega⟩
 show wpAny _ _ (if (((sIx items.size 0 lo : Nat) : Int) == 0 && (1 : Int) == 1 && (sIx items.size items.size hi - sIx items.size 0 lo) == items.size) = true then _ else _) _ _ s
 rw [if_neg hno, vK]
 first
  | exact wpAny_bind (m := Builtin.Tuple.tupleExact _) (wpAny_newObj_type (wpAny_pure ⟨_, rfl, wpAny_pure h⟩) htake)
  | exact wpAny_bind (m := Builtin.Tuple.tupleExact _) (wpAny_newObj_type (wpAny_bind (wpAny_pure (wpAny_pure ⟨_, rfl, wpAny_pure h⟩))) htake)
  | exact wpAny_bind (wpAny_bind (m := Builtin.Tuple.tupleExact _) (wpAny_newObj_type (wpAny_pure (wpAny_pure ⟨_, rfl, wpAny_pure h⟩)) htake))
  | exact wpAny_bind (wpAny_bind (m := Builtin.Tuple.tupleExact _) (wpAny_newObj_type (wpAny_pure ⟨_, rfl, wpAny_pure h⟩) htake))
end
end HT
namespace L2
open PySem PySem.Spec PyProof.Rows
abbrev TO := St -> Hp -> (Option Int -> Hp -> Prop) -> Prop
theorem intsAre_of {ns : List Int} : ∀ {us : List Value}, Vals (ns.map V.int) us -> IntsAre us ns := by
 induction ns with
 | nil => intro us r; rw [List.map_nil] at r; cases r; exact .nil
 | cons n ns ih =>
  intro us r
  rw [List.map_cons] at r
  cases r with
  | cons r1 r2 =>
   obtain ⟨t, e⟩ := r1
   subst e
   exact .cons n t (ih r2)
section
variable {X : Cx} {e : Expr} {te : TE} {lo hi : Option Expr} {tl th : TO} {pos p2 : Pos}
def SlR (X : Cx) (r : V -> Option Int -> Option Int -> Hp -> VK -> Prop) : Prop :=
 ∀ (pins : List (Addr × Obj)) (s : Shared) (σ : St) (H : Hp) (x : V) (v vl vu : Value) (lo hi : Option Int) (sl : Addr) (Q : VK), Inv X pins σ H s -> RelV x v -> s.heap.IsSliceOf sl vl vu .none -> IsPart vl lo -> IsPart vu hi -> r x lo hi H Q →
  ∃ T id, typeLookup (.type T) "__getitem__" = pure (some (.builtin id)) /\ s.TypeIs v T /\ wpAny (model X.prog X.w) X.A (getItem v (.ref sl)) (EP X pins σ Q) X.xe s
def jM (xs : List V) (lo hi : Option Int) : List V := (xs.drop (HT.sIx xs.length 0 lo)).take (HT.sIx xs.length xs.length hi - HT.sIx xs.length 0 lo)
theorem kD (xs : List V) (lo hi : Option Int) : (jM xs lo hi).length <= xs.length := by
 unfold jM
 rw [List.length_take, List.length_drop]
 omega
def AI (K : PySem.W.Frag) : V -> Option Int -> Option Int -> Hp -> VK -> Prop := fun x lo hi H Q => ∃ a xs, x = .ref a /\ SqT K H a xs ∧
 ¬ (HT.sIx xs.length 0 lo = 0 /\ HT.sIx xs.length xs.length hi = xs.length) /\ ∀ p, H p = none -> Q (.ref p) (upd H p (.tup (jM xs lo hi)))
theorem Aa : SlR X (AI X.K) := by
 intro pins s σ H x v vl vu lo hi sl Q I rx hs pl pu h
 obtain ⟨a, xs, rfl, hx, hw, q⟩ := h
 cases rx
 obtain ⟨its, r, ht, hz⟩ := I.tuple hx
 have hlen : its.toArray.size = xs.length := by rw [List.size_toArray]; exact r.length.symm
 refine ⟨"tuple", _, PyProof.Rows.slot_tuple_getitem.lookup, ht.typeIs, ?_⟩
 refine HT.ku ht hs pl pu (by rw [hlen]; exact hw) ?_ (by rw [hlen]; exact hz)
 rw [hlen]
 refine ⟨.ref s.heap.objs.size, _, I.laid (t' := s.toks) (o := .tup (jM xs lo hi)) (fun b ob q => Heap.get?_push_of_some _ q) (Nat.le_refl _) ?_, rfl, q _ (I.hok.fresh (Nat.le_refl _))⟩
 exact ⟨Nat.le_trans (kD xs lo hi) hz, _, (r.drop (HT.sIx xs.length 0 lo)).take (HT.sIx xs.length xs.length hi - HT.sIx xs.length 0 lo), IsTup.new _ _⟩
end
end L2
namespace L2
open PySem PySem.Spec PyProof.Rows
def ixN (n : Nat) (i : Int) : Option Nat := if 0 <= i then (if i < n then some i.toNat else none) else if -(n : Int) <= i then some (i + n).toNat else none
def atI {α : Type} (xs : List α) (i : Int) : Option α := (ixN xs.length i).bind fun j => xs[j]?
theorem yA {n : Nat} {i : Int} {j : Nat} (h : ixN n i = some j) : seqIndex? i n = some j /\ j < n /\ -(n : Int) <= i /\ i < n := by
 unfold ixN at h
 by_cases h0 : 0 <= i
 ·rw [if_pos h0] at h
  by_cases h1 : i < n
  ·rw [if_pos h1] at h
   have e : i.toNat = j := Option.some.inj h
   exact ⟨by rw [seqIndex_of h0 h1, e], by omega, by omega, h1⟩
  ·rw [if_neg h1] at h; cases h
 ·rw [if_neg h0] at h
  by_cases h1 : -(n : Int) <= i
  ·rw [if_pos h1] at h
   have e : (i + n).toNat = j := Option.some.inj h
   exact ⟨by rw [seqIndex_neg (by omega) h1, e], by omega, h1, by omega⟩
  ·rw [if_neg h1] at h; cases h
theorem qO {α : Type} {xs : List α} {i : Int} {v : α} (h : atI xs i = some v) : ∃ j, seqIndex? i xs.length = some j /\ xs[j]? = some v /\ j < xs.length /\ -(xs.length : Int) <= i /\ i < xs.length := by
 unfold atI at h
 cases e : ixN xs.length i with
 | none => rw [e] at h; cases h
 | some j =>
  rw [e] at h
  obtain ⟨h1, h2, h3, h4⟩ := yA e
  exact ⟨j, h1, h, h2, h3, h4⟩
theorem bA {α : Type} {xs : List α} {j : Nat} {v : α} (h : xs[j]? = some v) : atI xs (j : Int) = some v := by
 have hj : j < xs.length := (List.getElem?_eq_some_iff.mp h).1
 have e : ixN xs.length (j : Int) = some j := by
  unfold ixN
  rw [if_pos (by omega), if_pos (by omega)]; simp
 unfold atI; rw [e]; exact h
theorem vj {α : Type} (xs : List α) (v : α) : atI (xs ++ [v]) (-1) = some v := by
 have hl : (xs ++ [v]).length = xs.length + 1 := by simp
 have e : ixN (xs ++ [v]).length (-1) = some xs.length := by
  unfold ixN
  rw [hl, if_neg (by decide), if_pos (by omega)]
  congr 1
  omega
 unfold atI
 rw [e]
 show (xs ++ [v])[xs.length]? = some v
 simp
def qX (b : Expr) : Prop := ∀ o i, subscripted b false o i = operate [o, i] (getItem o i)
def IxR (X : Cx) (r : R2) : Prop :=
 ∀ (value slice : Expr) (pins : List (Addr × Obj)) (s : Shared) (σ : St) (H : Hp) (x y : V) (v u : Value) (Q : VK), Inv X pins σ H s -> RelV x v -> RelV y u -> r x y H Q →
  subscripted slice false v u = operate [v, u] (getItem v u) -> wpAny (model X.prog X.w) X.A (subscriptTail value slice v u) (EP X pins σ Q) X.xe s
def MtR (X : Cx) (id : String) (r : V -> List V -> Hp -> VK -> Prop) : Prop :=
 ∀ (pins : List (Addr × Obj)) (s : Shared) (σ : St) (H : Hp) (x : V) (xs : List V) (v : Value) (us : List Value) (Q : VK), Inv X pins σ H s -> RelV x v -> Vals xs us -> r x xs H Q →
  wpAny (model X.prog X.w) X.A (call (.builtin id) (v :: us)) (EP X pins σ Q) X.xe s
section
variable {X : Cx} {a b : Expr} {ta tb : TE} {pos : Pos}
theorem xg {r : R2} (hr : IxR X r) (ha : PE X a ta) (hb : PE X b tb) (hs : qX b) : PE X (.Subscript a b pos) (tOp r ta tb) := by
 intro pins s σ H Q I h
 exact Subscript_ (AH ha hb I h fun v u s2 x y H2 I2 rx ry q => hr a b pins s2 σ H2 x y v u Q I2 rx ry q (hs _ _))
def AS (K : PySem.W.Frag) : R2 := fun x y H Q => ∃ p xs i v, x = .ref p /\ y = .int i /\ SqL K H p xs /\ atI xs i = some v /\ Q v H
def wN (K : PySem.W.Frag) : R2 := fun x y H Q => ∃ p xs i v, x = .ref p /\ y = .int i /\ SqT K H p xs /\ atI xs i = some v /\ Q v H
theorem xP : IxR X (AS X.K) := by
 intro value slice pins s σ H x y v u Q I rx ry h hs
 obtain ⟨p, xs, i, z, rfl, rfl, hq, he, q⟩ := h
 cases rx
 obtain ⟨t, rfl⟩ := ry
 obtain ⟨its, r, pl, hz⟩ := I.list hq
 obtain ⟨j, h1, h2, h3, h4, h5⟩ := qO he
 obtain ⟨w, ew, rw'⟩ := r.get h2
 have hl := r.length
 have hn := pC
 have fin : EP X pins σ Q w s := ⟨z, H, I, rw', q⟩
 by_cases h0 : 0 <= i
 ·have hj : i.toNat = j := by
   rw [seqIndex_of h0 h5] at h1
   exact Option.some.inj h1
  exact item_listR pl.isList h0 (by omega) (by rw [hj]; simpa using ew) fin hs
 ·have hj : (i + (its.toArray.size : Int)).toNat = j := by
   rw [seqIndex_neg (by omega) h4] at h1
   rw [List.size_toArray, <- hl]
   exact Option.some.inj h1
  exact subscriptTail_builtinR (x := w) pl.isList.typeIs slot_list_getitem.lookup
   (wpAny_getItem_list_neg (Q := fun r s' => r = w /\ EP X pins σ Q r s') pl.isList (by omega) (by rw [List.size_toArray] <;> omega) (by omega) (by rw [hj]; simpa using ew) ⟨rfl, fin⟩) hs
theorem qg : IxR X (wN X.K) := by
 intro value slice pins s σ H x y v u Q I rx ry h hs
 obtain ⟨p, xs, i, z, rfl, rfl, hq, he, q⟩ := h
 cases rx
 obtain ⟨t, rfl⟩ := ry
 obtain ⟨its, r, pl, hz⟩ := I.tuple hq
 obtain ⟨j, h1, h2, h3, h4, h5⟩ := qO he
 obtain ⟨w, ew, rw'⟩ := r.get h2
 have hl := r.length
 have hn := pC
 have fin : EP X pins σ Q w s := ⟨z, H, I, rw', q⟩
 exact subscriptTail_builtinR (x := w) pl.typeIs slot_tuple_getitem.lookup
  (getItem_tuple (j := j) (Q := fun r s' => r = w /\ EP X pins σ Q r s') pl (by omega) (by omega) (by rw [List.size_toArray, <- hl]; exact h1) (by simpa using ew) ⟨rfl, fin⟩) hs
theorem Inv.lst {pins : List (Addr × Obj)} {σ : St} {H : Hp} {s : Shared} {p : Addr} {xs : List V} (I : Inv X pins σ H s) (h : H p = some (.lst xs)) :
  ∃ (its : List Value) (n : Nat), Vals xs its /\ s.heap.get? p = some { cls := .type "list", data := .seq its.toArray n } /\ xs.length <= sizeLine := by
 obtain ⟨z, its, n, r, e⟩ := I.hok p _ h
 exact ⟨its, n, r, e, z⟩
theorem pH (lo hi : Option Int) (n : Nat) : (sliceBounds lo hi none n).1 = ((HT.sIx n 0 lo : Nat) : Int) /\ (sliceBounds lo hi none n).2.1 = ((HT.sIx n n hi : Nat) : Int) /\ (sliceBounds lo hi none n).2.2 = 1 := by
 refine ⟨?_, ?_, rfl⟩
 ·cases lo with
  | none => simp [sliceBounds, HT.sIx]
  | some i =>
   simp only [sliceBounds, HT.sIx, Option.getD_none, show (1 : Int) > 0 by decide, if_true]
   by_cases h : i < 0
   ·simp only [h, if_true] <;> omega
   ·simp only [h, if_false] <;> omega
 ·cases hi with
  | none => simp [sliceBounds, HT.sIx]
  | some i =>
   simp only [sliceBounds, HT.sIx, Option.getD_none, show (1 : Int) > 0 by decide, if_true]
   by_cases h : i < 0
   ·simp only [h, if_true] <;> omega
   ·simp only [h, if_false] <;> omega
theorem nS (its : List Value) (lo hi : Option Int) : slicePick its.toArray lo hi none = ((its.drop (HT.sIx its.length 0 lo)).take (HT.sIx its.length its.length hi - HT.sIx its.length 0 lo)).toArray := by
 obtain ⟨h1, h2, h3⟩ := pH lo hi its.toArray.size
 unfold slicePick
 rw [h1, h2, h3]
 simp only [sliceRange_one, pick_run, List.size_toArray] <;> rfl
theorem pT : kr X (.builtin "len") (fun xs H Q => ∃ p ys, xs = [.ref p] /\ (SqL X.K H p ys ∨ SqT X.K H p ys) /\ Q (.int ys.length) H) := by
 intro pins s σ H xs us Q I r h
 obtain ⟨p, ys, rfl, hq, q⟩ := h
 obtain ⟨u, rfl, rx⟩ := vals1 r
 cases rx
 have hn := pC
 rcases hq with hq | hq
 ·obtain ⟨its, r', pl, hz⟩ := I.list hq
  have hlen := r'.length
  exact Calls.call_len_list pl.isList (by simp only [List.size_toArray] <;> omega) ⟨.int ys.length, H, I.tok _, ⟨s.toks + 1, by rw [List.size_toArray, hlen]⟩, q⟩
 ·obtain ⟨its, r', pl, hz⟩ := I.tuple hq
  have hlen := r'.length
  exact len_tuple pl (by simp only [List.size_toArray] <;> omega) ⟨.int ys.length, H, I.tok _, ⟨s.toks + 1, by rw [List.size_toArray, hlen]⟩, q⟩
theorem jZ : kr X (.type "list") (fun xs H Q => ∃ p ys, xs = [.ref p] /\ (SqL X.K H p ys ∨ SqT X.K H p ys) /\ ∀ l, H l = none -> Q (.ref l) (upd H l (.lst ys))) := by
 intro pins s σ H xs us Q I r h
 obtain ⟨p, ys, rfl, hq, q⟩ := h
 obtain ⟨u, rfl, rx⟩ := vals1 r
 cases rx
 have fin : ∀ (its : List Value), Vals ys its -> ys.length <= sizeLine -> ∀ (h' : Heap) (c' : Nat), (∀ b o', s.heap.get? b = some o' -> h'.get? b = some o') →
   h'.get? s.heap.objs.size = some { cls := .type "list", dict := none, data := .seq its.toArray c', slots := #[] } -> EP X pins σ Q (.ref s.heap.objs.size) { s with heap := h' } := fun its r' hz h' c' kp e =>
  ⟨.ref s.heap.objs.size, _, I.laid (t' := s.toks) kp (Nat.le_refl _) (show bX X.prog X.w _ h' _ (.lst ys) from ⟨hz, its, c', r', e⟩), rfl, q _ (I.hok.fresh (Nat.le_refl _))⟩
 rcases hq with hq | hq
 ·obtain ⟨its, r', pl, hz⟩ := I.list hq
  have hlen := r'.length
  obtain ⟨o, ho, hc, n, hd⟩ := pl.isList
  exact call_list_seq p (.inl rfl) ho hc hd (fun h' c' kp e => fin its r' hz h' c' kp e) (by simp only [List.size_toArray] <;> omega)
 ·obtain ⟨its, r', pl, hz⟩ := I.tuple hq
  have hlen := r'.length
  obtain ⟨o, ho, hc, n, hd⟩ := pl
  exact call_list_seq p (.inr rfl) ho hc hd (fun h' c' kp e => fin its r' hz h' c' kp e) (by simp only [List.size_toArray] <;> omega)
def tyV (K : PySem.W.Frag) (T : String) (x : V) (H : Hp) : Prop := match x with
 | .str _ => T = "str"
 | .int _ => T = "int"
 | .ref p => (T = "list" /\ ∃ xs, SqL K H p xs) ∨ (T = "tuple" /\ ∃ o, K.lookup p = some o /\ o.cls = .type "tuple" /\ o.dict = none) ∨
   (T = "dict" /\ ((∃ kvs, H p = some (.dK kvs)) ∨ ∃ kvs, H p = some (.dT kvs))) ∨ (T = "set" /\ ∃ S n, H p = some (.set S n))
 | _ => False
theorem ud {pins : List (Addr × Obj)} {σ : St} {H : Hp} {s : Shared} {T : String} {x : V} {v : Value} (I : Inv X pins σ H s) (r : RelV x v) (ty : tyV X.K T x H) :
  s.TypeIs v T /\ ∀ a, v = .ref a -> ∃ ob, s.heap.get? a = some ob /\ ob.dict = none := by
 cases x with
 | str z =>
  obtain ⟨t, rfl⟩ := r
  cases (show T = "str" from ty)
  exact ⟨typeIs_str s z t, fun _ e => nomatch e⟩
 | int i =>
  obtain ⟨t, rfl⟩ := r
  cases (show T = "int" from ty)
  exact ⟨typeIs_int s i t, fun _ e => nomatch e⟩
 | ref p =>
  cases r
  rcases ty with ⟨rfl, xs, hq⟩ | ⟨rfl, o, hk, hc, hd⟩ | ⟨rfl, hk⟩ | ⟨rfl, S, n, hk⟩
  ·obtain ⟨its, _, pl, _⟩ := I.list hq
   refine ⟨pl.isList.typeIs, fun a e => ?_⟩
   cases e
   obtain ⟨o, n, e, c, hd, _⟩ := pl
   exact ⟨o, e, hd⟩
  ·refine ⟨⟨o, I.kIn p o hk, hc⟩, fun a e => ?_⟩
   cases e
   exact ⟨o, I.kIn _ o hk, hd⟩
  ·have z : ∃ o, s.heap.get? p = some o /\ o.ExactDict := by
    rcases hk with ⟨kvs, hk⟩ | ⟨kvs, hk⟩
    ·obtain ⟨_, _, _, _, o, _, _, e, ex, _⟩ := I.hok p _ hk
     exact ⟨o, e, ex⟩
    ·obtain ⟨_, _, _, _, o, _, _, e, ex, _⟩ := I.hok p _ hk
     exact ⟨o, e, ex⟩
   obtain ⟨o, e, ex⟩ := z
   refine ⟨⟨o, e, ex.1⟩, fun a e2 => ?_⟩
   cases e2
   exact ⟨o, e, ex.2.1⟩
  ·obtain ⟨o, _, _, _, e, ex, _⟩ := I.hok p _ hk
   refine ⟨⟨o, e, ex.1⟩, fun a e2 => ?_⟩
   cases e2
   exact ⟨o, e, ex.2.1⟩
 | _ => exact False.elim ty
def A0 (K : PySem.W.Frag) (T : String) (r : V -> List V -> Hp -> VK -> Prop) (to : TE) : TE := fun σ H Q => to σ H fun x H1 => tyV K T x H1 /\ r x [] H1 Q
def tBM (K : PySem.W.Frag) (T : String) (r : V -> List V -> Hp -> VK -> Prop) (to : TE) (t : TA) : TE := fun σ H Q => to σ H fun x H1 => tyV K T x H1 /\ t σ H1 fun xs H2 => r x xs H2 Q
variable {o e : Expr} {es : List Expr} {to : TE} {t : TA} {name : Str} {apos cpos : Pos} {T id : String} {r : V -> List V -> Hp -> VK -> Prop}
theorem zt (pa : PlainAttrs T) (slot : Slot T name id) (hty : typeOf (.builtin id) = pure (.type "method_descriptor")) (hm : MtR X id r) (ho : PE X o to)
  (hbase : attributeBase o name X.env (eval o X.env) = eval o X.env := by rfl) (hline : (apos.endLine == cpos.line) = true := by rfl) : PE X (.Call (.Attribute o name apos) [] [] cpos) (A0 X.K T r to) := by
 intro pins s σ H Q I h
 refine wpAny_Call_method0_late hbase hline (thn (ho pins s σ H _ I h) fun v s1 ⟨x, H1, I1, r1, ty, q1⟩ => ?_)
 obtain ⟨h1, h2⟩ := ud I1 r1 ty
 exact ⟨T, id, pa, slot, hty, h1, h2, Calls.callWith_builtin rfl (PySem.evalArgs_none (hm pins s1 σ H1 x [] v [] Q I1 r1 .nil q1))⟩
theorem rR (pa : PlainAttrs T) (slot : Slot T name id) (hty : typeOf (.builtin id) = pure (.type "method_descriptor")) (hm : MtR X id r) (ho : PE X o to) (ha : PA X (e :: es) t)
  (hbase : attributeBase o name X.env (eval o X.env) = eval o X.env := by rfl)
  (hfew : ((backTo cpos (starEach (e :: es) X.env)).all (fun x => !x.1) && (backToKw cpos (keywordEach [] X.env)).all (fun x => x.1.isSome)
   && decide ((e :: es).length + ([] : List Keyword).length + (if ([] : List Keyword).isEmpty then 0 else 1) < 30)) = true := by rfl)
  (hline : (apos.endLine == cpos.line) = true := by rfl) (hs : starEach (e :: es) X.env = (false, eval e X.env) :: starEach es X.env := by rfl) (hplain : (backTo cpos (starEach es X.env)).any (·.1) = false := by rfl) :
  PE X (.Call (.Attribute o name apos) (e :: es) [] cpos) (tBM X.K T r to t) := by
 intro pins s σ H Q I h
 refine wpAny_Call_method_late hbase hfew hline rfl (thn (ho pins s σ H _ I h) fun v s1 ⟨x, H1, I1, r1, ty, q1⟩ => ?_)
 obtain ⟨h1, h2⟩ := ud I1 r1 ty
 refine ⟨T, id, pa, slot, hty, h1, h2, ?_⟩
 have hA := ha cpos pins s1 σ H1 _ I1 q1
 rw [hs] at hA ⊢
 refine Calls.callWith_builtin (by show (false || (backTo cpos (starEach es X.env)).any (·.1)) = false; rw [hplain] <;> rfl) (Calls.evalArgs_plain ?_)
 exact thn hA fun us s2 ⟨vs, H2, I2, r2, q2⟩ => hm pins s2 σ H2 x vs v us Q I2 r1 r2 q2
end
end L2
namespace L2
open PySem PySem.Spec PyProof.Rows
def MtM (X : Cx) (id : String) (r : V -> List V -> Hp -> VK -> Prop) : Prop :=
 ∀ (pins : List (Addr × Obj)) (s : Shared) (σ : St) (H : Hp) (x : V) (xs : List V) (v : Value) (us : List Value) (Q : VK), Inv X pins σ H s -> RelV x v -> Vals xs us -> r x xs H Q →
  wpAny (model X.prog X.w) X.A (call (.builtin id) (v :: us)) (EP X pins σ Q) X.xe s
theorem Vals.one : ∀ {x : V} {us : List Value}, Vals [x] us -> ∃ u, us = [u] /\ RelV x u
 | _, _, .cons r .nil => ⟨_, rfl, r⟩
theorem Vals.zero : ∀ {us : List Value}, Vals [] us -> us = []
 | _, .nil => rfl
theorem Vals.dropLast {xs : List V} {us : List Value} (h : Vals xs us) : Vals xs.dropLast us.dropLast := by
 induction h with
 | nil => exact .nil
 | cons r t ih =>
  cases t with
  | nil => exact .nil
  | cons q t' => exact .cons r ih
theorem su {α : Type} (l : List α) : l.eraseIdx (l.length - 1) = l.dropLast := by
 induction l with
 | nil => rfl
 | cons a r ih =>
  cases r with
  | nil => rfl
  | cons b r =>
   have e : (a :: b :: r).length - 1 = ((b :: r).length - 1) + 1 := by
    have h1 : (a :: b :: r).length = r.length + 2 := rfl
    have h2 : (b :: r).length = r.length + 1 := rfl
    omega
   rw [e, List.eraseIdx_cons_succ, ih]
   all_goals rfl
section
variable {X : Cx} {pins : List (Addr × Obj)} {σ : St} {H : Hp} {s : Shared} {l b : Addr} {xs ys zs : List V}
theorem Inv.lset {its its' : List Value} {n : Nat} {f : Array Value -> Array Value} {t' : Nat} (I : Inv X pins σ H s) (hH : H l = some (.lst xs))
  (e : s.heap.get? l = some { cls := .type "list", data := .seq its.toArray n }) (hf : f its.toArray = its'.toArray) (hv : Vals ys its') (hz : ys.length <= sizeLine) :
  Inv X pins σ (upd H l (.lst ys)) { s with heap := s.heap.update l (Obj.mapSeq f), toks := t' } := by
 have q := PySem.IsL.update e f
 rw [hf] at q
 refine I.write (x := l) (e := l) (by rw [hH]; exact trivial) (.inl rfl) (fun b' u hb hu => (Heap.get?_update_other s.heap (Obj.mapSeq f) (Ne.symm hb)).trans hu) ⟨_, q⟩ ?_
 exact ⟨hz, its', _, hv, q⟩
theorem Inv.lstM (I : Inv X pins σ H s) (hH : H l = some (.lst xs)) : xs.length <= sizeLine /\ ∃ (its : List Value) (n : Nat), Vals xs its /\ xs.length = its.length /\ s.heap.get? l = some { cls := .type "list", data := .seq its.toArray n } := by
 obtain ⟨z, its, n, r, e⟩ := I.hok l _ hH
 exact ⟨z, its, n, r, r.length, e⟩
theorem vg {n : Nat} (h : n <= sizeLine) : Builtin.List.listTooLong n = false := by
 unfold Builtin.List.listTooLong
 exact decide_eq_false (by omega)
end
section
variable {X : Cx}
def rB : V -> List V -> Hp -> VK -> Prop := fun x vs H Q => ∃ l xs y, x = .ref l /\ vs = [y] /\ H l = some (.lst xs) /\ xs.length < sizeLine /\ Q .non (upd H l (.lst (xs ++ [y])))
theorem jE : MtM X "list.append" rB := by
 intro pins s σ H x vs v us Q I rx rv h
 obtain ⟨l, xs, y, rfl, rfl, hH, hz, q⟩ := h
 cases rx
 obtain ⟨u, rfl, ru⟩ := rv.one
 obtain ⟨z, its, n, r, hl, e⟩ := I.lstM hH
 refine call_meets F.slot_list_append ⟨_, e, rfl⟩ F.entry_list_append (F.args_list_append_2 _ _) (PySem.list_append l its.toArray n u (by rw [List.size_toArray]; omega)) ⟨e, ?_⟩
 refine ⟨.non, _, I.lset (its' := its ++ [u]) hH e (by simp) (r.append (.cons ru .nil)) ?_, rfl, q⟩
 rw [List.length_append, List.length_singleton]
 omega
def yx : V -> List V -> Hp -> VK -> Prop := fun x vs H Q => ∃ l b xs zs, x = .ref l /\ vs = [.ref b] /\ H l = some (.lst xs) /\ H b = some (.lst zs) /\ xs.length + zs.length <= sizeLine /\ Q .non (upd H l (.lst (xs ++ zs)))
theorem uI : MtM X "list.extend" yx := by
 intro pins s σ H x vs v us Q I rx rv h
 obtain ⟨l, b, xs, zs, rfl, rfl, hH, hB, hz, q⟩ := h
 cases rx
 obtain ⟨u, rfl, ru⟩ := rv.one
 cases ru
 obtain ⟨z, its, n, r, hl, e⟩ := I.lstM hH
 obtain ⟨z2, its2, n2, r2, hl2, e2⟩ := I.lstM hB
 have hsz : its.toArray.size + its2.toArray.size <= sizeLine := by rw [List.size_toArray, List.size_toArray]; omega
 have hlong : ¬ (!its.toArray.isEmpty && Builtin.List.listTooLong (its.toArray.size + its2.toArray.size)) = true := by
  rw [vg hsz, Bool.and_false]
  exact Bool.false_ne_true
 refine call_meets F.slot_list_extend ⟨_, e, rfl⟩ F.entry_list_extend (F.args_list_extend_2 _ _)
  (AutoSeq1.list_extend_list_list_0 l its.toArray n b its2.toArray n2 hlong (by rw [List.size_toArray]; omega) (by omega)) ⟨e, e2, ?_⟩
 refine ⟨.non, _, I.lset (its' := its ++ its2) hH e (by simp) (r.append r2) ?_, rfl, q⟩
 rw [List.length_append]
 omega
def AN : V -> List V -> Hp -> VK -> Prop := fun x vs H Q => ∃ l xs y, x = .ref l /\ vs = [] /\ H l = some (.lst xs) /\ xs[xs.length - 1]? = some y /\ Q y (upd H l (.lst xs.dropLast))
theorem yZ : MtM X "list.pop" AN := by
 intro pins s σ H x vs v us Q I rx rv h
 obtain ⟨l, xs, y, rfl, rfl, hH, hy, q⟩ := h
 cases rx
 have hus := rv.zero
 subst hus
 obtain ⟨z, its, n, r, hl, e⟩ := I.lstM hH
 obtain ⟨u, hu, ru⟩ := r.get hy
 have hy' : its.toArray[its.toArray.size - 1]? = some u := by
  show its.toArray[its.length - 1]? = some u
  rw [<- Array.getElem?_toList, <- hl]
  exact hu
 refine call_meets F.slot_list_pop ⟨_, e, rfl⟩ F.entry_list_pop (F.args_list_pop_1 _) (MeetsSeq.list_pop_last l its.toArray n u hy' (by rw [List.size_toArray]; omega)) ⟨e, ?_⟩
 refine ⟨y, _, I.lset (its' := its.dropLast) hH e ?_ r.dropLast ?_, ru, q⟩
 ·show its.toArray.eraseIdxIfInBounds (its.toArray.size - 1) = its.dropLast.toArray
  rw [List.size_toArray, List.eraseIdxIfInBounds_toArray, su]
 ·rw [List.length_dropLast]
  omega
end
section
variable {prog : Program} {w : World} {A : Around} {E : Value -> Shared -> Prop} {s : Shared}
set_option maxRecDepth 100000 in
end
section
variable {X : Cx}
end
end L2
namespace Att
open PySem PySem.W PySem.Calls PyProof.Rows
theorem lN {P : Params} {h : Heap} : ∀ (ns : List Int) (vs : List Value), WellAll P h vs (ns.map WData.int) -> IntsAre vs ns := by
 intro ns
 induction ns with
 | nil =>
  intro vs w
  rw [List.map_nil] at w
  cases w
  exact .nil
 | cons n ns ih =>
  intro vs w
  rw [List.map_cons] at w
  cases w with
  | cons a b =>
   cases a
   exact .cons _ _ (ih _ b)
theorem uP {l : OpenLaw} {n : Nat} (hn : l.most = some n) {P : Params} {h : Heap} {args : List WData} {vals : List Value}
  (hpre : l.row.toRowW.claim.pre args = true) (hwl : WellAll P h vals args) :
  ∃ a vs ns, vals = [Value.ref a] /\ args = [WData.list (ns.map WData.int)] /\ h.get? a = some { cls := .type "list", data := .seq vs.toArray } /\ IntsAre vs ns /\ ns.length <= n := by
 have hsh : WShape.hasAll [] args [.list .int] = true := (pre_splitW hpre).1
 have hc : l.pre.holds [] { args := args } = true := (pre_splitW hpre).2
 obtain ⟨d, r, rfl, h1, h2⟩ := hasAllW_cons hsh
 obtain rfl := hasAllW_nil h2
 obtain ⟨xs, rfl, h3⟩ := hasW_list h1
 obtain ⟨ns, rfl⟩ := items_int h3
 have hlen : ns.length <= n := by
  unfold OpenLaw.pre at hc
  have h4 : (WTm.not (.lt (.lit (.int (n : Int))) (.len (.arg 0)))).holds [] { args := [.list (ns.map .int)] } = true := by
   have h4 := (holds_andW hc).1
   rw [hn] at h4
   exact h4
  have h5 := condW_of h4 (w_not (w_lt w_lit (w_len_list (w_arg rfl))))
  rw [List.length_map] at h5
  refine Nat.le_of_not_lt fun q => ?_
  have q' : (n : Int) < ((ns.length : Nat) : Int) := by omega
  first
   | (rw [decide_eq_true q'] at h5; exact absurd h5 (by decide))
   | (simp at h5; omega)
 cases hwl with
 | cons w1 w2 =>
  cases w2
  cases w1 with
  | list ho hall => exact ⟨_, _, ns, rfl, rfl, ho, lN ns _ hall, hlen⟩
theorem uK (l : OpenLaw) (args : List WData) : l.row.toRowW.claim.post args (.bool true) args = true :=
 postW_of (r := l.row.toRowW) (X := (true == true))
  (show WShape.has [] (.bool true) .bool = true by first | rfl | decide | simp [WShape.has, WShape.arms, WShape.armsAll])
  (show (WTm.eq .res (.lit (.bool true))).value [] { args := args, res := some (.bool true), after := args } = some (.bool (true == true)) from w_eq_bool (w_res rfl) w_lit) rfl
theorem qu {l : OpenLaw} {n : Nat} {q : Program} {loose : List Str} {XP : (Str -> Option Value) -> Heap -> Prop} {YP : World -> Heap -> Prop} {d : DefRec}
  (hn : l.most = some n) (hdf : d.params.defaults = [])
  (call : ∀ (w : World) (s₀ s₁ : Shared) (mg mb : Str -> Option Value) (fa : Addr) (o : Obj) (pm cd doc : Value) (a : Addr) (vs : List Value) (ns : List Int),
   Ground q loose [] XP w s₀ mg mb s₁.heap -> YP w s₁.heap →
   s₁.heap.get? fa = some o -> o.data = .func (docDef d.name d.params d.body d.scope pm cd doc) -> s₁.heap.CodeRec cd d.name -> mg d.name = some (.ref fa) →
   s₁.heap.get? a = some { cls := .type "list", data := .seq vs.toArray } -> IntsAre vs ns -> ns.length <= n -> s₁.gens = #[] →
   codeAny (model l.prog w) callerA (.call (.ref fa) ⟨[.ref a], []⟩) (fun r s' => r = .ok (.ret (.bool true)) /\ OldK s₁.heap s'.heap /\ s'.os = s₁.os /\ AllBare s'.gens) s₁) :
  WalkO q loose XP YP l.row.toRowW d [] (fun f vs => PySem.call f vs) := by
 intro w s₀ s₁ mg mb G Y fa o pm cd doc dV kV ho hd hcd hD hmg hg args vals as hpre hlay hrd hwl hlo
 obtain rfl : dV = .none := Dflts.none hD hdf
 obtain rfl : kV = .none := Dflts.noKw hD
 obtain ⟨a, vs, ns, rfl, rfl, hobj, hints, hlen⟩ := uP hn hpre hwl
 refine enter_call (codeAny_mono (call w s₀ s₁ mg mb fa o pm cd doc a vs ns G Y ho (fd_plain hd) hcd hmg hobj hints hlen hg) fun r s' hq => ?_)
 obtain ⟨rfl, h2, h3, h4⟩ := hq
 exact ⟨.inl ⟨.bool true, .bool true, [], rfl, fun _ => rfl, .bool true, uK l _, fun _ => ⟨List.Pairwise.nil, fun _ hm => (nomatch hm)⟩⟩, h2, h3, h4⟩
section
variable {prog : Program} {w : World} {A : Around} {E : Value -> Shared -> Prop} {s : Shared} {K : Frag}
def ledger (h : Heap) (L d : Addr) : List (Addr × Obj) := (List.range h.objs.size).filterMap fun a => if a = L ∨ a = d then none else (h.get? a).map fun o => (a, o)
end
end Att
namespace L2
open PySem PySem.Spec PyProof.Rows
theorem fG : ∀ {vs : List Value} {ns : List Int}, IntsAre vs ns -> Vals (ns.map V.int) vs
 | _, _, .nil => .nil
 | _, _, .cons n t h => .cons ⟨t, rfl⟩ (fG h)
def wy (H : Hp) : Prop := ∀ b, H b = none ∨ ∃ o xs, H b = some (.frz o (.lst xs))
theorem vT {P : Program} {w : World} {K : PySem.W.Frag} {mg mb : Str -> Option Value} {CX : CXT} {k : Nat} {fa a : Addr} {fd : FuncData} {x : Str} {sp : Sp} {s₁ : Shared} {vs : List Value} {ns : List Int}
  (KX : K.In s₁.heap) (hns : s₁.heap.Ns mainGlobals mg) (hb : s₁.heap.Ns builtinsNs mb) (hbb : ∀ x : Str, x ≠ "__name__" -> mb x = bootBuiltins x) (hlim : s₁.heap.NoLimit) (hg : s₁.gens = #[])
  (ha : s₁.heap.get? a = some { cls := .type "list", data := .seq vs.toArray }) (hi : IntsAre vs ns) (hl : ns.length <= sizeLine) (hr : bI k callerA)
  (F : ∀ base : Heap, K.In base -> base.Ns mainGlobals mg -> aI P w K mg base CX k fa fd [x] sp) (hbind : ∀ (s : Shared) (u : Value), BindsTo s fd ⟨[u], []⟩ [(x, u)])
  (hsp : ∀ H : Hp, wy H -> SqL K H a (ns.map V.int) -> sp [.ref a] H (fun v _ => v = .bl true) fun _ _ _ => False)
  (hCX : ∀ H e s', CX [] H s₁ (fun _ _ _ => False) e s' -> False) :
  codeAny (model P w) callerA (.call (.ref fa) ⟨[.ref a], []⟩) (fun r s' => r = .ok (.ret (.bool true)) /\ OldK s₁.heap s'.heap /\ s'.os = s₁.os /\ AllBare s'.gens) s₁ := by
 have rv := fG hi
 have lenV := hi.length
 have core : ∀ H : Hp, wy H -> SqL K H a (ns.map V.int) -> HOk P w H s₁.heap -> (∀ b, H b ≠ none -> b = a) -> (H a ≠ none -> K.lookup a = none) →
   codeAny (model P w) callerA (.call (.ref fa) ⟨[.ref a], []⟩) (fun r s' => r = .ok (.ret (.bool true)) /\ OldK s₁.heap s'.heap /\ s'.os = s₁.os /\ AllBare s'.gens) s₁ := by
  intro H hO hS hok hA hK
  have base_of : ∀ {b : Addr} {o : Obj}, s₁.heap.get? b = some o -> H b = none -> (jw s₁.heap H).get? b = some o := fun e n => vX e n
  have noA : ∀ {b : Addr} {o : Obj} {es : Array DictEntry} {ep : Nat}, s₁.heap.get? b = some o -> o.data = .dict es ep -> H b = none := fun {b o es ep} e d => by
   cases q : H b with
   | none => rfl
   | some u =>
    have e' : b = a := hA b (by rw [q]; simp)
    subst e'
    rw [ha] at e; cases e
    have d' : Data.seq vs.toArray _ = Data.dict es ep := d
    cases d'
  have nsK : ∀ {b : Addr} {m : Str -> Option Value}, s₁.heap.Ns b m -> (jw s₁.heap H).Ns b m := fun {b m} ⟨o, es, ep, e, d, r⟩ => ⟨o, es, ep, base_of e (noA e d), d, r⟩
  have hKb : K.In (jw s₁.heap H) := fun b o e => base_of (KX b o e) (by
   cases q : H b with
   | none => rfl
   | some u =>
    have e' : b = a := hA b (by rw [q]; simp)
    subst e'
    rw [hK (by rw [q]; simp)] at e; cases e)
  have hM : Mod K mg (jw s₁.heap H) := ⟨hKb, nsK hns, ⟨mb, nsK hb, hbb⟩, let ⟨mc, h1, h2⟩ := hlim; ⟨mc, nsK h1, h2⟩⟩
  have e0 : tK P w K mg (jw s₁.heap H) callerA [] s₁ H := ⟨rfl, hM, fun b o e => xT e, Nat.le_of_eq (uc _ _), trivial, fun b hb => absurd (show b ∈ ([] : List Addr) from hb) (by simp), hok, .of_eq hg⟩
  refine codeAny_mono ((F _ hKb (nsK hns)).run callerA [] s₁ H ⟨[.ref a], []⟩ [.ref a] [.ref a] _ _ hr e0 (hbind s₁ (.ref a)) (.cons rfl .nil) (hsp H hO hS)) fun r s' h => ?_
  cases r with
  | error e => exact (hCX H e s' h).elim
  | ok fl =>
   cases fl with
   | next => exact False.elim h
   | brk => exact False.elim h
   | cont => exact False.elim h
   | ret u =>
    obtain ⟨v, H', os, bare, un, hok', r', q⟩ := h
    have q' : v = .bl true := q
    subst q'
    obtain rfl : u = Value.bool true := r'
    refine ⟨rfl, OldK.of_keep fun b o e => ?_, os, bare⟩
    cases q : H b with
    | none => exact un.keep b o e q (by intro z; exact absurd (show b ∈ ([] : List Addr) from z) (by simp)) (by simp)
    | some u =>
     rcases hO b with z | ⟨ob, xs, z⟩
     ·rw [q] at z; cases z
     ·have z2 := un.frzs b ob _ z
      obtain ⟨e1, _⟩ := hok b _ z
      obtain ⟨e2, _⟩ := hok' b _ z2
      rw [e] at e1; cases e1
      exact e2
 cases hk : K.lookup a with
 | some o =>
  have e := KX a o hk
  rw [ha] at e
  cases e
  refine core (fun _ => none) (fun _ => .inl rfl) (.inr ⟨_, vs.toArray, _, hk, rfl, rfl, rfl, by rw [List.size_toArray, lenV]; exact hl, by simpa using rv⟩) (fun b u z => by have z' : (none : Option HO) = some u := z; cases z') (fun b z => absurd rfl z) fun z => absurd rfl z
 | none =>
  refine core (fun b => if b = a then some (.frz { cls := .type "list", data := .seq vs.toArray } (.lst (ns.map V.int))) else none) (fun b => ?_) (.inl (.inr ⟨{ cls := .type "list", data := .seq vs.toArray }, if_pos rfl⟩)) (fun b u z => ?_) (fun b z => ?_) fun _ => hk
  ·by_cases hb : b = a
   ·exact .inr ⟨_, _, if_pos hb⟩
   ·exact .inl (if_neg hb)
  ·by_cases hb : b = a
   ·have z' := (if_pos hb).symm.trans z
    cases z'
    subst hb
    exact ⟨ha, by rw [List.length_map]; exact hl, vs, _, rv, ha⟩
   ·have z' := (if_neg hb).symm.trans z
    cases z'
  ·by_cases hb : b = a
   ·exact hb
   ·exact absurd (if_neg hb) z
end L2
namespace L2
open PySem PySem.Spec PyProof.Rows
theorem yE {l : PySem.W.OpenLaw} {n k : Nat} {q : Program} {loose : List Str} {XP : (Str -> Option Value) -> Heap -> Prop} {YP : World -> Heap -> Prop} {d : DefRec} {K : Params -> PySem.W.Frag} {CX : World -> CXT} {sp : World -> Sp} {x : Str}
  (hn : l.most = some n) (hn2 : n <= sizeLine) (hdf : d.params.defaults = []) (hr : bI k callerA)
  (hY : ∀ (w : World) (h : Heap), YP w h -> (K w.params).In h)
  (F : ∀ (w : World) (mg : Str -> Option Value) (fa : Addr) (h : Heap), (K w.params).In h -> h.Ns mainGlobals mg -> mg d.name = some (.ref fa) →
   ∃ fd : FuncData, (∀ (s : Shared) (u : Value), BindsTo s fd ⟨[u], []⟩ [(x, u)]) ∧
    ∀ base : Heap, (K w.params).In base -> base.Ns mainGlobals mg -> aI l.prog w (K w.params) mg base (CX w) k fa fd [x] (sp w))
  (hsp : ∀ (w : World) (H : Hp) (a : Addr) (ns : List Int), ns.length <= n -> wy H -> SqL (K w.params) H a (ns.map V.int) -> sp w [.ref a] H (fun v _ => v = .bl true) fun _ _ _ => False)
  (hCX : ∀ (w : World) (H : Hp) (s : Shared) (e : Value) (s' : Shared), CX w [] H s (fun _ _ _ => False) e s' -> False) :
  PySem.W.WalkO q loose XP YP l.row.toRowW d [] (fun f vs => PySem.call f vs) := by
 refine Att.qu hn hdf fun w s₀ s₁ mg mb fa o pm cd doc a vs ns G Y ho hd hcd hmg hobj hints hlen hg => ?_
 have KX := hY w _ Y
 obtain ⟨fd, hb, hF⟩ := F w mg fa _ KX G.T.g hmg
 exact vT KX G.T.g G.T.b G.T.builtins G.T.nolimit hg hobj hints (Nat.le_trans hlen hn2) hr hF hb (fun H hO hS => hsp w H a ns hlen hO hS) fun H e s' => hCX w H s₁ e s'
end L2
namespace L2
open PySem PySem.Spec PyProof.Rows
def c7 (s : Stmt) : Arguments := match s with
 | .FunctionDef _ a _ _ _ _ _ _ _ _ => a
 | _ => { posonlyargs := [], args := [], vararg := none, kwonlyargs := [], kw_defaults := [], kwarg := none, defaults := [] }
def bK (s : Stmt) : List Stmt := match s with
 | .FunctionDef _ _ b _ _ _ _ _ _ _ => b
 | _ => []
def ao (s : Stmt) : Scope := match s with
 | .FunctionDef _ _ _ _ _ _ sc _ _ _ => sc
 | _ => { kind := .function, names := [], isGenerator := false, isCoroutine := false }
abbrev E0 : XK := fun _ _ _ => False
structure Fun (K : PySem.W.Frag) (x qual : Str) (st : Stmt) (f : Addr) (fd : FuncData) : Prop where
 ex : ∃ (oc : Value) (od : Option Addr) (kV doc pm : Value) (an : Option Addr) (cdv ct : Value) (osl : Array (Option Value)),
  fd = PySem.W.fnOf x qual (c7 st) (bK st) (ao st) .none kV doc pm an cdv ct /\ K.lookup f = some ⟨oc, od, .func fd, osl⟩ /\ PySem.W.codeIn K cdv qual = true
 kp : PySem.W.keepIn K (.ref f) = true
section
variable {P : Program} {w : World} {K : PySem.W.Frag} {mg : Str -> Option Value} {base : Heap}
end
section
variable {X : Cx}
theorem pv (i : Nat) {x : Str} {pos : Pos} (hN : X.N[i]? = some x := by rfl) (hv : Vis X.env.scope x := by first | exact Or.inl rfl | exact Or.inr (Or.inl rfl) | exact Or.inr (Or.inr rfl)) (hd : (x == ("__debug__" : Str)) = false := by decide)
  (hcd : (x == ("__classdict__" : Str)) = false := by decide) : PE X (.Name x pos) (sr i) := gH hN hv hd hcd
end
def ar (H H' : Hp) : Prop := ∀ b o, H b = some o -> H' b = some o
theorem ar.refl (H : Hp) : ar H H := fun _ _ h => h
theorem ar.trans {H H1 H2 : Hp} (a : ar H H1) (b : ar H1 H2) : ar H H2 := fun c o h => b c o (a c o h)
theorem ar.free {H H' : Hp} (e : ar H H') {l : Addr} (h : H' l = Option.none) : H l = Option.none := by
 cases q : H l with
 | none => rfl
 | some o =>
  rw [e l o q] at h
  cases h
theorem ar.seq {K : PySem.W.Frag} {H H' : Hp} {a : Addr} {xs : List V} (e : ar H H') (h : SqL K H a xs) : SqL K H' a xs := by
 rcases h with (h | ⟨o, h⟩) | h
 ·exact .inl (.inl (e _ _ h))
 ·exact .inl (.inr ⟨o, e _ _ h⟩)
 ·exact .inr h
end L2
set_option maxHeartbeats 4000000
namespace L2
open PySem PySem.Spec PyProof.Rows
section
variable {κ : Type} [DecidableEq κ]
end
section
variable {P : Program} {w : World} {H : Hp} {h : Heap} {a : Addr}
end
section
variable {X : Cx} {pins : List (Addr × Obj)} {σ : St} {H : Hp} {s : Shared} {a : Addr} {y v : V} {u r : Value} {o : Option V} {A : Around} {E : Value -> Shared -> Prop}
end
section
variable {X : Cx} {pins : List (Addr × Obj)} {σ : St} {H : Hp} {s : Shared} {a : Addr} {kvs : List (Key × V)} {k : Key} {u : Value} {A : Around} {E : Value -> Shared -> Prop}
end
section
variable {X : Cx} {o i e value : Expr} {pos pos' tpos : Pos} {td ty tv : TE}
end
section
variable {X : Cx} {pos : Pos}
end
abbrev VV : List (V × V) -> List (Value × Value) -> Prop := Paired fun p q => RelV p.1 q.1 /\ RelV p.2 q.2
structure M1 (X : Cx) (o : Expr) (m : Str) (apos : Pos) (e : Expr) (cpos : Pos) : Prop where
 base : attributeBase o m X.env (eval o X.env) = eval o X.env
 few : ((backTo cpos (starEach [e] X.env)).all (fun x => !x.1) && (backToKw cpos (keywordEach [] X.env)).all (fun x => x.1.isSome)
  && decide (([e] : List Expr).length + ([] : List Keyword).length + (if ([] : List Keyword).isEmpty then 0 else 1) < 30)) = true
 line : (apos.endLine == cpos.line) = true
 trees : backTo cpos (starEach [e] X.env) = [(false, eval e X.env)]
structure M2 (X : Cx) (o : Expr) (m : Str) (apos : Pos) (e f : Expr) (cpos : Pos) : Prop where
 base : attributeBase o m X.env (eval o X.env) = eval o X.env
 few : ((backTo cpos (starEach [e, f] X.env)).all (fun x => !x.1) && (backToKw cpos (keywordEach [] X.env)).all (fun x => x.1.isSome)
  && decide (([e, f] : List Expr).length + ([] : List Keyword).length + (if ([] : List Keyword).isEmpty then 0 else 1) < 30)) = true
 line : (apos.endLine == cpos.line) = true
 trees : backTo cpos (starEach [e, f] X.env) = [(false, eval e X.env), (false, eval f X.env)]
section
variable {X : Cx} {pins : List (Addr × Obj)} {σ : St} {H : Hp} {s : Shared} {a : Addr} {y d : V} {u r : Value} {o : Option V} {A : Around} {E : Value -> Shared -> Prop}
end
section
variable {X : Cx} {o e f : Expr} {apos cpos : Pos} {td ty tx : TE}
end
section
variable {X : Cx} {pins : List (Addr × Obj)} {σ : St} {H : Hp} {s : Shared} {a : Addr} {kvs : List (Key × V)} {A : Around} {E : Value -> Shared -> Prop}
end
section
variable {X : Cx} {pins : List (Addr × Obj)} {σ : St} {H : Hp} {s : Shared} {a : Addr} {y : V} {u : Value} {A : Around} {E : Value -> Shared -> Prop}
end
end L2
namespace PM
theorem pB (a b : Int) : Int.gcd b (a.fmod b) = Int.gcd a b := by
 have h := Int.fmod_add_mul_fdiv a b
 have h' : a = a.fmod b + a.fdiv b * b := by rw [Int.mul_comm]; exact h.symm
 rw [Int.gcd_comm a b]
 conv => rhs; rw [h']
 rw [Int.gcd_add_mul_right_right]
theorem nG (a : Int) {b : Int} (hb : b ≠ 0) : (a.fmod b).natAbs < b.natAbs := by
 by_cases h : 0 < b
 ·have h1 := Int.fmod_lt_of_pos a h
  have h2 := Int.fmod_nonneg_of_pos a h
  omega
 ·have h1 : b < 0 := by omega
  have e : a.fmod b = -((-a).fmod (-b)) := by
   have := Int.neg_fmod_neg (a := a) (b := b)
   omega
  have h2 := Int.fmod_lt_of_pos (-a) (b := -b) (by omega)
  have h3 := Int.fmod_nonneg_of_pos (-a) (b := -b) (by omega)
  omega
def g3 (x y z : Int) : Nat := Int.gcd (Int.gcd x y : Int) z
theorem ql (x y z : Int) : (g3 x y z : Int) ∣ x := Int.dvd_trans (Int.gcd_dvd_left _ _) (Int.gcd_dvd_left _ _)
theorem rS (x y z : Int) : (g3 x y z : Int) ∣ y := Int.dvd_trans (Int.gcd_dvd_left _ _) (Int.gcd_dvd_right _ _)
theorem sP (x y z : Int) : (g3 x y z : Int) ∣ z := Int.gcd_dvd_right _ _
theorem zA {x y z d : Int} (h1 : d ∣ x) (h2 : d ∣ y) (h3 : d ∣ z) : d ∣ (g3 x y z : Int) := Int.dvd_coe_gcd (Int.dvd_coe_gcd h1 h2) h3
theorem yG {x y z : Int} : g3 x y z = 0 ↔ x = 0 /\ y = 0 /\ z = 0 := by
 unfold g3
 rw [Int.gcd_eq_zero_iff]
 constructor
 ·rintro ⟨h, h3⟩
  have h' : Int.gcd x y = 0 := by omega
  obtain ⟨h1, h2⟩ := Int.gcd_eq_zero_iff.mp h'
  exact ⟨h1, h2, h3⟩
 ·rintro ⟨h1, h2, h3⟩
  subst h1 h2 h3
  simp
def dv3 (x y z l : Int) : Int := if l < 0 then -(g3 x y z : Int) else (g3 x y z : Int)
theorem fH {x y z l : Int} (h : ¬ (x = 0 /\ y = 0 /\ z = 0)) : dv3 x y z l ≠ 0 := by
 have : g3 x y z ≠ 0 := fun e => h (yG.mp e)
 unfold dv3
 split <;> omega
theorem yz (x y z l : Int) : (dv3 x y z l).natAbs = g3 x y z := by
 unfold dv3
 split <;> omega
theorem iU {x y z l t : Int} (h : (g3 x y z : Int) ∣ t) : dv3 x y z l ∣ t := by
 unfold dv3
 split
 ·exact Int.neg_dvd.mpr h
 ·exact h
theorem gw {x y z l t : Int} (h : (g3 x y z : Int) ∣ t) : t.fdiv (dv3 x y z l) * dv3 x y z l = t := by
 have h' := iU (l := l) h
 rw [Int.fdiv_eq_ediv_of_dvd h']
 exact Int.ediv_mul_cancel h'
theorem zS {x y z l : Int} (h : ¬ (x = 0 /\ y = 0 /\ z = 0)) : g3 (x.fdiv (dv3 x y z l)) (y.fdiv (dv3 x y z l)) (z.fdiv (dv3 x y z l)) = 1 := by
 have e1 := gw (l := l) (ql x y z)
 have e2 := gw (l := l) (rS x y z)
 have e3 := gw (l := l) (sP x y z)
 have hn := fH (l := l) h
 have habs := yz x y z l
 generalize x.fdiv (dv3 x y z l) = a at e1 ⊢
 generalize y.fdiv (dv3 x y z l) = b at e2 ⊢
 generalize z.fdiv (dv3 x y z l) = c at e3 ⊢
 generalize dv3 x y z l = g at *
 have hd : (g3 a b c : Int) * g ∣ (g3 x y z : Int) := by
  refine zA ?_ ?_ ?_
  ·rw [<- e1]; exact Int.mul_dvd_mul (ql a b c) (Int.dvd_refl _)
  ·rw [<- e2]; exact Int.mul_dvd_mul (rS a b c) (Int.dvd_refl _)
  ·rw [<- e3]; exact Int.mul_dvd_mul (sP a b c) (Int.dvd_refl _)
 have hd2 : g3 a b c * g.natAbs ∣ g.natAbs := by
  rw [habs]
  have := Int.natAbs_dvd_natAbs.mpr hd
  rw [Int.natAbs_mul] at this
  simpa [habs] using this
 have hp : 0 < g.natAbs := by omega
 have := Nat.le_of_dvd hp hd2
 have h0 : g3 a b c ≠ 0 := by
  intro e
  rw [e] at hd2
  simp at hd2
  omega
 rcases Nat.lt_or_ge (g3 a b c) 2 with h2 | h2
 ·omega
 ·have : 2 * g.natAbs <= g3 a b c * g.natAbs := Nat.mul_le_mul_right _ h2
  omega
theorem nI (a : Int) : Int.gcd a 0 = a.natAbs := by simp
end PM
namespace PX
open PySem PySem.W PySem.Spec PySem.Calls PyProof.Rows PySem.Builtin.ObjectAttr PySem.Builtin.Getset_descriptor
def ExcAt (e c : Addr) (h : Heap) : Prop := ∃ o vs, h.get? e = some o /\ o.cls = .ref c /\ o.data = .fields vs
theorem ExcAt.ty {M : Model} {e c : Addr} {h : Heap} (p : ExcAt e c h) : Looks M h (typeOf (.ref e)) (.ref c) := by
 obtain ⟨o, vs, h1, h2, _⟩ := p
 exact h2 ▸ (Looks.ld h1).andThen .now
def wk (K : Frag) (c : Addr) : Bool :=
 (clsIn K c).isSome && findIn K (.ref c) "__getattribute__" == some (some (.builtin "BaseException.__getattribute__"))
 && findIn K (.ref c) "__getattr__" == some none && findIn K (.ref c) "__class__" == some (some (.builtin "object.__class__"))
 && specialIn K (.builtin "object.__class__") "__get__" == some (some (.builtin "getset_descriptor.__get__"))
 && takesIn K (.builtin "object.__class__") == some true
 && mroIn K c (.type "object") == some true && mroIn K c (.type "BaseException") == some true
 && kitOne K (.ref c) (.type "int") == some false && kitOne K (.ref c) (.type "bool") == some false && kitOne K (.ref c) (.type "tuple") == some false
 && kitOne K (.ref c) (.type "list") == some false && kitOne K (.ref c) (.type "str") == some false
structure eQ (K : Frag) (c : Addr) : Prop where
 cls : (clsIn K c).isSome = true
 ga : findIn K (.ref c) "__getattribute__" = some (some (.builtin "BaseException.__getattribute__"))
 hook : findIn K (.ref c) "__getattr__" = some none
 at_ : findIn K (.ref c) "__class__" = some (some (.builtin "object.__class__"))
 get : specialIn K (.builtin "object.__class__") "__get__" = some (some (.builtin "getset_descriptor.__get__"))
 takes : takesIn K (.builtin "object.__class__") = some true
 obj : mroIn K c (.type "object") = some true
 exc : mroIn K c (.type "BaseException") = some true
 not : ∀ T, (T = "int" ∨ T = "bool" ∨ T = "tuple" ∨ T = "list" ∨ T = "str") -> kitOne K (.ref c) (.type T) = some false
theorem eQ.of {K : Frag} {c : Addr} (h : wk K c = true) : eQ K c := by
 unfold wk at h
 simp only [Bool.and_eq_true, beq_iff_eq] at h
 obtain ⟨⟨⟨⟨⟨⟨⟨⟨⟨⟨⟨⟨h1, h2⟩, h3⟩, h4⟩, h5⟩, h6⟩, h7⟩, h8⟩, h9⟩, h10⟩, h11⟩, h12⟩, h13⟩ := h
 exact ⟨h1, h2, h3, h4, h5, h6, h7, h8, fun T hT => by rcases hT with e | e | e | e | e <;> subst e <;> assumption⟩
section
variable {prog : Program} {w : World} {A : Around} {E : Value -> Shared -> Prop} {s : Shared} {K : Frag} {e c : Addr}
theorem Am {R : Result -> Shared -> Prop} {tp : Value} (X : K.In s.heap) (p : ExcAt e c s.heap) (hm : mroIn K c (.type "object") = some true) (hq : R (.ok (.ret (.ref c))) s) :
  codeAny (model prog w) A (.call (.builtin "getset_descriptor.__get__") ⟨[.builtin "object.__class__", .ref e, tp], []⟩) R s := by
 obtain ⟨h, g, dr, t, os⟩ := s
 have La := p.ty (M := model prog w)
 have Lb := looks_mroIn (M := model prog w) X hm
 refine codeAny_call_builtin (KF.slot_gs.plain) KF.entry_gs (KF.slot_gs.check _ _ _ _ _ _ _ _ KF.type_class (KF.args_gs _ _ _) ?_)
 unfold Builtin.«getset_descriptor.__get__» descrGet
 rw [dga_obj]
 refine wpAny_bind (wpAny_pure ?_)
 unfold descrGetter descrCheckInstance descrNameAndClass isInstance
 simp only [KF.owner_class]
 repeat lk
 refine ⟨Code.quiet_builtin _ (by decide +kernel), codeAny_builtin KF.entry_class ?_⟩
 unfold Builtin.«object.__class__» shownTypeOf
 repeat lk
 exact hq
theorem y9 {M : Model} {h : Heap} (k : eQ K c) (X : K.In h) : Looks M h (find (.ref e) (.ref c) "__class__") (.bind (.builtin "getset_descriptor.__get__") (.builtin "object.__class__")) := by
 have La := looks_findIn (M := M) X k.at_
 have Lb : Looks M h (getOf (some (.builtin "object.__class__"))) (some (.builtin "getset_descriptor.__get__")) := looks_specialIn X k.get
 have Lc := looks_takesIn (M := M) X k.takes
 refine La.andThen (Lb.andThen ?_)
 exact (show Looks M h (dataDescriptor? (some (.builtin "object.__class__")) (some (.builtin "getset_descriptor.__get__"))) (some (.builtin "getset_descriptor.__get__", .builtin "object.__class__")) from Lc.andThen .now).andThen (Looks.tag .now)
theorem yJ {tk : Tok} {Q : Fin -> Shared -> Prop} (k : eQ K c) (X : K.In s.heap) (p : ExcAt e c s.heap) (hq : Q (.done (.ret (.ref c))) s) :
  wpAny (model prog w) A (Builtin.«object.__getattribute__» ⟨[.ref e, .str "__class__" tk], []⟩) Q E s := by
 obtain ⟨h, g, dr, t, os⟩ := s
 have La := p.ty (M := model prog w)
 have Lb := y9 (M := model prog w) (e := e) k X
 refine wpAny_bind (wpAny_pure ?_)
 refine wpAny_bind (wpAny_pure ?_)
 refine wpAny_bind (La.at (wpAny_bind (Lb.at ?_)))
 show wpAny _ _ (bindTo _ _ _ _) _ _ _
 unfold bindTo
 repeat (first | with_reducible refine wpAny_bind ?_ | with_reducible refine wpAny_holding ?_)
 refine wpAny_call (Am X p k.obj ?_)
 exact wpAny_pure hq
theorem xw {M : Model} {nv : Value} {Q : Unit -> Shared -> Prop} (k : eQ K c) (X : K.In s.heap) (p : ExcAt e c s.heap) (hq : Q () s) :
  wpAny M A (checkBuiltinCall "BaseException.__getattribute__" ⟨[.ref e, nv], []⟩) Q E s := by
 obtain ⟨h, g, dr, t, os⟩ := s
 have hk : builtinKind "BaseException.__getattribute__" = some .slot := by decide +kernel
 have hsp : splitId "BaseException.__getattribute__" = some ("BaseException", "__getattribute__") := by decide +kernel
 have ha := F.args_bexc_ga (.ref e) nv
 have La := p.ty (M := M)
 have Lb := looks_mroIn (M := M) X k.exc
 have Li : Looks M h (isInstance (.ref e) (.type "BaseException")) true := La.andThen Lb
 simp only [checkBuiltinCall, hk, hsp]
 refine wpAny_bind (Li.at ?_)
 repeat (first | wp_step)
 exact hq
theorem x_call {tk : Tok} {R : Result -> Shared -> Prop} (k : eQ K c) (X : K.In s.heap) (p : ExcAt e c s.heap) (hq : R (.ok (.ret (.ref c))) s) :
  codeAny (model prog w) A (.call (.builtin "BaseException.__getattribute__") ⟨[.ref e, .str "__class__" tk], []⟩) R s :=
 codeAny_call_builtin F.excAttr_ValueError.ga.plain F.entry_bexc_ga (xw k X p (yJ k X p hq))
theorem zY {Q : Option Value -> Shared -> Prop} (k : eQ K c) (X : K.In s.heap) (p : ExcAt e c s.heap) (hq : Q (some (.ref c)) { s with toks := s.toks + 1 }) :
  wpAny (model prog w) A (getAttr? (.ref e) "__class__") Q E s := by
 obtain ⟨h, g, dr, t, os⟩ := s
 have La := p.ty (M := model prog w)
 have Lb := looks_findIn (M := model prog w) X k.ga
 have Lc := looks_findIn (M := model prog w) X k.hook
 have f3 := F.excAttr_ValueError.ga.bind (.ref e)
 unfold getAttr? getAttrBy? getAttrBy
 refine wpAny_bind (wpAny_mkText (wpAny_bind (wpAny_attempt (wpAny_holding (wpAny_bind (La.at (wpAny_bind (Lb.at ?_))))))))
 have hne : (Value.builtin "BaseException.__getattribute__" == Value.builtin "object.__getattribute__") = false := by decide +kernel
 simp only [onTheHeap, Bool.true_and, hne, Bool.false_eq_true, if_false]
 unfold getAttrByItsOwn hookBefore
 simp only [onTheHeap, if_true]
 refine wpAny_bind (Lc.at ?_)
 refine wpAny_bind (wpAny_attempt (wpAny_holding ?_))
 unfold callGetattribute boundAndCalled
 simp only [Bool.false_and, Bool.false_eq_true, if_false]
 refine wpAny_bind (wpAny_of_eq f3 ?_)
 refine wpAny_call (x_call k X p ?_)
 refine wpAny_pure (a := Value.ref c) ?_
 exact wpAny_pure hq
theorem vA (k : eQ K c) : KitX K (.ref e) (.ref c) (ExcAt e c) where
 ty := fun _ _ _ p => p.ty
 it := fun _ _ X _ => by
  have h := k.cls
  unfold clsIn at h
  split at h
  ·rename_i c' d' cd' sl' ho
   intro A' Q' E' s' kk q
   unfold isType loadHead
   exact wpAny_bind (wpAny_loadPart (kk _ _ (X _ _ ho)) (wpAny_pure q))
  ·cases h
 ne := fun h tp dd its n sl X htp => by
  have h := k.cls
  refine Bool.eq_false_iff.mpr fun q => ?_
  have z : c = tp := Value.ref.inj (beq_iff_eq.mp q)
  subst z
  unfold clsIn at h
  split at h
  ·rename_i c' d' cd' sl' ho
   cases (X _ _ ho).symm.trans htp
  ·cases h
 ca := fun X p kk => zY k X p kk
end
end PX
namespace PD
open PySem PySem.Spec PyProof.Rows L2 PX
abbrev St := L2.St
def NT : HO -> Prop
 | .tbl _ => False
 | _ => True
def AR : Str := "lightest.<locals>.<lambda>"
def Ab (c : Addr) : Heap -> Prop := fun h => h.CodeRec (.ref c) AR
def dj (H : Hp) : Prop := ∀ P ps, H P = some (.tbl ps) -> TriplesOk ps.toList /\ ∀ pos cv, codeAmong pos ps.toList = some cv -> ∃ c, cv = .ref c /\ H c = some (.ext (Ab c))
def tabOf (K : PySem.W.Frag) : Option Addr :=
 match PySem.W.nsIn K mainGlobals "lightest" with
 | some (some (.ref f)) => (match K.lookup f with
  | some ⟨_, _, .func fd, _⟩ => (match fd.code with
   | .ref c => (match K.lookup c with
    | some ⟨_, _, .fields vs, _⟩ => (match (vs[11]? : Option Value) with
     | some (.ref P) => if (K.lookup P).isNone = true then some P else none
     | _ => none)
    | _ => none)
   | _ => none)
  | _ => none)
 | _ => none
structure ar (H H' : Hp) : Prop where
 kp : ∀ b o, H b = some o -> NT o -> H' b = some o
 tb : ∀ b ps, H b = some (.tbl ps) -> ∃ more, H' b = some (.tbl (ps ++ more))
 ok : dj H -> dj H'
theorem ar.app {H H' : Hp} (e : ar H H') (b : Addr) (o : HO) (h : H b = some o) (nt : NT o := by first | exact True.intro | assumption) : H' b = some o := e.kp b o h nt
instance {H H' : Hp} : CoeFun (ar H H') (fun _ => ∀ (b : Addr) (o : HO), H b = some o -> (nt : NT o := by first | exact True.intro | assumption) -> H' b = some o) := ⟨@ar.app H H'⟩
theorem ar.refl (H : Hp) : ar H H := ⟨fun _ _ h _ => h, fun _ ps h => ⟨#[], by rw [h]; simp⟩, id⟩
theorem ar.trans {H H1 H2 : Hp} (a : ar H H1) (b : ar H1 H2) : ar H H2 := ⟨fun c o h n => b.kp c o (a.kp c o h n) n, fun c ps h => by
 obtain ⟨m1, e1⟩ := a.tb c ps h
 obtain ⟨m2, e2⟩ := b.tb c _ e1
 exact ⟨m1 ++ m2, by rw [e2, Array.append_assoc]⟩, fun h => b.ok (a.ok h)⟩
theorem ar.ex {H H' : Hp} (e : ar H H') {b : Addr} {o : HO} (h : H b = some o) : ∃ o', H' b = some o' := by
 by_cases n : NT o
 ·exact ⟨o, e.kp b o h n⟩
 ·cases o with
  | tbl ps =>
   obtain ⟨m, q⟩ := e.tb b ps h
   exact ⟨_, q⟩
  | _ => exact absurd True.intro n
theorem ar.free {H H' : Hp} (e : ar H H') {l : Addr} (h : H' l = Option.none) : H l = Option.none := by
 cases q : H l with
 | none => rfl
 | some o =>
  obtain ⟨o', z⟩ := e.ex q
  rw [h] at z; cases z
theorem ar.seq {K : PySem.W.Frag} {H H' : Hp} {a : Addr} {xs : List V} (e : ar H H') (h : SqL K H a xs) : SqL K H' a xs := by
 rcases h with (h | ⟨o, h⟩) | h
 ·exact .inl (.inl (e _ _ h))
 ·exact .inl (.inr ⟨o, e _ _ h⟩)
 ·exact .inr h
theorem dj.upd {H : Hp} {p : Addr} {o : HO} (n : NT o) (hp : H p = none ∨ ∃ u, H p = some u /\ (∀ φ, u ≠ .ext φ) /\ NT u) (h : dj H) : dj (upd H p o) := by
 intro P ps e
 have hne : P ≠ p := fun z => by
  subst z
  rw [aD] at e
  cases e
  exact n
 rw [aw hne] at e
 obtain ⟨h1, h2⟩ := h P ps e
 refine ⟨h1, fun pos cv q => ?_⟩
 obtain ⟨c, e1, e2⟩ := h2 pos cv q
 refine ⟨c, e1, ?_⟩
 rw [aw fun z => ?_]
 ·exact e2
 ·subst z
  rcases hp with hp | ⟨u, hp, hu, _⟩
  ·rw [hp] at e2; cases e2
  ·rw [hp] at e2; cases e2; exact hu _ rfl
structure d6 (K : PySem.W.Frag) (H : Hp) : Prop where
 ok : dj H
 at' : ∀ P, tabOf K = some P -> ∃ ps, H P = some (.tbl ps)
theorem d6.same {K : PySem.W.Frag} {H H' : Hp} (h : d6 K H) (e : ar H H') : d6 K H' := ⟨e.ok h.ok, fun P q => by
 obtain ⟨ps, z⟩ := h.at' P q
 obtain ⟨m, z⟩ := e.tb P ps z
 exact ⟨_, z⟩⟩
theorem d6.upd {K : PySem.W.Frag} {H : Hp} {p : Addr} {o : HO} (h : d6 K H) (n : NT o) (hp : H p = none ∨ ∃ u, H p = some u /\ (∀ φ, u ≠ .ext φ) /\ NT u) : d6 K (upd H p o) := ⟨dj.upd n hp h.ok, fun P q => by
 obtain ⟨ps, z⟩ := h.at' P q
 refine ⟨ps, ?_⟩
 rw [aw fun e => ?_]
 ·exact z
 ·subst e
  rcases hp with hp | ⟨u, hp, _, hu⟩
  ·rw [hp] at z; cases z
  ·rw [hp] at z; cases z; exact hu⟩
inductive D where
 | non | bl (b : Bool) | int (i : Int) | str (x : Str) | tup (ds : List D) | lst (t : Bool) (ds : List D) | exc (c : Addr)
def SqG (K : PySem.W.Frag) (H : Hp) (t : Bool) (a : Addr) (vs : List V) : Prop := SqL K H a vs /\ (t = true -> H a = some (.lst vs) /\ K.lookup a = none)
theorem SqG.same {K : PySem.W.Frag} {H H' : Hp} {t : Bool} {a : Addr} {vs : List V} (e : ar H H') (q : SqG K H t a vs) : SqG K H' t a vs := ⟨e.seq q.1, fun z => ⟨e _ _ (q.2 z).1, (q.2 z).2⟩⟩
theorem SqG.any {K : PySem.W.Frag} {H : Hp} {a : Addr} {vs : List V} (q : SqL K H a vs) : SqG K H false a vs := ⟨q, fun z => by cases z⟩
theorem SqG.new {K : PySem.W.Frag} {H : Hp} {t : Bool} {a : Addr} {vs : List V} (q : H a = some (.lst vs)) (k : K.lookup a = none) : SqG K H t a vs := ⟨SqL.of q, fun _ => ⟨q, k⟩⟩
mutual
def Den (K : PySem.W.Frag) (P : Bool -> Addr -> Prop) (H : Hp) : D -> V -> Prop
 | .non, v => v = .non
 | .bl b, v => v = .bl b
 | .int i, v => v = .int i
 | .str x, v => v = .str x
 | .tup ds, v => ∃ a vs, v = .ref a /\ SqT K H a vs /\ ah K P H ds vs
 | .lst t ds, v => ∃ a vs, v = .ref a /\ ¬ P t a /\ SqG K H t a vs /\ ah K P H ds vs
 | .exc c, v => ∃ e, v = .ref e /\ H e = some (.ext (ExcAt e c)) /\ eQ K c
def ah (K : PySem.W.Frag) (P : Bool -> Addr -> Prop) (H : Hp) : List D -> List V -> Prop
 | [], vs => vs = []
 | d :: ds, vs => ∃ v r, vs = v :: r /\ Den K P H d v /\ ah K P H ds r
end
section
variable {K : PySem.W.Frag} {P P' : Bool -> Addr -> Prop} {H H' : Hp}
mutual
theorem Den.map (hT : ∀ a vs, SqT K H a vs -> SqT K H' a vs) (hL : ∀ t a vs, ¬ P t a -> SqG K H t a vs -> ¬ P' t a /\ SqG K H' t a vs) (hX : ∀ a φ, H a = some (.ext φ) -> H' a = some (.ext φ)) : ∀ (d : D) (v : V), Den K P H d v -> Den K P' H' d v
 | .non, _, h => by simpa only [Den] using h
 | .bl _, _, h => by simpa only [Den] using h
 | .int _, _, h => by simpa only [Den] using h
 | .str _, _, h => by simpa only [Den] using h
 | .tup ds, _, h => by
  simp only [Den] at h ⊢
  obtain ⟨a, vs, e, q, r⟩ := h
  exact ⟨a, vs, e, hT a vs q, ah.map hT hL hX ds vs r⟩
 | .lst t ds, _, h => by
  simp only [Den] at h ⊢
  obtain ⟨a, vs, e, p, q, r⟩ := h
  exact ⟨a, vs, e, (hL t a vs p q).1, (hL t a vs p q).2, ah.map hT hL hX ds vs r⟩
 | .exc c, _, h => by
  simp only [Den] at h ⊢
  obtain ⟨a, e, q, k⟩ := h
  exact ⟨a, e, hX a _ q, k⟩
theorem ah.map (hT : ∀ a vs, SqT K H a vs -> SqT K H' a vs) (hL : ∀ t a vs, ¬ P t a -> SqG K H t a vs -> ¬ P' t a /\ SqG K H' t a vs) (hX : ∀ a φ, H a = some (.ext φ) -> H' a = some (.ext φ)) : ∀ (ds : List D) (vs : List V), ah K P H ds vs -> ah K P' H' ds vs
 | [], _, h => by simpa only [ah] using h
 | d :: ds, _, h => by
  simp only [ah] at h ⊢
  obtain ⟨v, r, e, h1, h2⟩ := h
  exact ⟨v, r, e, Den.map hT hL hX d v h1, ah.map hT hL hX ds r h2⟩
end
end
theorem SqT.same {K : PySem.W.Frag} {H H' : Hp} {a : Addr} {xs : List V} (e : ar H H') (h : SqT K H a xs) : SqT K H' a xs := by
 rcases h with (h | ⟨o, h⟩) | h
 ·exact .inl (.inl (e _ _ h))
 ·exact .inl (.inr ⟨o, e _ _ h⟩)
 ·exact .inr h
section
variable {K : PySem.W.Frag} {P : Bool -> Addr -> Prop} {H H' : Hp}
theorem Den.same {d : D} {v : V} (e : ar H H') (h : Den K P H d v) : Den K P H' d v := Den.map (fun _ _ q => SqT.same e q) (fun _ _ _ p q => ⟨p, q.same e⟩) (fun a _ q => e a _ q) d v h
theorem ah.same {ds : List D} {vs : List V} (e : ar H H') (h : ah K P H ds vs) : ah K P H' ds vs := ah.map (fun _ _ q => SqT.same e q) (fun _ _ _ p q => ⟨p, q.same e⟩) (fun a _ q => e a _ q) ds vs h
theorem Den.fewer {P' : Bool -> Addr -> Prop} {d : D} {v : V} (e : ∀ t a, P' t a -> P t a) (h : Den K P H d v) : Den K P' H d v := Den.map (fun _ _ q => q) (fun _ _ _ p q => ⟨fun z => p (e _ _ z), q⟩) (fun _ _ q => q) d v h
theorem ah.fewer {P' : Bool -> Addr -> Prop} {ds : List D} {vs : List V} (e : ∀ t a, P' t a -> P t a) (h : ah K P H ds vs) : ah K P' H ds vs := ah.map (fun _ _ q => q) (fun _ _ _ p q => ⟨fun z => p (e _ _ z), q⟩) (fun _ _ q => q) ds vs h
theorem ah.len : ∀ {ds : List D} {vs : List V}, ah K P H ds vs -> vs.length = ds.length
 | [], _, h => by simp only [ah] at h; subst h; rfl
 | d :: ds, _, h => by
  simp only [ah] at h
  obtain ⟨v, r, rfl, _, h2⟩ := h
  simp [ah.len h2]
theorem ah.get : ∀ {ds : List D} {vs : List V} {i : Nat} {d : D}, ah K P H ds vs -> ds[i]? = some d -> ∃ v, vs[i]? = some v /\ Den K P H d v
 | [], _, _, _, _, e => by simp at e
 | d :: ds, _, 0, _, h, e => by
  simp only [ah] at h
  obtain ⟨v, r, rfl, h1, _⟩ := h
  simp at e; subst e
  exact ⟨v, rfl, h1⟩
 | d :: ds, _, i + 1, x, h, e => by
  simp only [ah] at h
  obtain ⟨v, r, rfl, _, h2⟩ := h
  obtain ⟨u, e1, e2⟩ := ah.get (i := i) (d := x) h2 (by simpa using e)
  exact ⟨u, by simpa using e1, e2⟩
theorem ah.bc : ∀ {ds : List D} {vs : List V} {i : Nat} {v : V}, ah K P H ds vs -> vs[i]? = some v -> ∃ d, ds[i]? = some d /\ Den K P H d v
 | [], _, _, _, h, e => by simp only [ah] at h; subst h; simp at e
 | d :: ds, _, 0, _, h, e => by
  simp only [ah] at h
  obtain ⟨v, r, rfl, h1, _⟩ := h
  simp at e; subst e
  exact ⟨d, rfl, h1⟩
 | d :: ds, _, i + 1, x, h, e => by
  simp only [ah] at h
  obtain ⟨v, r, rfl, _, h2⟩ := h
  obtain ⟨u, e1, e2⟩ := ah.bc (i := i) (v := x) h2 (by simpa using e)
  exact ⟨u, by simpa using e1, e2⟩
theorem ah.append : ∀ {ds es : List D} {vs us : List V}, ah K P H ds vs -> ah K P H es us -> ah K P H (ds ++ es) (vs ++ us)
 | [], _, _, _, h, h' => by simp only [ah] at h; subst h; exact h'
 | d :: ds, _, _, _, h, h' => by
  simp only [ah] at h
  obtain ⟨v, r, rfl, h1, h2⟩ := h
  simp only [List.cons_append, ah]
  exact ⟨v, _, rfl, h1, ah.append h2 h'⟩
theorem ah.one {d : D} {v : V} (h : Den K P H d v) : ah K P H [d] [v] := by
 simp only [ah]
 exact ⟨v, [], rfl, h, rfl⟩
theorem ah.nil : ah K P H [] [] := by simp only [ah]
theorem ah.cons {d : D} {v : V} {ds : List D} {vs : List V} (h : Den K P H d v) (h' : ah K P H ds vs) : ah K P H (d :: ds) (v :: vs) := by
 simp only [ah]
 exact ⟨v, vs, rfl, h, h'⟩
theorem Den.int_ {i : Int} {v : V} (h : Den K P H (.int i) v) : v = .int i := by simpa only [Den] using h
theorem Den.bl_ {b : Bool} {v : V} (h : Den K P H (.bl b) v) : v = .bl b := by simpa only [Den] using h
theorem Den.non_ {v : V} (h : Den K P H .non v) : v = .non := by simpa only [Den] using h
theorem Den.str_ {x : Str} {v : V} (h : Den K P H (.str x) v) : v = .str x := by simpa only [Den] using h
theorem Den.int (i : Int) : Den K P H (.int i) (.int i) := by simp only [Den]
theorem Den.bl (b : Bool) : Den K P H (.bl b) (.bl b) := by simp only [Den]
theorem Den.non : Den K P H .non .non := by simp only [Den]
theorem Den.str (x : Str) : Den K P H (.str x) (.str x) := by simp only [Den]
theorem Den.tup_ {ds : List D} {v : V} (h : Den K P H (.tup ds) v) : ∃ a vs, v = .ref a /\ SqT K H a vs /\ ah K P H ds vs := by simpa only [Den] using h
theorem Den.lstG_ {t : Bool} {ds : List D} {v : V} (h : Den K P H (.lst t ds) v) : ∃ a vs, v = .ref a /\ ¬ P t a /\ SqG K H t a vs /\ ah K P H ds vs := by simpa only [Den] using h
theorem Den.lst_ {t : Bool} {ds : List D} {v : V} (h : Den K P H (.lst t ds) v) : ∃ a vs, v = .ref a /\ ¬ P t a /\ SqL K H a vs /\ ah K P H ds vs := by
 obtain ⟨a, vs, h1, h2, h3, h4⟩ := h.lstG_
 exact ⟨a, vs, h1, h2, h3.1, h4⟩
theorem Den.exc_ {c : Addr} {v : V} (h : Den K P H (.exc c) v) : ∃ e, v = .ref e /\ H e = some (.ext (ExcAt e c)) /\ eQ K c := by simpa only [Den] using h
theorem Den.exc {c e : Addr} (h : H e = some (.ext (ExcAt e c))) (k : eQ K c) : Den K P H (.exc c) (.ref e) := by simp only [Den]; exact ⟨e, rfl, h, k⟩
theorem Den.tup {ds : List D} {a : Addr} {vs : List V} (h : SqT K H a vs) (h' : ah K P H ds vs) : Den K P H (.tup ds) (.ref a) := by simp only [Den]; exact ⟨a, vs, rfl, h, h'⟩
theorem Den.lst {t : Bool} {ds : List D} {a : Addr} {vs : List V} (p : ¬ P t a) (h : SqG K H t a vs) (h' : ah K P H ds vs) : Den K P H (.lst t ds) (.ref a) := by simp only [Den]; exact ⟨a, vs, rfl, p, h, h'⟩
end
inductive LI where
 | own (ds : List D) | val (d : D)
inductive OS where
 | lst (ds : List D) | dk (kvs : List (Key × D)) | dt (kvs : List (List Key × D)) | ll (xs : List LI)
inductive Sl where
 | val (d : D)
 | ob (x : OS)
abbrev Sl.own (ds : List D) : Sl := .ob (.lst ds)
def dD (K : PySem.W.Frag) (P : Bool -> Addr -> Prop) (H : Hp) (B : Nat -> Option Addr) : Nat -> List LI -> List V -> Prop
 | _, [], vs => vs = []
 | k, .own ds :: r, vs => ∃ b us u, vs = .ref b :: u /\ B k = some b /\ H b = some (.lst us) /\ ah K P H ds us /\ dD K P H B (k + 1) r u
 | k, .val d :: r, vs => ∃ v u, vs = v :: u /\ Den K P H d v /\ dD K P H B (k + 1) r u
theorem dD.map {K : PySem.W.Frag} {P P' : Bool -> Addr -> Prop} {H H' : Hp} {B B' : Nat -> Option Addr} (hd : ∀ ds vs, ah K P H ds vs -> ah K P' H' ds vs) (hB : ∀ k b, B k = some b -> B' k = some b /\ ∀ us, H b = some (.lst us) -> H' b = some (.lst us)) : ∀ {k : Nat} {xs : List LI} {vs : List V}, dD K P H B k xs vs -> dD K P' H' B' k xs vs
 | _, [], _, h => by simpa only [dD] using h
 | k, .own ds :: r, _, h => by
  simp only [dD] at h ⊢
  obtain ⟨b, us, u, e, h1, h2, h3, h4⟩ := h
  exact ⟨b, us, u, e, (hB k b h1).1, (hB k b h1).2 us h2, hd ds us h3, dD.map hd hB h4⟩
 | k, .val d :: r, _, h => by
  simp only [dD] at h ⊢
  obtain ⟨v, u, e, h1, h2⟩ := h
  have h3 := hd [d] [v] (ah.one h1)
  simp only [ah] at h3
  obtain ⟨v', r', e', h4, _⟩ := h3
  cases e'
  exact ⟨v, u, e, h4, dD.map hd hB h2⟩
inductive cq (K : PySem.W.Frag) (P : Bool -> Addr -> Prop) (H : Hp) (B : Nat -> Option Addr) : OS -> HO -> Prop where
 | lst {ds : List D} {vs : List V} (h : ah K P H ds vs) : cq K P H B (.lst ds) (.lst vs)
 | ll {xs : List LI} {vs : List V} (h : dD K P H B 0 xs vs) : cq K P H B (.ll xs) (.lst vs)
 | dk {kvs : List (Key × D)} {kws : List (Key × V)} (e : kws.map (·.1) = kvs.map (·.1)) (h : ah K P H (kvs.map (·.2)) (kws.map (·.2))) : cq K P H B (.dk kvs) (.dK kws)
 | dt {kvs : List (List Key × D)} {kws : List (List Key × V)} (e : kws.map (·.1) = kvs.map (·.1)) (h : ah K P H (kvs.map (·.2)) (kws.map (·.2))) : cq K P H B (.dt kvs) (.dT kws)
def i9 : HO -> Prop
 | .lst _ => True | .dK _ => True | .dT _ => True | _ => False
theorem i9.nt {o : HO} (h : i9 o) : NT o := by cases o <;> first | exact True.intro | exact h.elim
theorem i9.ne {o : HO} (h : i9 o) : ∀ φ, o ≠ .ext φ := fun _ e => by subst e; exact h
section
variable {K : PySem.W.Frag} {P P' : Bool -> Addr -> Prop} {H H' : Hp} {B B' : Nat -> Option Addr} {x : OS} {o : HO}
theorem cq.map (k : ∀ ds vs, ah K P H ds vs -> ah K P' H' ds vs) (hB : ∀ k b, B k = some b -> B' k = some b /\ ∀ us, H b = some (.lst us) -> H' b = some (.lst us)) (h : cq K P H B x o) : cq K P' H' B' x o := by
 cases h with
 | lst h => exact .lst (k _ _ h)
 | ll h => exact .ll (h.map k hB)
 | dk e h => exact .dk e (k _ _ h)
 | dt e h => exact .dt e (k _ _ h)
theorem cq.same (e : ar H H') (h : cq K P H B x o) : cq K P H' B x o := h.map (fun _ _ z => z.same e) fun _ _ q => ⟨q, fun _ z => e _ _ z⟩
theorem cq.fewer (e : ∀ t a, P' t a -> P t a) (hB : ∀ k b, B k = some b -> B' k = some b) (h : cq K P H B x o) : cq K P' H B' x o := h.map (fun _ _ z => z.fewer e) fun k b q => ⟨hB k b q, fun _ z => z⟩
theorem cq.mut (h : cq K P H B x o) : i9 o := by cases h <;> exact True.intro
theorem cq.lst_ {ds : List D} (h : cq K P H B (.lst ds) o) : ∃ vs, o = .lst vs /\ ah K P H ds vs := by
 cases h with
 | lst h => exact ⟨_, rfl, h⟩
end
abbrev Ro := List (Option Sl)
structure Own where
 B : Addr -> Prop
 O : Nat -> Option Addr
 S : Addr -> Prop
def Own.bad (W : Own) (t : Bool) (a : Addr) : Prop := W.B a ∨ (∃ i, W.O i = some a) ∨ (t = true /\ W.S a)
def Own.drop (W : Own) (i : Nat) : Own := ⟨W.B, fun j => if j = i then none else W.O j, W.S⟩
def Own.put (W : Own) (i : Nat) (a : Addr) : Own := ⟨W.B, fun j => if j = i then some a else W.O j, W.S⟩
theorem Own.drop_bad {W : Own} {i : Nat} {t : Bool} {a : Addr} (h : (W.drop i).bad t a) : W.bad t a := by
 rcases h with h | ⟨j, h⟩ | h
 ·exact .inl h
 ·have h' : (if j = i then none else W.O j) = some a := h
  by_cases e : j = i
  ·rw [if_pos e] at h'; cases h'
  ·rw [if_neg e] at h'; exact .inr (.inl ⟨j, h'⟩)
 ·exact .inr (.inr h)
theorem Own.bad_up {W : Own} {t : Bool} {a : Addr} (h : W.bad false a) : W.bad t a := by
 rcases h with h | h | ⟨h, _⟩
 ·exact .inl h
 ·exact .inr (.inl h)
 ·cases h
def vix (n i k : Nat) : Nat := n * (k + 1) + i
theorem lQ {n i j k : Nat} (h : j < n) : vix n i k ≠ j := fun e => by
 unfold vix at e
 rw [Nat.mul_add] at e
 omega
abbrev Own.sub (W : Own) (n i : Nat) (k : Nat) : Option Addr := W.O (vix n i k)
theorem Own.drop_sub {W : Own} {n i j : Nat} (h : i < n) (k : Nat) (b : Addr) (e : W.sub n j k = some b) : (W.drop i).sub n j k = some b := by
 show (if vix n j k = i then none else W.O (vix n j k)) = _
 rw [if_neg (lQ h)]
 exact e
structure Rel (X : Cx) (W : Own) (H : Hp) (σ : St) (ρ : Ro) : Prop where
 val : ∀ (i : Nat) (d : D), ρ[i]? = some (some (Sl.val d)) -> ∃ v, σ[i]? = some (some v) /\ Den X.K W.bad H d v
 own : ∀ (i : Nat) (x : OS), ρ[i]? = some (some (Sl.ob x)) -> ∃ a o, W.O i = some a /\ σ[i]? = some (some (.ref a)) /\ H a = some o /\ cq X.K W.bad H (W.sub σ.length i) x o
 inj : ∀ i j a, W.O i = some a -> W.O j = some a -> i = j
 kn : ∀ i a, W.O i = some a -> X.K.lookup a = none /\ (¬ W.B a /\ ¬ W.S a) /\ ∃ o, H a = some o /\ i9 o
 ke : ∀ i a, W.O i = some a -> X.H₀ a = none
 bt : ∀ a, W.B a -> ∃ o, H a = some o
 st : ∀ a, W.S a -> ∃ o, H a = some o
 ent : ar X.H₀ H
 tab : d6 X.K H
theorem Rel.same {X : Cx} {W : Own} {H H' : Hp} {σ : St} {ρ : Ro} (r : Rel X W H σ ρ) (e : ar H H') : Rel X W H' σ ρ where
 val := fun i d h => let ⟨v, h1, h2⟩ := r.val i d h; ⟨v, h1, h2.same e⟩
 own := fun i ds h => let ⟨a, vs, h1, h2, h3, h4⟩ := r.own i ds h; ⟨a, vs, h1, h2, e.kp _ _ h3 h4.mut.nt, h4.same e⟩
 inj := r.inj
 kn := fun i a h => let ⟨h1, h2, o, h3, h4⟩ := r.kn i a h; ⟨h1, h2, o, e.kp _ _ h3 h4.nt, h4⟩
 ke := r.ke
 bt := fun a h => let ⟨_, q⟩ := r.bt a h; e.ex q
 st := fun a h => let ⟨_, q⟩ := r.st a h; e.ex q
 ent := r.ent.trans e
 tab := r.tab.same e
theorem Rel.ownL {X : Cx} {W : Own} {H : Hp} {σ : St} {ρ : Ro} (r : Rel X W H σ ρ) (i : Nat) (ds : List D) (h : ρ[i]? = some (some (Sl.own ds))) : ∃ a vs, W.O i = some a /\ σ[i]? = some (some (.ref a)) /\ H a = some (.lst vs) /\ ah X.K W.bad H ds vs := by
 obtain ⟨a, o, h1, h2, h3, h4⟩ := r.own i _ h
 obtain ⟨vs, e, h5⟩ := h4.lst_
 subst e
 exact ⟨a, vs, h1, h2, h3, h5⟩
theorem Rel.tracked {X : Cx} {W : Own} {H : Hp} {σ : St} {ρ : Ro} (r : Rel X W H σ ρ) (t : Bool) (a : Addr) (h : W.bad t a) : ∃ o, H a = some o := by
 rcases h with h | ⟨i, h⟩ | ⟨_, h⟩
 ·exact r.bt a h
 ·obtain ⟨_, _, o, q, _⟩ := r.kn i a h
  exact ⟨_, q⟩
 ·exact r.st a h
theorem Rel.fresh {X : Cx} {W : Own} {H : Hp} {σ : St} {ρ : Ro} (r : Rel X W H σ ρ) {t : Bool} {p : Addr} (h : H p = none) : ¬ W.bad t p := fun z => by
 obtain ⟨o, q⟩ := r.tracked t p z
 rw [h] at q; cases q
structure Fwd (W : Own) (H : Hp) (W' : Own) (H' : Hp) : Prop where
 B : W'.B = W.B
 S : W'.S = W.S
 kp : ∀ b o, (∀ i, W.O i ≠ some b) -> H b = some o -> NT o -> H' b = some o
 new : ∀ i a, W'.O i = some a -> (∃ j, W.O j = some a) ∨ H a = none
 tb : ∀ b ps, H b = some (.tbl ps) -> ∃ more, H' b = some (.tbl (ps ++ more))
 ok : dj H -> dj H'
theorem Fwd.keep {W W' : Own} {H H' : Hp} (f : Fwd W H W' H') (b : Addr) (o : HO) (h : ∀ i, W.O i ≠ some b) (q : H b = some o) (nt : NT o := by first | exact True.intro | assumption) : H' b = some o := f.kp b o h q nt
theorem Fwd.ex {W W' : Own} {H H' : Hp} (f : Fwd W H W' H') {b : Addr} {o : HO} (h : ∀ i, W.O i ≠ some b) (q : H b = some o) : ∃ o', H' b = some o' := by
 by_cases n : NT o
 ·exact ⟨o, f.kp b o h q n⟩
 ·cases o with
  | tbl ps =>
   obtain ⟨m, e⟩ := f.tb b ps q
   exact ⟨_, e⟩
  | _ => exact absurd True.intro n
theorem Fwd.refl (W : Own) (H : Hp) : Fwd W H W H := ⟨rfl, rfl, fun _ _ _ h _ => h, fun i _ h => .inl ⟨i, h⟩, fun _ ps h => ⟨#[], by rw [h]; simp⟩, id⟩
theorem Fwd.trans {W W1 W2 : Own} {H H1 H2 : Hp} (a : Fwd W H W1 H1) (b : Fwd W1 H1 W2 H2) : Fwd W H W2 H2 := by
 refine ⟨b.B.trans a.B, b.S.trans a.S, fun x o n h t => b.kp x o (fun i z => ?_) (a.kp x o n h t) t, fun i x h => ?_, fun c ps h => ?_, fun h => b.ok (a.ok h)⟩
 ·rcases a.new i x z with ⟨j, q⟩ | q
  ·exact n j q
  ·rw [h] at q; cases q
 ·rcases b.new i x h with ⟨j, q⟩ | q
  ·exact a.new j x q
  ·by_cases z : ∃ j, W.O j = some x
   ·exact .inl z
   ·refine .inr ?_
    cases e : H x with
    | none => rfl
    | some o =>
     obtain ⟨o', this⟩ := a.ex (fun i w => z ⟨i, w⟩) e
     rw [this] at q; cases q
 ·obtain ⟨m1, e1⟩ := a.tb c ps h
  obtain ⟨m2, e2⟩ := b.tb c _ e1
  exact ⟨m1 ++ m2, by rw [e2, Array.append_assoc]⟩
theorem Fwd.same {W : Own} {H H' : Hp} (e : ar H H') : Fwd W H W H' := ⟨rfl, rfl, fun _ _ _ h n => e.kp _ _ h n, fun i _ h => .inl ⟨i, h⟩, e.tb, e.ok⟩
theorem ar.ins {H₀ H : Hp} (e : ar H₀ H) {a : Addr} {o o' : HO} (h0 : H₀ a = none) (ha : H a = some o) (hm : i9 o) (hn : NT o') : ar H₀ (upd H a o') :=
 ⟨fun b u h n => by rw [aw (aV h h0)]; exact e.kp b u h n, fun b ps h => by rw [aw (aV h h0)]; exact e.tb b ps h, fun h => dj.upd hn (.inr ⟨o, ha, hm.ne, hm.nt⟩) (e.ok h)⟩
theorem Fwd.upd {W : Own} {H : Hp} {i : Nat} {a : Addr} {o o' : HO} (oa : W.O i = some a) (ha : H a = some o) (hm : i9 o) (hn : NT o') : Fwd W H W (upd H a o') :=
 ⟨rfl, rfl, fun b u n h _ => by rw [aw fun e => n i (by rw [e]; exact oa)]; exact h, fun j _ h => .inl ⟨j, h⟩, fun b ps h => ⟨#[], by rw [aw (fun e => by subst e; rw [ha] at h; cases h; exact hm), h]; simp⟩, dj.upd hn (.inr ⟨o, ha, hm.ne, hm.nt⟩)⟩
structure gc where
 nx : Ro -> Prop
 rt : D -> Prop
 bk : Ro -> Prop := fun _ => False
 ct : Ro -> Prop := fun _ => False
abbrev DE := Ro -> (D -> Prop) -> Prop
abbrev DT := Ro -> (Bool -> Prop) -> Prop
abbrev DA := Ro -> (List D -> Prop) -> Prop
abbrev DS := gc -> Ro -> Prop
def DP (X : Cx) (pins : List (Addr × Obj)) (σ : St) (W : Own) (H : Hp) (Q : D -> Prop) (u : Value) (s' : Shared) : Prop :=
 ∃ v H' d, Inv X pins σ H' s' /\ RelV v u /\ ar H H' /\ Den X.K W.bad H' d v /\ Q d
def DTP (X : Cx) (pins : List (Addr × Obj)) (σ : St) (H : Hp) (Q : Bool -> Prop) (b : Bool) (s' : Shared) : Prop :=
 ∃ H', Inv X pins σ H' s' /\ ar H H' /\ Q b
def DAP (X : Cx) (pins : List (Addr × Obj)) (σ : St) (W : Own) (H : Hp) (Q : List D -> Prop) (us : List Value) (s' : Shared) : Prop :=
 ∃ vs H' ds, Inv X pins σ H' s' /\ Vals vs us /\ ar H H' /\ ah X.K W.bad H' ds vs /\ Q ds
def SPD (X : Cx) (pins : List (Addr × Obj)) (W : Own) (H : Hp) (E : gc) (f : Flow) (s' : Shared) : Prop :=
 ∃ W' σ' H', Inv X pins σ' H' s' /\ Fwd W H W' H' ∧
 match f with
 | .next => ∃ ρ', Rel X W' H' σ' ρ' /\ E.nx ρ'
 | .brk => ∃ ρ', Rel X W' H' σ' ρ' /\ E.bk ρ'
 | .cont => ∃ ρ', Rel X W' H' σ' ρ' /\ E.ct ρ'
 | .ret u => ∃ v d, RelV v u /\ Den X.K W'.bad H' d v /\ E.rt d
def PED (X : Cx) (e : Expr) (t : DE) : Prop :=
 ∀ (pins : List (Addr × Obj)) (s : Shared) (σ : St) (H : Hp) (W : Own) (ρ : Ro) (Q : D -> Prop), Inv X pins σ H s -> Rel X W H σ ρ -> t ρ Q →
  wpAny (model X.prog X.w) X.A (eval e X.env) (DP X pins σ W H Q) X.xe s
def PTD (X : Cx) (e : Expr) (t : DT) : Prop :=
 ∀ (pins : List (Addr × Obj)) (s : Shared) (σ : St) (H : Hp) (W : Own) (ρ : Ro) (Q : Bool -> Prop), Inv X pins σ H s -> Rel X W H σ ρ -> t ρ Q →
  wpAny (model X.prog X.w) X.A (isTrue e X.env (eval e X.env)) (DTP X pins σ H Q) X.xe s
def PWD (X : Cx) (e : Expr) (t : DT) : Prop :=
 ∀ (whole : Sem Value) (pins : List (Addr × Obj)) (s : Shared) (σ : St) (H : Hp) (W : Own) (ρ : Ro) (Q : Bool -> Prop), Inv X pins σ H s -> Rel X W H σ ρ -> t ρ Q →
  wpAny (model X.prog X.w) X.A (isTrue e X.env whole) (DTP X pins σ H Q) X.xe s
theorem PWD.pt {X : Cx} {e : Expr} {t : DT} (h : PWD X e t) : PTD X e t := h _
def PAD (X : Cx) (es : List Expr) (t : DA) : Prop :=
 ∀ (pos : Pos) (pins : List (Addr × Obj)) (s : Shared) (σ : St) (H : Hp) (W : Own) (ρ : Ro) (Q : List D -> Prop), Inv X pins σ H s -> Rel X W H σ ρ -> t ρ Q →
  wpAny (model X.prog X.w) X.A (spliced (backTo pos (starEach es X.env))) (DAP X pins σ W H Q) X.xe s
def PSD (X : Cx) (st : Stmt) (t : DS) : Prop :=
 ∀ (pins : List (Addr × Obj)) (s : Shared) (σ : St) (H : Hp) (W : Own) (ρ : Ro) (E : gc), Inv X pins σ H s -> Rel X W H σ ρ -> t E ρ →
  wpAny (model X.prog X.w) X.A (exec st X.env) (SPD X pins W H E) X.xe s
def cy (X : Cx) (st : List Stmt) (t : DS) : Prop :=
 ∀ (pins : List (Addr × Obj)) (s : Shared) (σ : St) (H : Hp) (W : Own) (ρ : Ro) (E : gc), Inv X pins σ H s -> Rel X W H σ ρ -> t E ρ →
  wpAny (model X.prog X.w) X.A (execs st X.env) (SPD X pins W H E) X.xe s
def xc (X : Cx) (t : DE) : TE := fun σ H Q => ∃ W ρ Qd, Rel X W H σ ρ /\ t ρ Qd /\ ∀ v H' d, ar H H' -> Den X.K W.bad H' d v -> Qd d -> Q v H'
def Aw (X : Cx) (t : DS) : TS := fun D σ H => ∃ W ρ Ed, Rel X W H σ ρ /\ t Ed ρ ∧
 (∀ W' σ' H' ρ', Fwd W H W' H' -> Rel X W' H' σ' ρ' -> Ed.nx ρ' -> D.nx σ' H') ∧
 (∀ W' H' v d, Fwd W H W' H' -> Den X.K W'.bad H' d v -> Ed.rt d -> D.rt v H') ∧
 (∀ W' σ' H' ρ', Fwd W H W' H' -> Rel X W' H' σ' ρ' -> Ed.bk ρ' -> D.bk σ' H') ∧
 (∀ W' σ' H' ρ', Fwd W H W' H' -> Rel X W' H' σ' ρ' -> Ed.ct ρ' -> D.ct σ' H')
section
variable {X : Cx}
theorem PED.pe {e : Expr} {t : DE} (h : PED X e t) : PE X e (xc X t) := by
 intro pins s σ H Q I q
 obtain ⟨W, ρ, Qd, r, ht, k⟩ := q
 exact thn (h pins s σ H W ρ Qd I r ht) fun u s1 ⟨v, H', d, I1, rv, e1, hd, qd⟩ => ⟨v, H', I1, rv, k v H' d e1 hd qd⟩
theorem cy.ps {st : List Stmt} {t : DS} (h : cy X st t) : PSs X st (Aw X t) := by
 intro pins s σ H D I q
 obtain ⟨W, ρ, Ed, r, ht, k1, k2, k3, k4⟩ := q
 refine thn (h pins s σ H W ρ Ed I r ht) fun f s1 ⟨W', σ', H', I1, fw, q⟩ => ?_
 cases f with
 | next => obtain ⟨ρ', r', q'⟩ := q; exact ⟨σ', H', I1, k1 W' σ' H' ρ' fw r' q'⟩
 | brk => obtain ⟨ρ', r', q'⟩ := q; exact ⟨σ', H', I1, k3 W' σ' H' ρ' fw r' q'⟩
 | cont => obtain ⟨ρ', r', q'⟩ := q; exact ⟨σ', H', I1, k4 W' σ' H' ρ' fw r' q'⟩
 | ret u => obtain ⟨v, d, rv, hd, q'⟩ := q; exact ⟨v, σ', H', I1, rv, k2 W' H' v d fw hd q'⟩
theorem PED.of {e : Expr} {te : TE} {t : DE} (h : PE X e te) (k : ∀ σ H W ρ Q, Rel X W H σ ρ -> t ρ Q -> te σ H fun v H' => ar H H' /\ ∃ d, Den X.K W.bad H' d v /\ Q d) : PED X e t := by
 intro pins s σ H W ρ Q I r ht
 exact thn (h pins s σ H _ I (k σ H W ρ Q r ht)) fun u s1 ⟨v, H', I1, rv, e1, d, hd, q⟩ => ⟨v, H', d, I1, rv, e1, hd, q⟩
end
section
variable {X : Cx} {a b c : Expr} {ta tb : DE} {pos : Pos}
def jX (i : Nat) : DE := fun ρ Q => ∃ d, ρ[i]? = some (some (.val d)) /\ Q d
def dC (d : D) : DE := fun _ Q => Q d
theorem dv (i : Nat) {x : Str} {pos : Pos} (hN : X.N[i]? = some x := by rfl) (hv : Vis X.env.scope x := by first | exact Or.inl rfl | exact Or.inr (Or.inl rfl) | exact Or.inr (Or.inr rfl)) (hd : (x == ("__debug__" : Str)) = false := by decide)
  (hcd : (x == ("__classdict__" : Str)) = false := by decide) : PED X (.Name x pos) (jX i) :=
 PED.of (gH hN hv hd hcd) fun σ H W ρ Q r ht => by
  obtain ⟨d, e, q⟩ := ht
  obtain ⟨v, e1, e2⟩ := r.val i d e
  exact ⟨v, e1, ar.refl H, d, e2, q⟩
theorem aa {i j pos} : PED X (.Constant (.int i) j pos) (dC (.int i)) := PED.of l4 fun _ H _ _ _ _ q => ⟨ar.refl H, _, Den.int i, q⟩
theorem dA {i j pos} : PED X (.Constant (.bool i) j pos) (dC (.bl i)) := PED.of AA fun _ H _ _ _ _ q => ⟨ar.refl H, _, Den.bl i, q⟩
theorem gJ {j pos} : PED X (.Constant .none j pos) (dC .non) := PED.of zK fun _ H _ _ _ _ q => ⟨ar.refl H, _, Den.non, q⟩
theorem iY {x j pos} : PED X (.Constant (.str x) j pos) (dC (.str x)) := PED.of ub fun _ H _ _ _ _ q => ⟨ar.refl H, _, Den.str x, q⟩
abbrev RD2 := D -> D -> (D -> Prop) -> Prop
def OpD (X : Cx) (f : Value -> Value -> Sem Value) (r : RD2) : Prop :=
 ∀ (pins : List (Addr × Obj)) (s : Shared) (σ : St) (H : Hp) (W : Own) (x y : D) (v u : V) (vv uu : Value) (Q : D -> Prop), Inv X pins σ H s -> (∀ t a, W.bad t a -> ∃ o, H a = some o) -> RelV v vv -> RelV u uu -> Den X.K W.bad H x v -> Den X.K W.bad H y u -> r x y Q →
  wpAny (model X.prog X.w) X.A (f vv uu) (DP X pins σ W H Q) X.xe s
def dOp (r : RD2) (ta tb : DE) : DE := fun ρ Q => ta ρ fun x => tb ρ fun y => r x y Q
theorem rW (ha : PED X a ta) (hb : PED X b tb) {pins : List (Addr × Obj)} {s : Shared} {σ : St} {H : Hp} {W : Own} {ρ : Ro} {R : D -> D -> Prop} (I : Inv X pins σ H s) (r : Rel X W H σ ρ) (h : ta ρ fun x => tb ρ fun y => R x y)
  {α : Type} {Q : α -> Shared -> Prop} {f : Value -> Value -> Sem α}
  (hf : ∀ vv uu s2 v u x y H2, Inv X pins σ H2 s2 -> ar H H2 -> RelV v vv -> RelV u uu -> Den X.K W.bad H2 x v -> Den X.K W.bad H2 y u -> R x y -> wpAny (model X.prog X.w) X.A (f vv uu) Q X.xe s2) :
  wpAny (model X.prog X.w) X.A (eval a X.env) (fun v s₁ => wpAny (model X.prog X.w) X.A (eval b X.env) (fun u s₂ => wpAny (model X.prog X.w) X.A (f v u) Q X.xe s₂) X.xe s₁) X.xe s := by
 refine thn (ha pins s σ H W ρ _ I r h) fun vv s1 ⟨v, H1, x, I1, rv, e1, hx, q1⟩ => ?_
 refine thn (hb pins s1 σ H1 W ρ _ I1 (r.same e1) q1) fun uu s2 ⟨u, H2, y, I2, ru, e2, hy, q2⟩ => ?_
 exact hf vv uu s2 v u x y H2 I2 (e1.trans e2) rv ru (hx.same e2) hy q2
theorem DP.up {pins : List (Addr × Obj)} {σ : St} {W : Own} {H H1 : Hp} {Q : D -> Prop} {u : Value} {s' : Shared} (e : ar H H1) (h : DP X pins σ W H1 Q u s') : DP X pins σ W H Q u s' := by
 obtain ⟨v, H', d, I, r, e1, hd, q⟩ := h
 exact ⟨v, H', d, I, r, e.trans e1, hd, q⟩
theorem ai {op : Operator} {r : RD2} (ho : OpD X (binaryOp op) r) (ha : PED X a ta) (hb : PED X b tb) : PED X (.BinOp a op b pos) (dOp r ta tb) := by
 intro pins s σ H W ρ Q I rr h
 refine wpAny_BinOp (rW ha hb I rr h fun vv uu s2 v u x y H2 I2 e rv ru hx hy q => ?_)
 exact thn (ho pins s2 σ H2 W x y v u vv uu Q I2 (rr.same e).tracked rv ru hx hy q) fun _ _ z => z.up e
theorem Aj {op : UnaryOp} {r : V -> Hp -> VK -> Prop} {rd : D -> (D -> Prop) -> Prop} (ho : UnR X (unaryOp op) r) (ha : PED X a ta)
  (k : ∀ P H d v Q, Den X.K P H d v -> rd d Q -> r v H fun v' H' => ar H H' /\ ∃ d', Den X.K P H' d' v' /\ Q d') : PED X (.UnaryOp op a pos) (fun ρ Q => ta ρ fun x => rd x Q) := by
 intro pins s σ H W ρ Q I rr h
 refine UnaryOp_ (thn (ha pins s σ H W ρ _ I rr h) fun vv s1 ⟨v, H1, x, I1, rv, e1, hx, q1⟩ => ?_)
 exact thn (ho pins s1 σ H1 v vv _ I1 rv (k _ H1 x v Q hx q1)) fun u s2 ⟨w', H2, I2, r2, e2, d, hd, q2⟩ => ⟨w', H2, d, I2, r2, e1.trans e2, hd, q2⟩
def mI (ta : DE) : DE := fun ρ Q => ta ρ fun x => ∃ i, x = .int i /\ Q (.int (-i))
theorem bM (ha : PED X a ta) : PED X (.UnaryOp .USub a pos) (mI ta) :=
 Aj (rd := fun x Q => ∃ i, x = .int i /\ Q (.int (-i))) za ha fun P H d v Q hd ⟨i, e, q⟩ => by
  subst e
  exact ⟨i, hd.int_, ar.refl H, _, Den.int _, q⟩
theorem OpD.of {f : Value -> Value -> Sem Value} {r : R2} {rd : RD2} (h : OpR X f r) (k : ∀ P H x y v u Q, Den X.K P H x v -> Den X.K P H y u -> rd x y Q -> r v u H fun v' H' => ar H H' /\ ∃ d', Den X.K P H' d' v' /\ Q d') : OpD X f rd := by
 intro pins s σ H W x y v u vv uu Q I _ rv ru hx hy q
 exact thn (h pins s σ H v u vv uu _ I rv ru (k _ H x y v u Q hx hy q)) fun _ s2 ⟨w', H2, I2, r2, e2, d, hd, q2⟩ => ⟨w', H2, d, I2, r2, e2, hd, q2⟩
def rdI (C : Int -> Int -> Prop) (g : Int -> Int -> D) : RD2 := fun x y Q => ∃ i j, x = .int i /\ y = .int j /\ C i j /\ Q (g i j)
def gE (g : Int -> Int -> D) : RD2 := fun x y Q => ∃ i j, x = .int i /\ y = .int j /\ Q (g i j)
theorem OpD.ofI {f : Value -> Value -> Sem Value} {C : Int -> Int -> Prop} {g : Int -> Int -> Int} (h : OpR X f (rI C fun i j => .int (g i j))) : OpD X f (rdI C fun i j => .int (g i j)) :=
 OpD.of h fun P H x y v u Q hx hy ⟨i, j, e1, e2, hc, q⟩ => by
  subst e1 e2
  exact ⟨i, j, hx.int_, hy.int_, hc, ar.refl H, _, Den.int _, q⟩
theorem OpD.ofI0 {f : Value -> Value -> Sem Value} {g : Int -> Int -> Int} (h : OpR X f (rI0 fun i j => .int (g i j))) : OpD X f (gE fun i j => .int (g i j)) :=
 OpD.of h fun P H x y v u Q hx hy ⟨i, j, e1, e2, q⟩ => by
  subst e1 e2
  exact ⟨i, j, hx.int_, hy.int_, ar.refl H, _, Den.int _, q⟩
theorem OpD.ofB0 {f : Value -> Value -> Sem Value} {g : Int -> Int -> Bool} (h : OpR X f (rI0 fun i j => .bl (g i j))) : OpD X f (gE fun i j => .bl (g i j)) :=
 OpD.of h fun P H x y v u Q hx hy ⟨i, j, e1, e2, q⟩ => by
  subst e1 e2
  exact ⟨i, j, hx.int_, hy.int_, ar.refl H, _, Den.bl _, q⟩
theorem zB : OpD X (binaryOp .Add) (gE fun i j => .int (i + j)) := OpD.ofI0 yY
theorem aR : OpD X (binaryOp .Sub) (gE fun i j => .int (i - j)) := OpD.ofI0 yL
theorem dm : OpD X (compareOp .Lt) (gE fun i j => .bl (decide (i < j))) := OpD.ofB0 Ay
theorem wU : OpD X (compareOp .LtE) (gE fun i j => .bl (decide (i <= j))) := OpD.ofB0 As
theorem jb : OpD X (compareOp .Gt) (gE fun i j => .bl (decide (j < i))) := OpD.ofB0 Al
theorem AD : OpD X (compareOp .GtE) (gE fun i j => .bl (decide (j <= i))) := OpD.ofB0 AG
def Bd (n : Nat) (x : Int) : Prop := x.natAbs < 2 ^ n
theorem Bd.mono {m n : Nat} {x : Int} (h : Bd m x) (l : m <= n) : Bd n x := Nat.lt_of_lt_of_le h (Nat.pow_le_pow_right (by decide) l)
theorem Bd.mul {m n : Nat} {x y : Int} (h : Bd m x) (h' : Bd n y) : Bd (m + n) (x * y) := by
 unfold Bd at *
 rw [Int.natAbs_mul, Nat.pow_add]
 exact Nat.mul_lt_mul'' h h'
theorem Bd.add {m : Nat} {x y : Int} (h : Bd m x) (h' : Bd m y) : Bd (m + 1) (x + y) := by
 unfold Bd at *
 rw [Nat.pow_succ]
 have := Int.natAbs_add_le x y
 omega
theorem Bd.sub {m : Nat} {x y : Int} (h : Bd m x) (h' : Bd m y) : Bd (m + 1) (x - y) := by
 unfold Bd at *
 rw [Nat.pow_succ]
 have := Int.natAbs_sub_le x y
 omega
theorem Bd.bits {n : Nat} {x : Int} (h : Bd n x) : Builtin.Int.intBits x <= n := by
 unfold Bd at h
 unfold Builtin.Int.intBits
 split
 ·exact Nat.zero_le _
 ·rename_i hz
  have hp : x.natAbs ≠ 0 := by
   intro e
   apply hz
   have : x = 0 := Int.natAbs_eq_zero.mp e
   simp [this]
  have := (Nat.log2_lt hp).mpr h
  omega
def CM (i j : Int) : Prop := Bd 64 i ∨ Bd 64 j ∨ (Bd 100000 i /\ Bd 100000 j)
theorem CM.ok {i j : Int} (h : CM i j) : IntMulOk i j := by
 rcases h with h | h | ⟨h, h'⟩
 ·exact .of_left h.bits
 ·exact .of_right h.bits
 ·exact .of_bits (Nat.le_trans h.bits (by decide)) (Nat.le_trans h'.bits (by decide))
theorem xt : OpR X (binaryOp .Mult) (rI CM fun i j => .int (i * j)) := opI fun _ _ _ _ _ _ _ hc q => mul_int q hc.ok
theorem aA : OpD X (binaryOp .Mult) (rdI CM fun i j => .int (i * j)) := OpD.ofI xt
def CD (_ : Int) (j : Int) : Prop := j ≠ 0 /\ Bd 8000 j
theorem CD.noPy {i j : Int} (h : CD i j) : Builtin.divisionGoesByPylong i j = false := by
 refine PyProof.noPylong_of_log2 ?_
 have hz : j.natAbs ≠ 0 := fun e => h.1 (Int.natAbs_eq_zero.mp e)
 have := (Nat.log2_lt hz).mpr h.2
 omega
theorem vO : OpR X (binaryOp .FloorDiv) (rI CD fun i j => .int (i.fdiv j)) := opI fun _ _ _ _ _ _ _ hc q => floordiv_int hc.1 q (.inl hc.noPy)
theorem bo : OpD X (binaryOp .FloorDiv) (rdI CD fun i j => .int (i.fdiv j)) := OpD.ofI vO
theorem aH : OpD X (binaryOp .Mod) (rdI (fun _ j => j ≠ 0) fun i j => .int (i.fmod j)) := OpD.ofI xJ
theorem eJ : OpD X (binaryOp .Pow) (rdI mH fun i j => .int (i ^ j.toNat)) := OpD.ofI zL
def dB (t : DE) : DT := fun ρ Q => t ρ fun x => ∃ k, x = .bl k /\ Q k
theorem jQ {op : CmpOp} {r : RD2} (ho : OpD X (compareOp op) r) (ha : PED X a ta) (hb : PED X b tb) (hm : behindInMarks op b = false := by first | exact p5 _ (by decide) (by decide) | rfl) : PED X (.Compare a [op] [b] pos) (dOp r ta tb) := by
 intro pins s σ H W ρ Q I rr h
 refine wpAny_Compare1 (rW ha hb I rr h fun vv uu s2 v u x y H2 I2 e rv ru hx hy q => ?_) hm
 exact thn (ho pins s2 σ H2 W x y v u vv uu Q I2 (rr.same e).tracked rv ru hx hy q) fun _ _ z => z.up e
theorem az {op : CmpOp} {r : RD2} (ho : OpD X (compareOp op) r) (ha : PED X a ta) (hb : PED X b tb) (hm : behindInMarks op b = false := by first | exact p5 _ (by decide) (by decide) | rfl) : PTD X (.Compare a [op] [b] pos) (dB (dOp r ta tb)) := by
 intro pins s σ H W ρ Q I rr h
 refine wpAny_isTrue_Compare1 (thn (ha pins s σ H W ρ _ I rr h) fun vv s1 ⟨v, H1, x, I1, rv, e1, hx, q1⟩ => thn (hb pins s1 σ H1 W ρ _ I1 (rr.same e1) q1) fun uu s2 ⟨u, H2, y, I2, ru, e2, hy, q2⟩ =>
  thn (ho pins s2 σ H2 W x y v u vv uu _ I2 ((rr.same e1).same e2).tracked rv ru (hx.same e2) hy q2) fun c s3 ⟨z, H3, d, I3, r3, e3, hd, k, ek, q3⟩ => ?_) hm
 subst ek
 have hz := hd.bl_
 subst hz
 cases r3
 exact wpAny_truthy_bool ⟨H3, I3, e1.trans (e2.trans e3), q3⟩
theorem eN {e : Expr} {t : DE} (h : PED X e t) (he : ∀ whole, isTrue e X.env whole = (do let v ← whole; standAt e.pos; holding [v] (truthy v)) := by intro _; rfl) : PTD X e (dB t) := by
 intro pins s σ H W ρ Q I rr hw
 refine isTrue_plain (thn (h pins s σ H W ρ _ I rr hw) fun vv s1 ⟨v, H1, x, I1, rv, e1, hx, k, ek, q⟩ => ?_) (he _)
 subst ek
 have hz := hx.bl_
 subst hz
 cases rv
 exact wpAny_truthy_bool ⟨H1, I1, e1, q⟩
variable {tA tB' : DT} {rest : List Expr}
def vm (t u : DT) : DT := fun ρ Q => t ρ fun c => if c = true then u ρ Q else Q false
def dOr (t u : DT) : DT := fun ρ Q => t ρ fun c => if c = true then Q true else u ρ Q
def vZ (t : DT) : DT := fun ρ Q => t ρ fun c => Q (!c)
theorem qI (ha : PTD X a tA) : PWD X (.BoolOp .And [a] pos) tA := by
 intro wh pins s σ H W ρ Q I rr h
 refine isTrue_and (thn (ha pins s σ H W ρ Q I rr h) fun c s1 e => ?_)
 cases c with
 | true => exact isTrue_and_nil e
 | false => exact e
theorem gX (ha : PTD X a tA) : PWD X (.BoolOp .Or [a] pos) tA := by
 intro wh pins s σ H W ρ Q I rr h
 refine isTrue_or (thn (ha pins s σ H W ρ Q I rr h) fun c s1 e => ?_)
 cases c with
 | false => exact isTrue_or_nil e
 | true => exact e
theorem pV (ha : PTD X a tA) (hb : PWD X (.BoolOp .And (b :: rest) pos) tB') : PWD X (.BoolOp .And (a :: b :: rest) pos) (vm tA tB') := by
 intro wh pins s σ H W ρ Q I rr h
 refine isTrue_and (thn (ha pins s σ H W ρ _ I rr h) fun c s1 ⟨H1, I1, e1, q1⟩ => ?_)
 cases c with
 | true => exact thn (hb wh pins s1 σ H1 W ρ Q I1 (rr.same e1) q1) fun _ _ ⟨H2, I2, e2, q2⟩ => ⟨H2, I2, e1.trans e2, q2⟩
 | false => exact ⟨H1, I1, e1, q1⟩
theorem cY (ha : PTD X a tA) (hb : PWD X (.BoolOp .Or (b :: rest) pos) tB') : PWD X (.BoolOp .Or (a :: b :: rest) pos) (dOr tA tB') := by
 intro wh pins s σ H W ρ Q I rr h
 refine isTrue_or (thn (ha pins s σ H W ρ _ I rr h) fun c s1 ⟨H1, I1, e1, q1⟩ => ?_)
 cases c with
 | true => exact ⟨H1, I1, e1, q1⟩
 | false => exact thn (hb wh pins s1 σ H1 W ρ Q I1 (rr.same e1) q1) fun _ _ ⟨H2, I2, e2, q2⟩ => ⟨H2, I2, e1.trans e2, q2⟩
theorem dW (ha : PTD X a tA) : PTD X (.UnaryOp .Not a pos) (vZ tA) := by
 intro pins s σ H W ρ Q I rr h
 exact isTrue_not (ha pins s σ H W ρ (fun c => Q (!c)) I rr h)
def rX (ta tb : DE) : DE := fun ρ Q => ta ρ fun x => ∃ c, x = .bl c /\ if c = true then tb ρ Q else Q (.bl false)
def wu (ta tb : DE) : DE := fun ρ Q => ta ρ fun x => ∃ c, x = .bl c /\ if c = true then Q (.bl true) else tb ρ Q
def sR (ta : DE) : DE := fun ρ Q => ta ρ fun x => ∃ c, x = .bl c /\ Q (.bl (!c))
theorem oM {op} {t : DE} (h : PED X a t) : PED X (.BoolOp op [a] pos) t := fun pins s σ H W ρ Q I rr hw => BoolOp_one (h pins s σ H W ρ Q I rr hw)
theorem tY (ha : PED X a ta) (hb : PED X (.BoolOp .And (b :: rest) pos) tb) : PED X (.BoolOp .And (a :: b :: rest) pos) (rX ta tb) := by
 intro pins s σ H W ρ Q I rr h
 refine BoolOp_and (thn (ha pins s σ H W ρ _ I rr h) fun vv s1 ⟨v, H1, x, I1, rv, e1, hx, c, ec, q1⟩ => ?_)
 subst ec
 have hz := hx.bl_
 subst hz
 cases rv
 refine wpAny_truthy_bool ?_
 cases c with
 | true => exact thn (hb pins s1 σ H1 W ρ Q I1 (rr.same e1) q1) fun _ _ z => z.up e1
 | false => exact ⟨.bl false, H1, _, I1, rfl, e1, Den.bl _, q1⟩
theorem AE (ha : PED X a ta) (hb : PED X (.BoolOp .Or (b :: rest) pos) tb) : PED X (.BoolOp .Or (a :: b :: rest) pos) (wu ta tb) := by
 intro pins s σ H W ρ Q I rr h
 refine BoolOp_or (thn (ha pins s σ H W ρ _ I rr h) fun vv s1 ⟨v, H1, x, I1, rv, e1, hx, c, ec, q1⟩ => ?_)
 subst ec
 have hz := hx.bl_
 subst hz
 cases rv
 refine wpAny_truthy_bool ?_
 cases c with
 | false => exact thn (hb pins s1 σ H1 W ρ Q I1 (rr.same e1) q1) fun _ _ z => z.up e1
 | true => exact ⟨.bl true, H1, _, I1, rfl, e1, Den.bl _, q1⟩
theorem yS (ha : PED X a ta) : PED X (.UnaryOp .Not a pos) (sR ta) := by
 intro pins s σ H W ρ Q I rr h
 refine UnaryOp_ (thn (ha pins s σ H W ρ _ I rr h) fun vv s1 ⟨v, H1, x, I1, rv, e1, hx, c, ec, q1⟩ => ?_)
 subst ec
 have hz := hx.bl_
 subst hz
 cases rv
 exact not_of (wpAny_truthy_bool ⟨.bl (!c), H1, _, I1, rfl, e1, Den.bl _, q1⟩)
def dIf (t : DT) (ta tb : DE) : DE := fun ρ Q => t ρ fun c => if c = true then ta ρ Q else tb ρ Q
theorem kO (hc : PTD X c tA) (ha : PED X a ta) (hb : PED X b tb) : PED X (.IfExp c a b pos) (dIf tA ta tb) := by
 intro pins s σ H W ρ Q I rr h
 refine wpAny_IfExp (thn (hc pins s σ H W ρ _ I rr h) fun d s1 ⟨H1, I1, e1, q1⟩ => ?_)
 cases d with
 | true => exact thn (ha pins s1 σ H1 W ρ Q I1 (rr.same e1) q1) fun _ _ z => z.up e1
 | false => exact thn (hb pins s1 σ H1 W ρ Q I1 (rr.same e1) q1) fun _ _ z => z.up e1
def tH : RD2 := fun x y Q => ∃ ds i d, (x = .tup ds ∨ ∃ t, x = .lst t ds) /\ y = .int i /\ atI ds i = some d /\ Q d
theorem oH {K : PySem.W.Frag} {P : Bool -> Addr -> Prop} {H : Hp} {ds : List D} {vs : List V} {i : Int} {d : D} (h : ah K P H ds vs) (e : atI ds i = some d) : ∃ v, atI vs i = some v /\ Den K P H d v := by
 unfold atI at e ⊢
 rw [h.len]
 cases q : ixN ds.length i with
 | none => rw [q] at e; cases e
 | some j =>
  rw [q] at e
  exact h.get e
theorem ak (ha : PED X a ta) (hb : PED X b tb) (hs : qX b := by intro _ _; rfl) : PED X (.Subscript a b pos) (dOp tH ta tb) := by
 intro pins s σ H W ρ Q I rr h
 refine Subscript_ (rW ha hb I rr h fun vv uu s2 v u x y H2 I2 e rv ru hx hy q => ?_)
 obtain ⟨ds, i, d, ex, ey, ei, q⟩ := q
 subst ey
 have hu := hy.int_
 subst hu
 have fin : ∀ (v' : V), Den X.K W.bad H2 d v' -> ar H2 H2 /\ ∃ d', Den X.K W.bad H2 d' v' /\ Q d' := fun v' hd => ⟨ar.refl _, d, hd, q⟩
 rcases ex with ex | ⟨tg, ex⟩
 ·subst ex
  obtain ⟨p, vs, ev, hq, hd⟩ := hx.tup_
  subst ev
  obtain ⟨v', e1, e2⟩ := oH hd ei
  exact thn (qg a b pins s2 σ H2 _ _ vv uu (fun v' H' => ar H2 H' /\ ∃ d', Den X.K W.bad H' d' v' /\ Q d') I2 rv ru ⟨p, vs, i, v', rfl, rfl, hq, e1, fin v' e2⟩ (hs _ _))
   fun _ s3 ⟨w', H3, I3, r3, e3, d', hd', q'⟩ => ⟨w', H3, d', I3, r3, e.trans e3, hd', q'⟩
 ·subst ex
  obtain ⟨p, vs, ev, _, hq, hd⟩ := hx.lst_
  subst ev
  obtain ⟨v', e1, e2⟩ := oH hd ei
  exact thn (xP a b pins s2 σ H2 _ _ vv uu (fun v' H' => ar H2 H' /\ ∃ d', Den X.K W.bad H' d' v' /\ Q d') I2 rv ru ⟨p, vs, i, v', rfl, rfl, hq, e1, fin v' e2⟩ (hs _ _))
   fun _ s3 ⟨w', H3, I3, r3, e3, d', hd', q'⟩ => ⟨w', H3, d', I3, r3, e.trans e3, hd', q'⟩
end
section
variable {X : Cx} {e : Expr} {es : List Expr} {te : DE} {t : DA} {pos : Pos}
def pM : DA := fun _ Q => Q []
def kb (ta : DE) (tr : DA) : DA := fun ρ Q => ta ρ fun x => tr ρ fun xs => Q (x :: xs)
theorem af : PAD X [] pM := fun _ _ _ _ H W ρ Q I _ h => Calls.spliced_nil ⟨[], H, [], I, .nil, ar.refl H, ah.nil, h⟩
theorem ae (ha : PED X e te) (hr : PAD X es t) (hs : starEach (e :: es) X.env = (false, eval e X.env) :: starEach es X.env := by rfl) : PAD X (e :: es) (kb te t) := by
 intro pos pins s σ H W ρ Q I rr h
 rw [hs]
 show wpAny _ _ (spliced ((false, eval e X.env) :: backTo pos (starEach es X.env))) _ _ s
 refine Calls.spliced_cons (thn (ha pins s σ H W ρ _ I rr h) fun u s1 ⟨v, H1, x, I1, r1, e1, hx, q1⟩ => ?_)
 exact thn (hr pos pins s1 σ H1 W ρ _ I1 (rr.same e1) q1) fun us s2 ⟨vs, H2, xs, I2, r2, e2, hxs, q2⟩ => ⟨v :: vs, H2, x :: xs, I2, .cons r1 r2, e1.trans e2, ah.cons (hx.same e2) hxs, q2⟩
theorem ar.upd {H : Hp} {p : Addr} {o : HO} (h : H p = none) (n : NT o := by exact True.intro) : ar H (upd H p o) := ⟨fun b u e _ => by rw [aw (aV e h)]; exact e, fun b ps e => ⟨#[], by rw [aw (aV e h), e]; simp⟩, dj.upd n (.inl h)⟩
def vQ (t : DA) : DE := fun ρ Q => t ρ fun ds => ds.length <= sizeLine /\ Q (.tup ds)
def sM (t : DA) : DE := fun ρ Q => t ρ fun ds => ds.length <= sizeLine /\ Q (.lst true ds)
theorem bg {x1} (h : PAD X es t) : PED X (.Tuple es x1 pos) (vQ t) := by
 intro pins s σ H W ρ Q I rr hq
 refine wpAny_Tuple_spliced (thn (h pos pins s σ H W ρ _ I rr hq) fun us s1 ⟨vs, H1, ds, I1, r, e1, hd, z, q⟩ => ?_)
 rw [<- hd.len] at z
 refine ⟨by rw [<- r.length]; exact z, ?_⟩
 have hf : H1 s1.heap.objs.size = none := I1.hok.fresh (Nat.le_refl _)
 refine ⟨.ref s1.heap.objs.size, L2.upd H1 s1.heap.objs.size (.tup vs), _, I1.laid (t' := s1.toks) (fun b u e => Heap.get?_push_of_some _ e) (Nat.le_refl _) ⟨z, us, r, ⟨_, Heap.get?_push_size _ rfl, rfl, _, rfl⟩⟩, rfl, e1.trans (ar.upd hf), Den.tup (SqT.of aD) (hd.same (ar.upd hf)), q⟩
theorem Inv.kfresh {pins : List (Addr × Obj)} {σ : St} {H : Hp} {s : Shared} (I : Inv X pins σ H s) : X.K.lookup s.heap.objs.size = none := by
 cases e : X.K.lookup s.heap.objs.size with
 | none => rfl
 | some o => exact absurd (Heap.lt_size (I.kIn _ _ e)) (Nat.lt_irrefl _)
theorem cU (h : PAD X es t) : PED X (.List es pos) (sM t) := by
 intro pins s σ H W ρ Q I rr hq
 refine wpAny_List_spliced (thn (h pos pins s σ H W ρ _ I rr hq) fun us s1 ⟨vs, H1, ds, I1, r, e1, hd, z, q⟩ => ?_)
 rw [<- hd.len] at z
 refine ⟨by rw [<- r.length]; exact z, ?_⟩
 have hf : H1 s1.heap.objs.size = none := I1.hok.fresh (Nat.le_refl _)
 exact ⟨.ref s1.heap.objs.size, L2.upd H1 s1.heap.objs.size (.lst vs), _, I1.laid (t' := s1.toks) (fun b u e => Heap.get?_push_of_some _ e) (Nat.le_refl _) ⟨z, us, 0, r, Heap.get?_push_size _ rfl⟩, rfl, e1.trans (ar.upd hf),
  Den.lst ((rr.same e1).fresh hf) (.new aD (Inv.kfresh I1)) (hd.same (ar.upd hf)), q⟩
end
abbrev DSp := List D -> (D -> Prop) -> (Value -> Prop) -> Prop
def aM (K : PySem.W.Frag) (sp : DSp) : Sp := fun vs H Q E => ∃ (P : Addr -> Prop) (ds : List D) (Qd : D -> Prop) (Ed : Value -> Prop), d6 K H /\ (∀ a, P a -> ∃ o, H a = some o) /\ ah K (fun t a => t = true ∨ P a) H ds vs /\ sp ds Qd Ed ∧
 (∀ d v H', ar H H' -> Den K (fun t a => P a ∨ (t = true /\ ∃ o, H a = some o)) H' d v -> Qd d -> Q v H') /\ ∀ c a H', ar H H' -> Ed c -> E c a H'
mutual
def aJ : D -> D
 | .tup ds => .tup (aW ds)
 | .lst _ ds => .lst false (aW ds)
 | .non => .non | .bl b => .bl b | .int i => .int i | .str x => .str x | .exc c => .exc c
def aW : List D -> List D
 | [] => []
 | d :: ds => aJ d :: aW ds
end
section
variable {K : PySem.W.Frag} {P : Bool -> Addr -> Prop} {P' : Addr -> Prop} {H : Hp}
mutual
theorem Den.aJ (h : ∀ t a, P' a -> P t a) : ∀ (d : D) (v : V), Den K P H d v -> Den K (fun t a => t = true ∨ P' a) H (PD.aJ d) v
 | .non, _, q => by simpa only [Den, PD.aJ] using q
 | .bl _, _, q => by simpa only [Den, PD.aJ] using q
 | .int _, _, q => by simpa only [Den, PD.aJ] using q
 | .str _, _, q => by simpa only [Den, PD.aJ] using q
 | .exc _, _, q => by simpa only [Den, PD.aJ] using q
 | .tup ds, _, q => by
  simp only [Den, PD.aJ] at q ⊢
  obtain ⟨a, vs, e, q1, q2⟩ := q
  exact ⟨a, vs, e, q1, ah.aJ h ds vs q2⟩
 | .lst t ds, _, q => by
  simp only [Den, PD.aJ] at q ⊢
  obtain ⟨a, vs, e, p, q1, q2⟩ := q
  exact ⟨a, vs, e, fun z => z.elim (fun z => by cases z) fun z => p (h t a z), .any q1.1, ah.aJ h ds vs q2⟩
theorem ah.aJ (h : ∀ t a, P' a -> P t a) : ∀ (ds : List D) (vs : List V), ah K P H ds vs -> ah K (fun t a => t = true ∨ P' a) H (PD.aW ds) vs
 | [], _, q => by simpa only [ah, PD.aW] using q
 | d :: ds, _, q => by
  simp only [ah, PD.aW] at q ⊢
  obtain ⟨v, r, e, h1, h2⟩ := q
  exact ⟨v, r, e, Den.aJ h d v h1, ah.aJ h ds r h2⟩
end
end
theorem Den.back {K : PySem.W.Frag} {W : Own} {H H' : Hp} {d : D} {v : V} (tr : ∀ t a, W.bad t a -> ∃ o, H a = some o) (h : Den K (fun t a => W.bad false a ∨ (t = true /\ ∃ o, H a = some o)) H' d v) : Den K W.bad H' d v :=
 h.fewer fun t a z => by
  cases t with
  | false => exact .inl z
  | true => exact .inr ⟨rfl, tr true a z⟩
section
variable {X : Cx} {CX : CXT} {k : Nat} {f : Addr} {fd : FuncData} {ps : List Str} {sp : DSp} {x : Str} {p pos : Pos} {e : Expr} {es : List Expr} {t : DA}
def nY (sp : DSp) (dds : List D) (t : DA) : DE := fun ρ Q => t ρ fun ds => sp (aW ds ++ dds) Q fun _ => False
def vx : D -> V
 | .non => .non | .bl b => .bl b | .int i => .int i | .str x => .str x | _ => .non
def sD : D -> Prop
 | .tup _ => False | .lst _ _ => False | .exc _ => False | _ => True
theorem ah.oD {K : PySem.W.Frag} {P : Bool -> Addr -> Prop} {H : Hp} : ∀ {dds : List D}, (∀ d ∈ dds, sD d) -> ah K P H dds (dds.map vx)
 | [], _ => ah.nil
 | d :: r, h => by
  refine ah.cons ?_ (ah.oD fun x hx => h x (List.mem_cons_of_mem _ hx))
  have := h d List.mem_cons_self
  cases d with
  | non => exact Den.non
  | bl b => exact Den.bl b
  | int i => exact Den.int i
  | str x => exact Den.str x
  | tup _ => exact this.elim
  | lst _ _ => exact this.elim
  | exc _ => exact this.elim
theorem Af {dds : List D} {dsv : List Value} (F : aI X.prog X.w X.K X.mg X.base CX k f fd ps (aM X.K sp)) (hr : bI k X.A) (hb : Binds X.K fd ps dsv) (hd : Vals (dds.map vx) dsv) (hs : ∀ d ∈ dds, sD d) (hx : Passes CX X E0)
  {pins : List (Addr × Obj)} {σ : St} {H : Hp} {s : Shared} {W : Own} {ρ : Ro} {us : List Value} {vs : List V} {ds : List D} {Q : D -> Prop} (I : Inv X pins σ H s) (rr : Rel X W H σ ρ) (r : Vals vs us) (hds : ah X.K W.bad H ds vs)
  (q : sp (aW ds ++ dds) Q fun _ => False) : wpAny (model X.prog X.w) X.A (call (.ref f) us) (DP X pins σ W H Q) X.xe s := by
 refine thn (zU (Q := fun v H' => ar H H' /\ ∃ d, Den X.K W.bad H' d v /\ Q d) F hr hb hd hx I r ⟨W.bad false, aW ds ++ dds, Q, fun _ => False, rr.tab, rr.tracked false, (ah.aJ (fun _ _ => Own.bad_up) ds vs hds).append (ah.oD hs), q, fun d v H' e h1 h2 => ⟨e, d, Den.back rr.tracked h1, h2⟩, fun _ _ _ _ z => z.elim⟩)
  fun u s2 ⟨v, H2, I2, r2, e2, d, h1, h2⟩ => ⟨v, H2, d, I2, r2, e2, h1, h2⟩
theorem vH {dds : List D} {dsv : List Value} (F : aI X.prog X.w X.K X.mg X.base CX k f fd ps (aM X.K sp)) (hr : bI k X.A) (hg : Gl X x) (hm : X.mg x = some (.ref f)) (hk : PySem.W.keepIn X.K (.ref f) = true) (hb : Binds X.K fd ps dsv) (hd : Vals (dds.map vx) dsv) (hs : ∀ d ∈ dds, sD d) (hx : Passes CX X E0)
  (ha : PAD X (e :: es) t) (hdb : (x == ("__debug__" : Str)) = false := by decide) (he : starEach (e :: es) X.env = (false, eval e X.env) :: starEach es X.env := by rfl) (hpl : (backTo pos (starEach es X.env)).any (·.1) = false := by rfl) :
  PED X (.Call (.Name x p) (e :: es) [] pos) (nY sp dds t) := by
 intro pins s σ H W ρ Q I rr h
 refine wpAny_Call_Name_kw (xu I hg hm ?_ hdb)
 refine PySem.W.callWith_K (h₀ := X.base) I.ok.mod.kin hk (thn (ha pos pins s σ H W ρ _ I rr h) fun us s1 ⟨vs, H1, ds, I1, r, e1, hds, q⟩ => ⟨I1.kIn, ?_⟩) he hpl
 exact thn (Af F hr hb hd hs hx I1 (rr.same e1) r hds q) fun _ _ z => z.up e1
def dCB (r : List D -> (D -> Prop) -> Prop) (t : DA) : DE := fun ρ Q => t ρ fun ds => r ds Q
def dq (X : Cx) (f : Value) (r : List D -> (D -> Prop) -> Prop) : Prop :=
 ∀ (pins : List (Addr × Obj)) (s : Shared) (σ : St) (H : Hp) (W : Own) (ds : List D) (vs : List V) (us : List Value) (Q : D -> Prop), Inv X pins σ H s -> (∀ t a, W.bad t a -> ∃ o, H a = some o) -> Vals vs us -> ah X.K W.bad H ds vs -> r ds Q →
  wpAny (model X.prog X.w) X.A (call f us) (DP X pins σ W H Q) X.xe s
theorem dq.of {f : Value} {r : List V -> Hp -> VK -> Prop} {rd : List D -> (D -> Prop) -> Prop} (h : kr X f r) (k : ∀ P H ds vs Q, (∀ t a, P t a -> ∃ o, H a = some o) -> ah X.K P H ds vs -> rd ds Q -> r vs H fun v' H' => ar H H' /\ ∃ d', Den X.K P H' d' v' /\ Q d') : dq X f rd := by
 intro pins s σ H W ds vs us Q I tr r hd q
 exact thn (h pins s σ H vs us _ I r (k _ H ds vs Q tr hd q)) fun _ s2 ⟨w', H2, I2, r2, e2, d, hd, q2⟩ => ⟨w', H2, d, I2, r2, e2, hd, q2⟩
variable {id T : String} {r : List D -> (D -> Prop) -> Prop}
theorem aE (hc : dq X (.builtin id) r) (hg : Gl X x) (hm : X.mg x = none) (hv : bootBuiltins x = some (.builtin id)) (ha : PAD X (e :: es) t) (hn : x ≠ "__name__" := by decide) (hdb : (x == ("__debug__" : Str)) = false := by decide)
  (hst : starEach (e :: es) X.env = (false, eval e X.env) :: starEach es X.env := by rfl) (hpl : (backTo pos (starEach es X.env)).any (·.1) = false := by rfl) :
  PED X (.Call (.Name x p) (e :: es) [] pos) (dCB r t) := by
 intro pins s σ H W ρ Q I rr h
 refine wpAny_Call_Name_kw (cS I hg hm hv ?_ hn hdb)
 exact PyProof.Rows.callWith_builtin1 (thn (ha pos pins s σ H W ρ _ I rr h) fun us s1 ⟨vs, H1, ds, I1, rv, e1, hd, q⟩ => thn (hc pins s1 σ H1 W ds vs us Q I1 (rr.same e1).tracked rv hd q) fun _ _ z => z.up e1) hst hpl
end
end PD
namespace PD
open PySem PySem.Spec PyProof.Rows L2 PX
mutual
def pyD : D -> PyData
 | .non => .none
 | .bl b => .bool b
 | .int i => .int i
 | .str x => .str x
 | .tup ds => .tuple (cG ds)
 | .lst _ ds => .list (cG ds)
 | .exc _ => .none
def cG : List D -> List PyData
 | [] => []
 | d :: ds => pyD d :: cG ds
end
mutual
def plD : D -> Bool
 | .tup ds => jd ds
 | .lst _ ds => jd ds
 | .exc _ => false
 | _ => true
def jd : List D -> Bool
 | [] => true
 | d :: ds => plD d && jd ds
end
def eqD (x y : D) : Bool := PyData.eqv (pyD x) (pyD y)
def okD (x : D) : Prop := plD x = true /\ SeqAt.shaped (pyD x) = true
section
variable {X : Cx} {pins : List (Addr × Obj)} {σ : St} {H : Hp} {s : Shared} {P : Bool -> Addr -> Prop}
mutual
theorem fC (I : Inv X pins σ H s) : ∀ (d : D) (v : V) (u : Value), Den X.K P H d v -> RelV v u -> plD d = true -> ∃ as, Reads s.heap u (pyD d) as
 | .non, _, _, h, r, _ => by have e := h.non_; subst e; cases r; rw [pyD]; exact ⟨_, .none⟩
 | .bl b, _, _, h, r, _ => by have e := h.bl_; subst e; cases r; rw [pyD]; exact ⟨_, .bool b⟩
 | .int i, _, _, h, r, _ => by have e := h.int_; subst e; obtain ⟨t, rfl⟩ := r; rw [pyD]; exact ⟨_, .int i t⟩
 | .str x, _, _, h, r, _ => by have e := h.str_; subst e; obtain ⟨t, rfl⟩ := r; rw [pyD]; exact ⟨_, .str x t⟩
 | .tup ds, _, _, h, r, pl => by
  rw [plD] at pl
  obtain ⟨a, vs, e, hq, hd⟩ := h.tup_
  subst e
  cases r
  obtain ⟨its, rv, ⟨o, h1, h2, n, h3⟩, _⟩ := I.tuple hq
  obtain ⟨as, q⟩ := jq I ds vs its hd rv pl
  rw [pyD]
  exact ⟨as, reads_tuple_at h1 h2 h3 (by simpa using q)⟩
 | .lst _ ds, _, _, h, r, pl => by
  rw [plD] at pl
  obtain ⟨a, vs, e, _, hq, hd⟩ := h.lst_
  subst e
  cases r
  obtain ⟨its, rv, ⟨o, n, h1, h2, _, h3⟩, _⟩ := I.list hq
  obtain ⟨as, q⟩ := jq I ds vs its hd rv pl
  rw [pyD]
  exact ⟨_, reads_list_at h1 h2 h3 (by simpa using q)⟩
 | .exc _, _, _, _, _, pl => by rw [plD] at pl; cases pl
theorem jq (I : Inv X pins σ H s) : ∀ (ds : List D) (vs : List V) (us : List Value), ah X.K P H ds vs -> Vals vs us -> jd ds = true -> ∃ as, ReadsAll s.heap us (cG ds) as
 | [], _, _, h, r, _ => by simp only [ah] at h; subst h; cases r; rw [cG]; exact ⟨_, .nil⟩
 | d :: ds, _, _, h, r, pl => by
  rw [jd, Bool.and_eq_true] at pl
  simp only [ah] at h
  obtain ⟨v, r', rfl, h1, h2⟩ := h
  cases r with
  | cons ra rb =>
   obtain ⟨as, q⟩ := fC I d v _ h1 ra pl.1
   obtain ⟨bs, q'⟩ := jq I ds _ _ h2 rb pl.2
   rw [cG]
   exact ⟨_, .cons q q'⟩
end
def wD : RD2 := fun x y Q => okD x /\ okD y /\ Q (.bl (eqD x y))
def vF : RD2 := fun x y Q => okD x /\ okD y /\ Q (.bl (!eqD x y))
theorem n6 (hu : X.A.units + 64 < cLine) : OpD X (compareOp .Eq) wD := by
 intro pins s σ H W x y v u vv uu Q I _ rv ru hx hy q
 obtain ⟨h1, h2, q⟩ := q
 obtain ⟨as, ra⟩ := fC I x v vv hx rv h1.1
 obtain ⟨bs, rb⟩ := fC I y u uu hy ru h2.1
 exact eq_dataH ra rb h1.2 h2.2 hu ⟨.bl _, H, _, I, rfl, ar.refl H, Den.bl _, q⟩
theorem j4 (hu : X.A.units + 64 < cLine) : OpD X (compareOp .NotEq) vF := by
 intro pins s σ H W x y v u vv uu Q I _ rv ru hx hy q
 obtain ⟨h1, h2, q⟩ := q
 obtain ⟨as, ra⟩ := fC I x v vv hx rv h1.1
 obtain ⟨bs, rb⟩ := fC I y u uu hy ru h2.1
 exact ne_dataH ra rb h1.2 h2.2 hu ⟨.bl _, H, _, I, rfl, ar.refl H, Den.bl _, q⟩
theorem bU : OpD X (compareOp .Eq) (gE fun i j => .bl (decide (i = j))) := OpD.of Ax fun P H x y v u Q hx hy ⟨i, j, e1, e2, q⟩ => by
 subst e1 e2
 have a := hx.int_
 have b := hy.int_
 subst a b
 refine ⟨rfl, ar.refl H, _, Den.bl _, ?_⟩
 rw [show decide (V.int i = V.int j) = decide (i = j) from by rw [ki]; rfl]
 exact q
theorem gG : OpD X (compareOp .NotEq) (gE fun i j => .bl (!decide (i = j))) := OpD.of Aq fun P H x y v u Q hx hy ⟨i, j, e1, e2, q⟩ => by
 subst e1 e2
 have a := hx.int_
 have b := hy.int_
 subst a b
 refine ⟨rfl, ar.refl H, _, Den.bl _, ?_⟩
 rw [show decide (V.int i = V.int j) = decide (i = j) from by rw [ki]; rfl]
 exact q
def eO : D -> Bool
 | .non => true
 | _ => false
theorem nP {K : PySem.W.Frag} {d : D} {v : V} (h : Den K P H d v) : decide (v = .non) = eO d := by
 cases d with
 | non => have := h.non_; subst this; rfl
 | bl b => have := h.bl_; subst this; rfl
 | int b => have := h.int_; subst this; rfl
 | str b => have := h.str_; subst this; rfl
 | tup ds => obtain ⟨a, vs, e, _⟩ := h.tup_; subst e; rfl
 | lst _ ds => obtain ⟨a, vs, e, _⟩ := h.lst_; subst e; rfl
 | exc c => obtain ⟨a, e, _⟩ := h.exc_; subst e; rfl
theorem uV : OpD X (compareOp .Is) (fun x y Q => y = .non /\ Q (.bl (eO x))) := OpD.of yV fun P H x y v u Q hx hy ⟨e, q⟩ => by
 subst e
 refine ⟨hy.non_, ar.refl H, _, Den.bl _, ?_⟩
 rw [nP hx]
 exact q
theorem ya : OpD X (compareOp .IsNot) (fun x y Q => y = .non /\ Q (.bl (!eO x))) := OpD.of xD fun P H x y v u Q hx hy ⟨e, q⟩ => by
 subst e
 refine ⟨hy.non_, ar.refl H, _, Den.bl _, ?_⟩
 rw [nP hx]
 exact q
end
section
variable {X : Cx}
theorem lL : dq X (.builtin "abs") (fun ds Q => ∃ i : Int, ds = [.int i] /\ Q (.int (i.natAbs : Int))) := dq.of wg fun P H ds vs Q _ hd ⟨i, e, q⟩ => by
 subst e
 obtain ⟨v, r, rfl, h1, h2⟩ : ∃ v r, vs = v :: r /\ Den X.K P H (.int i) v /\ ah X.K P H [] r := by simpa only [ah] using hd
 have e1 := h1.int_
 have e2 : r = [] := by simpa only [ah] using h2
 subst e1 e2
 refine ⟨i, rfl, ar.refl H, _, Den.int _, ?_⟩
 have : (if i < 0 then -i else i) = (i.natAbs : Int) := by split <;> omega
 rw [this]
 exact q
theorem nZ {K : PySem.W.Frag} {P : Bool -> Addr -> Prop} {H : Hp} {x y : D} {vs : List V} (h : ah K P H [x, y] vs) : ∃ v u, vs = [v, u] /\ Den K P H x v /\ Den K P H y u := by
 simp only [ah] at h
 obtain ⟨v, r, e, h1, u, r', e', h2, e''⟩ := h
 subst e' e'' e
 exact ⟨v, u, rfl, h1, h2⟩
theorem ko {K : PySem.W.Frag} {P : Bool -> Addr -> Prop} {H : Hp} {x : D} {vs : List V} (h : ah K P H [x] vs) : ∃ v, vs = [v] /\ Den K P H x v := by
 simp only [ah] at h
 obtain ⟨v, r, e, h1, e'⟩ := h
 subst e' e
 exact ⟨v, rfl, h1⟩
theorem zr (hc : X.calm = true) : dq X (.builtin "max") (fun ds Q => ∃ i j : Int, ds = [.int i, .int j] /\ Q (.int (max i j))) := dq.of (u0 hc) fun P H ds vs Q _ hd ⟨i, j, e, q⟩ => by
 subst e
 obtain ⟨v, u, rfl, h1, h2⟩ := nZ hd
 have e1 := h1.int_
 have e2 := h2.int_
 subst e1 e2
 refine ⟨i, j, rfl, ar.refl H, _, Den.int _, ?_⟩
 have : (if j > i then j else i) = max i j := by split <;> omega
 rw [this]
 exact q
theorem bq : dq X (.builtin "len") (fun ds Q => ∃ xs, ((∃ t, ds = [.lst t xs]) ∨ ds = [.tup xs]) /\ Q (.int (xs.length : Int))) := dq.of pT fun P H ds vs Q _ hd ⟨xs, e, q⟩ => by
 rcases e with ⟨tg, e⟩ | e
 ·subst e
  obtain ⟨v, rfl, h1⟩ := ko hd
  obtain ⟨a, ws, e, _, hq, hw⟩ := h1.lst_
  subst e
  refine ⟨a, ws, rfl, .inl hq, ar.refl H, _, Den.int _, ?_⟩
  rw [hw.len]
  exact q
 ·subst e
  obtain ⟨v, rfl, h1⟩ := ko hd
  obtain ⟨a, ws, e, hq, hw⟩ := h1.tup_
  subst e
  refine ⟨a, ws, rfl, .inr hq, ar.refl H, _, Den.int _, ?_⟩
  rw [hw.len]
  exact q
def tyD : D -> String
 | .non => "NoneType" | .bl _ => "bool" | .int _ => "int" | .str _ => "str" | .tup _ => "tuple" | .lst _ _ => "list" | .exc _ => "object"
def tyV : D -> Value
 | .exc c => .ref c
 | d => .type (tyD d)
variable {e : Expr} {te : DE} {p p' pos : Pos} {T : String} {x : Str}
theorem wC {pins : List (Addr × Obj)} {σ : St} {H : Hp} {s : Shared} {P : Bool -> Addr -> Prop} {A : Around} {E : Value -> Shared -> Prop} {Q : Value -> Shared -> Prop} {c : Value} {b : Bool} {d : D} {v : V} {u : Value} (I : Inv X pins σ H s) (h : Den X.K P H d v) (r : RelV v u)
  (e : PySem.W.kitOne X.K (tyV d) c = some b) (q : ∀ tk, Q (.bool b) { s with toks := tk }) : wpAny (model X.prog X.w) A (call (.builtin "isinstance") [u, c]) Q E s := by
 cases d with
 | non => have z := h.non_; subst z; cases r; exact PySem.W.kia_one PySem.W.kitx_none I.kIn True.intro e (fun z => nomatch z) q
 | bl y => have z := h.bl_; subst z; cases r; exact PySem.W.kia_one PySem.W.kitx_bool I.kIn True.intro e (fun z => nomatch z) q
 | int i => have z := h.int_; subst z; obtain ⟨t, rfl⟩ := r; exact PySem.W.kia_one PySem.W.kitx_int I.kIn True.intro e (fun z => nomatch z) q
 | str y => have z := h.str_; subst z; obtain ⟨t, rfl⟩ := r; exact PySem.W.kia_one PySem.W.kitx_str I.kIn True.intro e (fun z => nomatch z) q
 | tup ds =>
  obtain ⟨a, vs, z, hq, _⟩ := h.tup_
  subst z
  cases r
  obtain ⟨its, rv, ⟨o, h1, h2, n, h3⟩, _⟩ := I.tuple hq
  exact PySem.W.kia_one PySem.W.kitx_tuple I.kIn ⟨o, h1, h2⟩ e (fun z => nomatch z) q
 | lst _ ds =>
  obtain ⟨a, vs, z, _, hq, _⟩ := h.lst_
  subst z
  cases r
  obtain ⟨its, rv, ⟨o, n, h1, h2, _, h3⟩, _⟩ := I.list hq
  exact PySem.W.kia_one PySem.W.kitx_list I.kIn ⟨o, h1, h2⟩ e (fun z => nomatch z) q
 | exc c' =>
  obtain ⟨a, z, hq, k⟩ := h.exc_
  subst z
  cases r
  exact PySem.W.kia_one (vA k) I.kIn (I.hok a _ hq).1 e (fun z => nomatch z) q
theorem qp (K : PySem.W.Frag) (S T : String) : PySem.W.kitOne K (.type S) (.type T) = if S = T then some true else if PySem.W.kitMeta T = true then (fastBuiltinMro S).map (·.contains (.type T)) else none := by
 unfold PySem.W.kitOne PySem.W.kitCls PySem.W.subIn
 by_cases h : S = T
 ·subst h; simp
 ·have : (Value.type S == Value.type T) = false := by
   rw [beq_eq_false_iff_ne]
   intro e
   injection e with e
   exact h e
  rw [this, if_neg Bool.false_ne_true, if_neg h]
def isT (T : String) (d : D) : Bool := tyD d == T || (tyD d == "bool" && T == "int")
theorem kit_ans (K : PySem.W.Frag) (d : D) (hk : ∀ c, d = .exc c -> eQ K c) (hT : T = "int" ∨ T = "bool" ∨ T = "tuple" ∨ T = "list" ∨ T = "str") : PySem.W.kitOne K (tyV d) (.type T) = some (isT T d) := by
 by_cases hx : ∃ c, d = .exc c
 ·obtain ⟨c, rfl⟩ := hx
  show PySem.W.kitOne K (.ref c) (.type T) = _
  rw [(hk c rfl).not T hT]
  show _ = some ("object" == T || ("object" == "bool" && T == "int"))
  rcases hT with e | e | e | e | e <;> subst e <;> decide +kernel
 have hv : tyV d = .type (tyD d) := by cases d <;> first | rfl | exact absurd ⟨_, rfl⟩ hx
 rw [hv, qp]
 unfold isT
 have hS : tyD d = "NoneType" ∨ tyD d = "bool" ∨ tyD d = "int" ∨ tyD d = "str" ∨ tyD d = "tuple" ∨ tyD d = "list" := by cases d <;> first | exact absurd ⟨_, rfl⟩ hx | simp [tyD]
 generalize tyD d = S at hS ⊢
 rcases hT with e | e | e | e | e <;> subst e <;> rcases hS with e | e | e | e | e | e <;> subst e <;> decide +kernel
def dIs (T : String) (te : DE) : DE := fun ρ Q => te ρ fun d => Q (.bl (isT T d))
theorem dM (hg : Gl X "isinstance") (hm : X.mg "isinstance" = none) (hgT : Gl X x) (hmT : X.mg x = none) (hv : bootBuiltins x = some (.type T)) (hT : T = "int" ∨ T = "bool" ∨ T = "tuple" ∨ T = "list" ∨ T = "str") (he : PED X e te)
  (hn : x ≠ "__name__" := by decide) (hdb : (x == ("__debug__" : Str)) = false := by decide)
  (hst : starEach [e, .Name x p'] X.env = (false, eval e X.env) :: starEach [.Name x p'] X.env := by rfl) (hst2 : starEach [.Name x p'] X.env = (false, eval (.Name x p') X.env) :: starEach [] X.env := by rfl) (hst3 : (backTo pos (starEach [.Name x p'] X.env)).any (·.1) = false := by rfl) :
  PED X (.Call (.Name "isinstance" p) [e, .Name x p'] [] pos) (dIs T te) := by
 intro pins s σ H W ρ Q I rr h
 have hpa : PA X [e, .Name x p'] (hV (xc X te) (hV (tC (.ty T)) om)) := cD he.pe (cD (yv hgT hmT hv rfl hn hdb) gy hst2) hst
 refine wpAny_Call_Name_kw (cS I hg hm boot_isinstance ?_ (by decide) (by decide))
 refine PyProof.Rows.callWith_builtin1 (thn (hpa pos pins s σ H (fun vs H1 => ∃ v d, vs = [v, .ty T] /\ ar H H1 /\ Den X.K W.bad H1 d v /\ Q (.bl (isT T d))) I ⟨W, ρ, _, rr, h, fun v H1 d e1 hd q1 => ⟨v, d, rfl, e1, hd, q1⟩⟩) fun us s1 ⟨vs, H1, I1, rv, v, d, ev, e1, hd, q1⟩ => ?_) hst hst3
 subst ev
 cases rv with
 | cons r1 rr =>
  cases rr with
  | cons r2 rr =>
   cases rr
   cases (show _ = Value.type T from r2)
   exact wC I1 hd r1 (kit_ans X.K d (fun c z => by subst z; exact hd.exc_.choose_spec.2.2) hT) fun tk => ⟨.bl _, H1, _, I1.tok tk, rfl, e1, Den.bl _, q1⟩
end
section
variable {X : Cx} {pos : Pos}
theorem SPD.up {pins : List (Addr × Obj)} {W0 W : Own} {H0 H : Hp} {E : gc} {f : Flow} {s' : Shared} (g : Fwd W0 H0 W H) (h : SPD X pins W H E f s') : SPD X pins W0 H0 E f s' := by
 obtain ⟨W', σ', H', I, fw, q⟩ := h
 exact ⟨W', σ', H', I, g.trans fw, q⟩
variable {st : Stmt} {rest : List Stmt} {t u : DS} {e : Expr} {te : DE}
def sF : DS := fun E ρ => E.nx ρ
def sQ (t u : DS) : DS := fun E ρ => t { E with nx := u E } ρ
theorem aC : cy X [] sF := fun _ _ σ H W ρ E I r h => wpAny_execs_nil ⟨W, σ, H, I, Fwd.refl W H, ρ, r, h⟩
theorem aj (h1 : PSD X st t) (h2 : cy X rest u) : cy X (st :: rest) (sQ t u) := by
 intro pins s σ H W ρ E I r h
 refine wpAny_execs_cons (thn (h1 pins s σ H W ρ { E with nx := u E } I r h) fun f s1 ⟨W', σ', H', I', fw, q⟩ => ?_)
 cases f with
 | next =>
  obtain ⟨ρ', r', q⟩ := q
  exact thn (h2 pins s1 σ' H' W' ρ' E I' r' q) fun _ _ z => z.up fw
 | ret v => exact ⟨W', σ', H', I', fw, q⟩
 | brk => exact ⟨W', σ', H', I', fw, q⟩
 | cont => exact ⟨W', σ', H', I', fw, q⟩
theorem aq (h1 : PSD X st t) : cy X [st] t := by
 intro pins s σ H W ρ E I r h
 refine wpAny_execs_cons (thn (h1 pins s σ H W ρ E I r h) fun f s1 q => ?_)
 cases f with
 | next => exact wpAny_execs_nil q
 | ret v => exact q
 | brk => exact q
 | cont => exact q
def vn (te : DE) : DS := fun E ρ => te ρ E.rt
theorem av (he : PED X e te) : PSD X (.Return (some e) pos) (vn te) := by
 intro pins s σ H W ρ E I r h
 exact wpAny_Return_some (thn (he pins s σ H W ρ _ I r h) fun u s1 ⟨v, H1, d, I1, r1, e1, hd, q1⟩ => ⟨W, σ, H1, I1, Fwd.same e1, v, d, r1, hd, q1⟩)
def wV (te : DE) : DS := fun E ρ => te ρ fun _ => E.nx ρ
def wM (c : DT) (t u : DS) : DS := fun E ρ => c ρ fun b => if b = true then t E ρ else u E ρ
theorem aP {c : Expr} {a b : List Stmt} {tc : DT} (hc : PTD X c tc) (ha : cy X a t) (hb : cy X b u) : PSD X (.If c a b pos) (wM tc t u) := by
 intro pins s σ H W ρ E I r h
 refine wpAny_If (thn (hc pins s σ H W ρ _ I r h) fun d s1 ⟨H1, I1, e1, q1⟩ => ?_)
 cases d with
 | true => exact thn (ha pins s1 σ H1 W ρ E I1 (r.same e1) q1) fun _ _ z => z.up (Fwd.same e1)
 | false => exact thn (hb pins s1 σ H1 W ρ E I1 (r.same e1) q1) fun _ _ z => z.up (Fwd.same e1)
theorem Rel.put {X : Cx} {W : Own} {H : Hp} {σ : St} {ρ : Ro} {i : Nat} {d : D} {v : V} (r : Rel X W H σ ρ) (hi : i < σ.length) (hd : Den X.K W.bad H d v) : Rel X (W.drop i) H (σ.set i (some v)) (ρ.set i (some (.val d))) where
 val := fun j x h => by
  by_cases hj : j = i
  ·subst hj
   refine ⟨v, by simp [hi], ?_⟩
   by_cases hl : j < ρ.length
   ·rw [List.getElem?_set_self hl] at h
    cases h
    exact hd.fewer fun _ _ => Own.drop_bad
   ·rw [List.getElem?_eq_none (by simpa using hl)] at h
    cases h
  ·rw [List.getElem?_set_ne (Ne.symm hj)] at h
   obtain ⟨w, h1, h2⟩ := r.val j x h
   exact ⟨w, by rw [List.getElem?_set_ne (Ne.symm hj)]; exact h1, h2.fewer fun _ _ => Own.drop_bad⟩
 own := fun j x h => by
  by_cases hj : j = i
  ·subst hj
   by_cases hl : j < ρ.length
   ·rw [List.getElem?_set_self hl] at h; cases h
   ·rw [List.getElem?_eq_none (by simpa using hl)] at h; cases h
  ·rw [List.getElem?_set_ne (Ne.symm hj)] at h
   obtain ⟨a, vs, h1, h2, h3, h4⟩ := r.own j x h
   exact ⟨a, vs, by show (if j = i then none else W.O j) = _; rw [if_neg hj]; exact h1, by rw [List.getElem?_set_ne (Ne.symm hj)]; exact h2, h3, by rw [List.length_set]; exact h4.fewer (fun _ _ => Own.drop_bad) (Own.drop_sub hi)⟩
 inj := fun j k a h1 h2 => by
  have h1' : (if j = i then none else W.O j) = some a := h1
  have h2' : (if k = i then none else W.O k) = some a := h2
  by_cases e1 : j = i
  ·rw [if_pos e1] at h1'; cases h1'
  ·by_cases e2 : k = i
   ·rw [if_pos e2] at h2'; cases h2'
   ·rw [if_neg e1] at h1'
    rw [if_neg e2] at h2'
    exact r.inj j k a h1' h2'
 kn := fun j a h1 => by
  have h1' : (if j = i then none else W.O j) = some a := h1
  by_cases e1 : j = i
  ·rw [if_pos e1] at h1'; cases h1'
  ·rw [if_neg e1] at h1'
   exact r.kn j a h1'
 ke := fun j a h1 => by
  have h1' : (if j = i then none else W.O j) = some a := h1
  by_cases e1 : j = i
  ·rw [if_pos e1] at h1'; cases h1'
  ·rw [if_neg e1] at h1'
   exact r.ke j a h1'
 bt := r.bt
 st := r.st
 ent := r.ent
 tab := r.tab
theorem Fwd.drop (W : Own) (H : Hp) (i : Nat) : Fwd W H (W.drop i) H := ⟨rfl, rfl, fun _ _ _ h _ => h, fun j a h => by
 have h' : (if j = i then none else W.O j) = some a := h
 by_cases e1 : j = i
 ·rw [if_pos e1] at h'; cases h'
 ·rw [if_neg e1] at h'; exact .inl ⟨j, h'⟩, fun _ ps h => ⟨#[], by rw [h]; simp⟩, id⟩
theorem Inv.ilt {pins : List (Addr × Obj)} {σ : St} {H : Hp} {s : Shared} {i : Nat} {x : Str} (I : Inv X pins σ H s) (hi : X.N[i]? = some x) : i < σ.length := by
 rw [I.len]
 exact (List.getElem?_eq_some_iff.mp hi).1
def sZ (i : Nat) (te : DE) : DS := fun E ρ => te ρ fun d => E.nx (ρ.set i (some (.val d)))
theorem aG {x : Str} {pos' : Pos} (i : Nat) (hN : X.N.Nodup) (he : PED X e te) (hi : X.N[i]? = some x := by rfl) (hx : Loc X.env.scope x := by first | exact Or.inl rfl | exact Or.inr rfl) (hs : swapsWith e (some (.Name x pos')) pos.line X.env = pure false := by rfl)
  (hf : X.fn x = true ∨ X.env.scope.names.lookup x = some .local := by first | exact .inl rfl | exact .inr rfl | assumption) : PSD X (.Assign [.Name x pos'] e pos) (sZ i te) := by
 intro pins s σ H W ρ E I r h
 refine wpAny_Assign_Name (thn (he pins s σ H W ρ _ I r h) fun u s1 ⟨v, H1, d, I1, r1, e1, hd, q1⟩ => ?_) hs
 exact eZ I1 hN hi hx r1 (fun s2 I2 => ⟨W.drop i, _, H1, I2, (Fwd.same e1).trans (Fwd.drop W H1 i), _, (r.same e1).put (Inv.ilt I1 hi) hd, q1⟩) hf
theorem PSD.of {ts : TS} {t : DS} (h : PS X st ts) (k : ∀ σ H W ρ E, Rel X W H σ ρ -> σ.length = X.N.length -> t E ρ -> ts ⟨(fun σ' H' => ∃ W' ρ', Fwd W H W' H' /\ Rel X W' H' σ' ρ' /\ E.nx ρ'), (fun v H' => ∃ W' d, Fwd W H W' H' /\ Den X.K W'.bad H' d v /\ E.rt d),
   (fun σ' H' => ∃ W' ρ', Fwd W H W' H' /\ Rel X W' H' σ' ρ' /\ E.bk ρ'), (fun σ' H' => ∃ W' ρ', Fwd W H W' H' /\ Rel X W' H' σ' ρ' /\ E.ct ρ')⟩ σ H) : PSD X st t := by
 intro pins s σ H W ρ E I r ht
 refine thn (h pins s σ H _ I (k σ H W ρ E r I.len ht)) fun f s1 q => ?_
 cases f with
 | next => obtain ⟨σ', H', I', W', ρ', fw, r', q⟩ := q; exact ⟨W', σ', H', I', fw, ρ', r', q⟩
 | brk => obtain ⟨σ', H', I', W', ρ', fw, r', q⟩ := q; exact ⟨W', σ', H', I', fw, ρ', r', q⟩
 | cont => obtain ⟨σ', H', I', W', ρ', fw, r', q⟩ := q; exact ⟨W', σ', H', I', fw, ρ', r', q⟩
 | ret u => obtain ⟨v, σ', H', I', rv, W', d, fw, hd, q⟩ := q; exact ⟨W', σ', H', I', fw, v, d, rv, hd, q⟩
def yU (c : DT) (tb : DS) : DS := fun E ρ => ∃ W : Nat -> Ro -> Prop, (∃ m, W m ρ) /\ ∀ m ρ, W m ρ -> c ρ fun b => if b = true then tb { E with nx := fun ρ' => ∃ m', m' < m /\ W m' ρ', ct := fun ρ' => ∃ m', m' < m /\ W m' ρ', bk := E.nx } ρ else E.nx ρ
theorem kQ {c : Expr} {body : List Stmt} {tc : DT} {tb : DS} (hp : PassesOwn (model X.prog X.w) X.A X.env X.xe) (hc : PTD X c tc) (hb : cy X body tb) : PSD X (.While c body [] pos) (yU tc tb) := by
 intro pins s σ H W ρ E I r h
 obtain ⟨Wd, ⟨m0, w0⟩, turn⟩ := h
 refine wpAny_While (codeAny_whileLoop (fun n s' => ∃ W' σ' H' ρ', Inv X pins σ' H' s' /\ Fwd W H W' H' /\ Rel X W' H' σ' ρ' /\ Wd n ρ') ?_ m0 ⟨W, σ, H, ρ, I, Fwd.refl W H, r, w0⟩)
 rintro n s1 ⟨W1, σ1, H1, ρ1, I1, fw1, r1, w1⟩
 refine wpAny_passesOwn hp (thn (hc pins s1 σ1 H1 W1 ρ1 _ I1 r1 (turn n ρ1 w1)) fun b s2 ⟨H2, I2, e2, q2⟩ => ?_)
 have fw2 := fw1.trans (Fwd.same (W := W1) e2)
 cases b with
 | true =>
  rw [if_pos rfl] at q2
  rw [if_pos rfl]
  refine wpAny_passesOwn hp (thn (hb pins s2 σ1 H2 W1 ρ1 _ I2 (r1.same e2) q2) fun f s3 q3 => ?_)
  obtain ⟨W3, σ3, H3, I3, fw3, q3⟩ := q3
  cases f with
  | next =>
   obtain ⟨ρ3, r3, m', hm, w3⟩ := q3
   exact ⟨m', hm, W3, σ3, H3, ρ3, I3, fw2.trans fw3, r3, w3⟩
  | cont =>
   obtain ⟨ρ3, r3, m', hm, w3⟩ := q3
   exact ⟨m', hm, W3, σ3, H3, ρ3, I3, fw2.trans fw3, r3, w3⟩
  | brk => exact ⟨W3, σ3, H3, I3, fw2.trans fw3, q3⟩
  | ret v => exact ⟨W3, σ3, H3, I3, fw2.trans fw3, q3⟩
 | false =>
  rw [if_neg Bool.false_ne_true] at q2
  rw [if_neg Bool.false_ne_true]
  exact wpAny_execs_nil ⟨W1, σ1, H2, I2, fw2, ρ1, r1.same e2, q2⟩
end
section
variable {X : Cx} {pos : Pos}
theorem yN {X : Cx} {W W' : Own} {H H' : Hp} {σ : St} {ρ : Ro} (r : Rel X W H σ ρ) (f : Fwd W H W' H') (a : Addr) (φ : Heap -> Prop) (q : H a = some (.ext φ)) : H' a = some (.ext φ) :=
 f.keep a _ (fun i z => by obtain ⟨_, _, o, q', m⟩ := r.kn i a z; rw [q] at q'; cases q'; exact m) q
theorem yO {X : Cx} {W W' : Own} {H H' : Hp} {σ : St} {ρ : Ro} (r : Rel X W H σ ρ) (f : Fwd W H W' H') (a : Addr) (vs : List V) (q : SqT X.K H a vs) : SqT X.K H' a vs := by
 have noT : ∀ a xs, (H a = some (.tup xs) ∨ ∃ o, H a = some (.frz o (.tup xs))) -> ∀ i, W.O i ≠ some a := fun a xs z i e => by
  obtain ⟨_, _, o', q, m⟩ := r.kn i a e
  rcases z with z | ⟨o, z⟩
  ·rw [q] at z; cases z; exact m
  ·rw [q] at z; cases z; exact m
 rcases q with q | q
 ·rcases q with q' | ⟨o, q'⟩
  ·exact .inl (.inl (f.keep a _ (noT a vs (.inl q')) q'))
  ·exact .inl (.inr ⟨o, f.keep a _ (noT a vs (.inr ⟨o, q'⟩)) q'⟩)
 ·exact .inr q
theorem y7 {X : Cx} {W W' : Own} {H H' : Hp} {σ' : St} {ρ' : Ro} (r' : Rel X W' H' σ' ρ') (f : Fwd W H W' H') (t : Bool) (a : Addr) (vs : List V) (p : ¬ W.bad t a) (q : SqG X.K H t a vs) : ¬ W'.bad t a /\ SqG X.K H' t a vs := by
 have no : ∀ i, W.O i ≠ some a := fun i e => p (.inr (.inl ⟨i, e⟩))
 refine ⟨fun b => ?_, ?_, fun z => ⟨f.keep a _ no (q.2 z).1, (q.2 z).2⟩⟩
 ·rcases b with b | ⟨i, b⟩ | ⟨e, b⟩
  ·rw [f.B] at b; exact p (.inl b)
  ·rcases f.new i a b with ⟨j, z⟩ | z
   ·exact no j z
   ·rcases q.1 with (q | ⟨o, q⟩) | ⟨o, its, n, q, _⟩
    ·rw [z] at q; cases q
    ·rw [z] at q; cases q
    ·rw [(r'.kn i a b).1] at q; cases q
  ·rw [f.S] at b; exact p (.inr (.inr ⟨e, b⟩))
 ·rcases q.1 with (q | ⟨o, q⟩) | q
  ·exact .inl (.inl (f.keep a _ no q))
  ·exact .inl (.inr ⟨o, f.keep a _ no q⟩)
  ·exact .inr q
theorem Den.fwd {X : Cx} {W W' : Own} {H H' : Hp} {σ σ' : St} {ρ ρ' : Ro} {d : D} {v : V} (r : Rel X W H σ ρ) (r' : Rel X W' H' σ' ρ') (f : Fwd W H W' H') (h : Den X.K W.bad H d v) : Den X.K W'.bad H' d v :=
 Den.map (yO r f) (y7 r' f) (yN r f) d v h
abbrev DG := D -> Ro -> (Ro -> Prop) -> Prop
def PGD (X : Cx) (target : Expr) (g : DG) : Prop :=
 ∀ (pins : List (Addr × Obj)) (s : Shared) (σ : St) (H : Hp) (W : Own) (ρ : Ro) (d : D) (v : V) (u : Value) (Q : Ro -> Prop), Inv X pins σ H s -> Rel X W H σ ρ -> RelV v u -> Den X.K W.bad H d v -> g d ρ Q →
  wpAny (model X.prog X.w) X.A (assign target X.env u) (fun _ s' => ∃ W' σ' H' ρ', Inv X pins σ' H' s' /\ Fwd W H W' H' /\ Rel X W' H' σ' ρ' /\ Q ρ') X.xe s
abbrev DGs := List D -> Ro -> (Ro -> Prop) -> Prop
def mq (X : Cx) (ts : List Expr) (t : DGs) : Prop :=
 ∀ (pins : List (Addr × Obj)) (s : Shared) (σ : St) (H : Hp) (W : Own) (ρ : Ro) (ds : List D) (vs : List V) (us : List Value) (Q : Ro -> Prop), Inv X pins σ H s -> Rel X W H σ ρ -> Vals vs us -> ah X.K W.bad H ds vs -> t ds ρ Q →
  wpAny (model X.prog X.w) X.A (assignInOrder ((assignEach ts X.env).map (·.2)) us) (fun _ s' => ∃ W' σ' H' ρ', Inv X pins σ' H' s' /\ Fwd W H W' H' /\ Rel X W' H' σ' ρ' /\ Q ρ') X.xe s
theorem ah.fwd {X : Cx} {W W' : Own} {H H' : Hp} {σ σ' : St} {ρ ρ' : Ro} (r : Rel X W H σ ρ) (r' : Rel X W' H' σ' ρ') (f : Fwd W H W' H') : ∀ {ds : List D} {vs : List V}, ah X.K W.bad H ds vs -> ah X.K W'.bad H' ds vs
 | [], _, h => by simpa only [ah] using h
 | d :: ds, _, h => by
  simp only [ah] at h ⊢
  obtain ⟨v, q, e, h1, h2⟩ := h
  exact ⟨v, q, e, Den.fwd r r' f h1, ah.fwd r r' f h2⟩
def iO (i : Nat) : DG := fun d ρ Q => Q (ρ.set i (some (.val d)))
theorem bz {x : Str} (i : Nat) (hN : X.N.Nodup) (hi : X.N[i]? = some x := by rfl) (hx : Loc X.env.scope x := by first | exact Or.inl rfl | exact Or.inr rfl)
  (hf : X.fn x = true ∨ X.env.scope.names.lookup x = some .local := by first | exact .inl rfl | exact .inr rfl | assumption) : PGD X (.Name x pos) (iO i) := by
 intro pins s σ H W ρ d v u Q I r rv hd h
 exact wpAny_assign_Name (eZ I hN hi hx rv (fun s' I' => ⟨W.drop i, _, H, _, I', Fwd.drop W H i, r.put (Inv.ilt I hi) hd, h⟩) hf)
def gg : DGs := fun ds ρ Q => ds = [] /\ Q ρ
def bf (g : DG) (u : DGs) : DGs := fun ds ρ Q => ∃ d r, ds = d :: r /\ g d ρ fun ρ' => u r ρ' Q
theorem xS : mq X [] gg := by
 intro pins s σ H W ρ ds vs us Q I r rv hd h
 obtain ⟨e, h⟩ := h
 subst e
 simp only [ah] at hd
 subst hd
 cases rv
 exact assignInOrder_nil ⟨W, σ, H, ρ, I, Fwd.refl W H, r, h⟩
theorem wA {e : Expr} {es : List Expr} {g : DG} {u : DGs} (h1 : PGD X e g) (h2 : mq X es u) (hs : (assignEach (e :: es) X.env).map (·.2) = assign e X.env :: (assignEach es X.env).map (·.2) := by rfl) : mq X (e :: es) (bf g u) := by
 intro pins s σ H W ρ ds vs us Q I r rv hd h
 obtain ⟨d, dr, e1, h⟩ := h
 subst e1
 simp only [ah] at hd
 obtain ⟨v, vr, e2, hd1, hd2⟩ := hd
 subst e2
 cases rv with
 | cons ra rb =>
  rw [hs]
  refine assignInOrder_cons (thn (h1 pins s σ H W ρ d v _ _ I r ra hd1 h) fun _ s1 ⟨W1, σ1, H1, ρ1, I1, f1, r1, q1⟩ => ?_)
  exact thn (h2 pins s1 σ1 H1 W1 ρ1 dr vr _ Q I1 r1 rb (ah.fwd r r1 f1 hd2) q1) fun _ s2 ⟨W2, σ2, H2, ρ2, I2, f2, r2, q2⟩ => ⟨W2, σ2, H2, ρ2, I2, f1.trans f2, r2, q2⟩
theorem qo {h h' : Heap} {it l : Addr} {items : Array Value} (hl : h.IsList l items) (hs : Heap.SameBut it h h') (hne : l ≠ it) : h'.IsList l items := by
 obtain ⟨o, ho, r⟩ := hl
 exact ⟨o, (hs.2 l hne).trans ho, r⟩
theorem m6 {prog : Program} {w : World} {A : Around} {E : Value -> Shared -> Prop} {it l : Addr} {items : Array Value} (hne : l ≠ it) : ∀ (n i : Nat) (s : Shared) (Q : List Value -> Shared -> Prop), s.heap.IsListIter it l i -> s.heap.IsList l items -> i + n <= items.size →
  (∀ h', h'.IsListIter it l (i + n) -> Heap.SameBut it s.heap h' -> Q ((items.toList.drop i).take n) { s with heap := h' }) -> wpAny (model prog w) A (draw (.ref it) n) Q E s
 | 0, i, s, Q, hit, _, _, hQ => by
  show wpAny _ _ (pure []) Q E s
  exact wpAny_pure (by simpa using hQ s.heap hit (Heap.SameBut.refl ..))
 | n + 1, i, s, Q, hit, hl, hle, hQ => by
  have hlt : i < items.size := by omega
  show wpAny _ _ (pyNext (.ref it) >>= _) Q E s
  refine wpAny_bind (wpAny_pyNext_list_item hit hl (x := items[i]) (by simp [hlt]) fun h₁ hit₁ hs₁ => ?_)
  refine wpAny_bind (wpAny_holding (m6 hne n (i + 1) _ _ hit₁ (qo hl hs₁ hne) (by omega) fun h₂ hit₂ hs₂ => wpAny_pure ?_))
  have hd : items.toList.drop i = items[i] :: items.toList.drop (i + 1) := by simp [List.drop_eq_getElem_cons, hlt]
  have := hQ h₂ (by rw [show i + (n + 1) = i + 1 + n by omega]; exact hit₂) (hs₁.trans hs₂)
  rw [hd, List.take_succ_cons] at this
  exact this
theorem kW {prog : Program} {w : World} {A : Around} {E : Value -> Shared -> Prop} {s : Shared} {l : Addr} {items : Array Value} {Q : List Value -> Shared -> Prop} (hh : A.handled = none) (hl : s.heap.IsList l items)
  (hQ : ∀ h', Heap.ExtBut s.heap.objs.size s.heap h' -> Q items.toList { s with heap := h' }) : wpAny (model prog w) A (unpackItems (.ref l) items.size none) Q E s := by
 have hlt : l ≠ s.heap.objs.size := by obtain ⟨o, ho, _⟩ := hl; exact Nat.ne_of_lt (Heap.lt_size ho)
 unfold unpackItems
 refine wpAny_bind ?_
 ·unfold notIterableAtAll
  refine wpAny_bind (wpAny_specialOf hl.typeIs F.slot_list_iter.lookup ?_)
  refine wpAny_pure ?_
  simp only [Bool.false_eq_true, if_false]
  refine wpAny_bind (wpAny_holding (wpAny_pyIter_list hl ?_))
  have hl0 : (s.heap.push { cls := .type "list_iterator", data := .fields #[.ref l, rawInt 0] }).IsList l items := by
   obtain ⟨o, ho, r⟩ := hl
   exact ⟨o, Heap.get?_push_of_some _ ho, r⟩
  refine wpAny_bind (wpAny_holding (m6 hlt items.size 0 _ _ ⟨_, Heap.get?_push_size _ rfl, rfl, rfl⟩ hl0 (by omega) fun h₁ hit₁ hs₁ => ?_))
  have hall : List.take items.size (List.drop 0 items.toList) = items.toList := by
   rw [List.drop_zero]; exact List.take_of_length_le (by simp)
  rw [hall]
  rw [if_neg (by simp)]
  have hl₁ : h₁.IsList l items := qo hl0 hs₁ hlt
  refine wpAny_bind (wpAny_holding (wpAny_pyNext_list_end hh hit₁ hl₁ (by simp) fun h₂ he₂ => ?_))
  simp only [Option.isSome_none, Bool.false_eq_true, if_false]
  refine wpAny_pure (hQ h₂ fun b o hb e => he₂ b o hb (hs₁.extBut b o hb (Heap.get?_push_of_some _ e)))
def d5 (n : Nat) (t : DGs) : DG := fun d ρ Q => ∃ ds, (d = .tup ds ∨ ∃ t, d = .lst t ds) /\ ds.length = n /\ t ds ρ Q
theorem zR {es : List Expr} {k : Nat} {t : DGs} {n : Nat} (hc : X.calm = true) (h : mq X es t) (hn : (assignEach es X.env).length = n := by rfl) (hst : (assignEach es X.env).findIdx? (·.1) = none := by rfl) : PGD X (.Tuple es k pos) (d5 n t) := by
 intro pins s σ H W ρ d v u Q I r rv hd hw
 obtain ⟨ds, ed, hl, hw⟩ := hw
 rcases ed with ed | ⟨tg, ed⟩
 ·subst ed
  obtain ⟨a, vs, e1, hq, hds⟩ := hd.tup_
  subst e1
  cases rv
  obtain ⟨its, rvs, ht, hz⟩ := I.tuple hq
  refine assign_Tuple_tuple (I.ok.hd hc) ht (by simp [hn, <- hl, <- rvs.length, hds.len]) hst fun h' hx => ?_
  have I1 : Inv X pins σ H { s with heap := h' } := I.kept (t' := s.toks) fun b o e => hx b o (Nat.ne_of_lt (Heap.lt_size e)) e
  exact h pins _ σ H W ρ ds vs _ Q I1 r (by simpa using rvs) hds hw
 ·subst ed
  obtain ⟨a, vs, e1, _, hq, hds⟩ := hd.lst_
  subst e1
  cases rv
  obtain ⟨its, rvs, ht, hz⟩ := I.list hq
  rw [assign_Tuple]
  refine wpAny_bind (wpAny_standAt ?_)
  unfold unpack
  rw [hst, show (assignEach es X.env).length = its.toArray.size by simp [hn, <- hl, <- rvs.length, hds.len]]
  refine wpAny_bind (wpAny_holding (kW (I.ok.hd hc) ht.isList fun h' hx => ?_))
  have I1 : Inv X pins σ H { s with heap := h' } := I.kept (t' := s.toks) fun b o e => hx b o (Nat.ne_of_lt (Heap.lt_size e)) e
  exact h pins _ σ H W ρ ds vs _ Q I1 r (by simpa using rvs) hds hw
def zu (te : DE) (g : DG) : DS := fun E ρ => te ρ fun d => g d ρ E.nx
def YD (K : PySem.W.Frag) (W : Own) (H : Hp) (J : It) (ds : List D) : Prop := ∀ (P' : Bool -> Addr -> Prop) (H' : Hp), (∀ a vs, SqT K H a vs -> SqT K H' a vs) -> (∀ t a vs, ¬ W.bad t a -> SqG K H t a vs -> ¬ P' t a /\ SqG K H' t a vs) -> (∀ a φ, H a = some (.ext φ) -> H' a = some (.ext φ)) -> ∀ i, (i < ds.length -> J.go i H') /\ (∀ x H3, J.yld i H' x H3 -> i < ds.length -> ar H' H3 /\ ∃ d, ds[i]? = some d /\ Den K P' H3 d x) /\ (ds.length <= i -> J.stop i H')
def PID (X : Cx) (tg iter : Expr) (wi : DA) : Prop :=
 ∀ (pins : List (Addr × Obj)) (s : Shared) (σ : St) (H : Hp) (W : Own) (ρ : Ro) (R : List D -> Prop), Inv X pins σ H s -> Rel X W H σ ρ -> wi ρ R →
  wpAny (model X.prog X.w) X.A (eval iter X.env) (fun v s1 => wpAny (model X.prog X.w) X.A (pyIter v) (fun itv s2 => ∃ (it : Addr) (fp : List Addr) (tn : Nat -> Heap -> Prop) (J : It) (H' : Hp) (ds : List D), itv = .ref it /\ Inv X pins σ H' s2 /\ ar H H' ∧
   Turn X.prog X.w X.K tg J fp it tn /\ tn 0 s2.heap /\ (∀ b ∈ fp, dF X pins H' b) /\ YD X.K W H' J ds /\ R ds) X.xe s1) X.xe s
theorem PID.of {tg iter : Expr} {wi : TI} {wd : DA} (h : PI X tg iter wi) (k : ∀ σ H W ρ R, Rel X W H σ ρ -> wd ρ R -> wi σ H fun J H' => ar H H' /\ ∃ ds, YD X.K W H' J ds /\ R ds) : PID X tg iter wd := by
 intro pins s σ H W ρ R I r hw
 refine thn (h pins s σ H _ I (k σ H W ρ R r hw)) fun v s1 h1 => thn h1 fun itv s2 h2 => ?_
 obtain ⟨it, fp, tn, J, H', e, I2, T, st, f2, e2, ds, y, q⟩ := h2
 exact ⟨it, fp, tn, J, H', ds, e, I2, e2, T, st, f2, y, q⟩
def tm (ti : DE) : DA := fun ρ R => ti ρ fun d => ∃ t ds, d = .lst t ds /\ R ds
theorem bu {tg iter : Expr} {ti : DE} (h : PED X iter ti) : PID X tg iter (tm ti) := by
 refine PID.of (yt h.pe) fun σ H W ρ R r hw => ⟨W, ρ, _, r, hw, fun v H1 d e1 hd q => ?_⟩
 obtain ⟨tg', ds, rfl, q⟩ := q
 obtain ⟨a, vs, rfl, na, hq, hds⟩ := hd.lstG_
 refine ⟨a, rfl, ⟨vs, hq.1⟩, e1, ds, ?_, q⟩
 intro P' H' hT hL hX i
 have hq' : SqL X.K H' a vs := (hL _ a vs na hq).2.1
 have hl := hds.len
 refine ⟨fun hi => ?_, fun x H3 y hi => ?_, fun hi => ⟨vs, hq', by omega⟩⟩
 ·obtain ⟨v, hv, _⟩ := hds.get (i := i) (d := ds[i]) (by simp [hi])
  exact ⟨vs, v, hq', hv⟩
 ·obtain ⟨e3, y⟩ := y
  subst e3
  obtain ⟨d, h1, h2⟩ := hds.bc (y vs hq')
  exact ⟨ar.refl _, d, h1, Den.map hT hL hX d _ h2⟩
def fN (lo step : Int) (n : Nat) : List D := (List.range n).map fun (i : Nat) => D.int (lo + i * step)
theorem wK (lo step : Int) (n : Nat) : (fN lo step n).length = n := by simp [fN]
theorem vY {lo step : Int} {n i : Nat} (h : i < n) : (fN lo step n)[i]? = some (D.int (lo + i * step)) := by simp [fN, h]
def Ae (lo c : Int) (n : Nat) : It := ⟨fun i _ => i < n, fun i H x H' => H' = H /\ x = .int (lo + i * c), fun i _ => n <= i⟩
theorem vy (K : PySem.W.Frag) (W : Own) (H : Hp) (lo c : Int) (n : Nat) : YD K W H (Ae lo c n) (fN lo c n) := fun P' H' _ _ _ i => by
 rw [wK]
 refine ⟨fun h => h, fun x H3 y hi => ?_, fun h => h⟩
 obtain ⟨e, ex⟩ := y
 subst e ex
 exact ⟨ar.refl _, _, vY hi, Den.int _⟩
theorem qv {P : Program} {w : World} {K : PySem.W.Frag} {tg : Expr} (it : Addr) (lo c : Int) (n : Nat) : Turn P w K tg (Ae lo c n) [it] it (fun i h => IsRangeIter h it (lo + (i : Nat) * c) ((n : Int) - (i : Nat)) c) where
 mem := by simp
 obj := fun i h st b hb => by
  have e : b = it := by simpa using hb
  subst e
  exact ⟨_, st, fun v z => by
   have z' : Data.fields _ = Data.cell v := z
   cases z'⟩
 keep := fun i h h' st k => k it (by simp) _ st
 item := by
  intro X hP hw hK hc i pins s σ H E I hf st hg
  subst hP hw hK
  obtain ⟨f0, f1, f2, f3, f4, f5⟩ := hf it (by simp)
  have W := Walks.range (prog := X.prog) (w := X.w) (I.ok.hd hc) it lo c n
  refine W.item i s _ _ hg st fun v h' tk hv st' kk => ?_
  obtain ⟨t, rfl⟩ := hv
  have I1 : Inv X pins σ H { s with heap := h', toks := tk } := I.turned (fun b o hb e => kk b o (by simpa using hb) e) f0 f1 f3 f4 f5
  exact ⟨_, rfl, sN (s := { s with heap := h', toks := tk }) (n := "range_iterator") st' rfl rfl (by decide) ⟨.int (lo + i * c), H, I1, ⟨t, rfl⟩, ⟨rfl, rfl⟩, st', fun b hb => (hf b hb).1⟩⟩
 done := by
  intro X hP hw hK hc i pins s σ H E I hf st hg
  subst hP hw hK
  obtain ⟨f0, f1, f2, f3, f4, f5⟩ := hf it (by simp)
  exact wpAny_pyNext_range_end (I.ok.hd hc) st (by have : n <= i := hg; omega) fun h' eb => ⟨rfl, I.turned (t' := s.toks) (fun b o hb e => eb b o hb e) f0 f1 f3 f4 f5⟩
 self := fun _ _ _ _ _ st h => wpAny_pyIter_rangeiter st h
def gU (lo hi c : Int) : Nat := (Builtin.Range.rangeSize lo hi c).toNat
theorem u5 {a b c : Int} (ha : -(2 ^ 40) <= a) (ha' : a < 2 ^ 40) (hb : -(2 ^ 40) <= b) (hb' : b < 2 ^ 40) (hc : 0 < c) (hc' : c < 2 ^ 20) : Builtin.Range.small a b c = true /\ 0 <= Builtin.Range.rangeSize a b c := by
 have hd : a < b -> 0 <= (b - a - 1) / c /\ (b - a - 1) / c <= b - a - 1 := fun h => ⟨Int.ediv_nonneg (by omega) (by omega), Int.ediv_le_self _ (by omega)⟩
 have hm : a < b -> (b - a - 1) / c * c <= b - a - 1 := fun h => Int.ediv_mul_le _ (by omega)
 unfold Builtin.Range.small Builtin.Range.rangeSize
 rw [if_pos (show c > 0 from hc)]
 by_cases h : a < b
 ·obtain ⟨h1, h2⟩ := hd h
  have h3 := hm h
  rw [if_pos h]
  generalize (b - a - 1) / c = q at h1 h2 h3 ⊢
  have h4 : 0 <= q * c := Int.mul_nonneg h1 (by omega)
  simp only [Builtin.Range.rangeFitsLong, Bool.and_eq_true, Bool.or_eq_true, decide_eq_true_eq, beq_iff_eq]
  have e : (q + 1 - 1) * c = q * c := by rw [Int.add_sub_cancel]
  have e' : (q + 1) * c = q * c + c := by rw [Int.add_mul, Int.one_mul]
  constructor
  ·rw [if_pos (show c > 0 from hc)]
   simp only [Bool.and_eq_true, decide_eq_true_eq]
   omega
  ·omega
 ·rw [if_neg h]
  simp only [Builtin.Range.rangeFitsLong, Bool.and_eq_true, Bool.or_eq_true, decide_eq_true_eq, beq_iff_eq]
  constructor
  ·simp; omega
  ·exact Int.le_refl _
theorem nK {pins : List (Addr × Obj)} {σ : St} {H : Hp} {s : Shared} {W : Own} {R : List D -> Prop} {E : Value -> Shared -> Prop} {tg : Expr} {lo hi c : Int} {t u v : Tok} {tk : Nat} (I : Inv X pins σ H s) (h1 : -(2 ^ 40) <= lo) (h2 : lo < 2 ^ 40) (h3 : -(2 ^ 40) <= hi) (h4 : hi < 2 ^ 40) (h5 : 0 < c) (h6 : c < 2 ^ 20)
  (q : R (fN lo c (gU lo hi c))) : wpAny (model X.prog X.w) X.A (pyIter (.ref s.heap.objs.size)) (fun itv s2 => ∃ (it : Addr) (fp : List Addr) (tn : Nat -> Heap -> Prop) (J : It) (H' : Hp) (ds : List D), itv = .ref it /\ Inv X pins σ H' s2 /\ ar H H' ∧
   Turn X.prog X.w X.K tg J fp it tn /\ tn 0 s2.heap /\ (∀ b ∈ fp, dF X pins H' b) /\ YD X.K W H' J ds /\ R ds) E { s with heap := s.heap.push { cls := .type "range", data := .fields #[.int lo t, .int hi u, .int c v] }, toks := tk } := by
 obtain ⟨sm, nn⟩ := u5 h1 h2 h3 h4 h5 h6
 refine wpAny_pyIter_range (IsRange.new ..) sm ?_
 have I1 : Inv X pins σ H { s with heap := s.heap.push { cls := .type "range", data := .fields #[.int lo t, .int hi u, .int c v] }, toks := tk } := I.kept fun b o e => Heap.get?_push_of_some _ e
 refine ⟨(s.heap.push { cls := .type "range", data := .fields #[.int lo t, .int hi u, .int c v] }).objs.size, [(s.heap.push { cls := .type "range", data := .fields #[.int lo t, .int hi u, .int c v] }).objs.size], _, _, H, _, rfl,
  I1.kept (t' := tk) fun b o e => Heap.get?_push_of_some _ e, ar.refl H, qv _ lo c (gU lo hi c), ?_, fun b hb => ?_, vy _ _ _ _ _ _, q⟩
 ·have e1 : lo + ((0 : Nat) : Int) * c = lo := by simp
  have e2 : ((gU lo hi c : Nat) : Int) - ((0 : Nat) : Int) = Builtin.Range.rangeSize lo hi c := by unfold gU; omega
  show IsRangeIter _ _ (lo + ((0 : Nat) : Int) * c) (((gU lo hi c : Nat) : Int) - ((0 : Nat) : Int)) c
  rw [e1, e2]
  exact Heap.get?_push_size _ rfl
 ·have e : b = (s.heap.push { cls := .type "range", data := .fields #[.int lo t, .int hi u, .int c v] }).objs.size := by simpa using hb
  subst e
  exact I1.fpOk (Nat.le_refl _) (I1.hok.fresh (Nat.le_refl _))
def CR3 (i : Int) : Prop := -(2 ^ 40) <= i /\ i < 2 ^ 40
def n9 (ta : DA) : DA := fun ρ R => ta ρ fun ds => ∃ i j : Int, ds = [.int i, .int j] /\ CR3 i /\ CR3 j /\ R (fN i 1 (gU i j 1))
def sd (ta : DA) : DA := fun ρ R => ta ρ fun ds => ∃ j : Int, ds = [.int j] /\ CR3 j /\ R (fN 0 1 (gU 0 j 1))
theorem uQ {tg a b : Expr} {ta : DA} {p pos : Pos} (hg : Gl X "range") (hm : X.mg "range" = none) (ha : PAD X [a, b] ta) (hs : starEach [a, b] X.env = (false, eval a X.env) :: starEach [b] X.env := by rfl) (hs2 : (backTo pos (starEach [b] X.env)).any (·.1) = false := by rfl) :
  PID X tg (.Call (.Name "range" p) [a, b] [] pos) (n9 ta) := by
 intro pins s σ H W ρ R I r h
 refine Call_ (cS I hg hm boot_range (PyProof.Rows.callWith_type1 (thn (ha pos pins s σ H W ρ _ I r h) fun us s1 ⟨vs, H1, ds, I1, r1, e1, hd, q1⟩ => ?_) hs hs2))
 obtain ⟨i, j, e, ⟨a1, a2⟩, ⟨b1, b2⟩, q⟩ := q1
 subst e
 obtain ⟨v1, u1, rfl, d1, d2⟩ := nZ hd
 have z1 := d1.int_
 have z2 := d2.int_
 subst z1 z2
 cases r1 with
 | cons ra rr =>
  cases rr with
  | cons rb rr =>
   cases rr
   obtain ⟨t, rfl⟩ := ra
   obtain ⟨t', rfl⟩ := rb
   refine call_range_2 ?_
   exact thn (nK (W := W) (R := R) I1 a1 a2 b1 b2 (by decide) (by decide) q) fun itv s2 ⟨it, fp, tn, J, H', ds, x1, x2, x3, x4, x5, x6, x7, x8⟩ => ⟨it, fp, tn, J, H', ds, x1, x2, e1.trans x3, x4, x5, x6, x7, x8⟩
theorem cT {tg a : Expr} {ta : DA} {p pos : Pos} (hg : Gl X "range") (hm : X.mg "range" = none) (ha : PAD X [a] ta) (hs : starEach [a] X.env = (false, eval a X.env) :: starEach [] X.env := by rfl) (hs2 : (backTo pos (starEach [] X.env)).any (·.1) = false := by rfl) :
  PID X tg (.Call (.Name "range" p) [a] [] pos) (sd ta) := by
 intro pins s σ H W ρ R I r h
 refine Call_ (cS I hg hm boot_range (PyProof.Rows.callWith_type1 (thn (ha pos pins s σ H W ρ _ I r h) fun us s1 ⟨vs, H1, ds, I1, r1, e1, hd, q1⟩ => ?_) hs hs2))
 obtain ⟨j, e, ⟨b1, b2⟩, q⟩ := q1
 subst e
 obtain ⟨v1, rfl, d1⟩ := ko hd
 have z1 := d1.int_
 subst z1
 cases r1 with
 | cons ra rr =>
  cases rr
  obtain ⟨t, rfl⟩ := ra
  refine call_range_1 ?_
  exact thn (nK (W := W) (R := R) I1 (by decide) (by decide) b1 b2 (by decide) (by decide) q) fun itv s2 ⟨it, fp, tn, J, H', ds, x1, x2, x3, x4, x5, x6, x7, x8⟩ => ⟨it, fp, tn, J, H', ds, x1, x2, e1.trans x3, x4, x5, x6, x7, x8⟩
def sW (wi : DA) (g : DG) (tb : DS) : DS := fun E ρ => wi ρ fun ds => ∃ Pv : Nat -> Ro -> Prop, Pv 0 ρ ∧
 (∀ j x ρ', ds[j]? = some x -> Pv j ρ' -> g x ρ' fun ρ2 => tb { E with nx := Pv (j + 1), ct := Pv (j + 1), bk := E.nx } ρ2) /\ ∀ ρ', Pv ds.length ρ' -> E.nx ρ'
theorem cw {tg iter : Expr} {body : List Stmt} {wi : DA} {g : DG} {tb : DS} (hp : PassesOwn (model X.prog X.w) X.A X.env X.xe) (hc : X.calm = true) (hi : PID X tg iter wi) (hg : PGD X tg g) (hb : cy X body tb)
  (hs : ∀ x, foldedSetIterable iter X.env x = pure x := by intro _; rfl) : PSD X (.For tg iter body [] pos) (sW wi g tb) := by
 intro pins s σ H W ρ E I r h
 refine wpAny_For (thn (hi pins s σ H W ρ _ I r h) fun v s1 h1 => thn h1 fun itv s2 h2 => ?_) hs
 obtain ⟨it, fp, tn, J, H2, ds, e, I2, e2, T, st2, f2, yd, Pv, p0, turn, pd⟩ := h2
 subst e
 have r2 := r.same e2
 have stat : ∀ {H' : Hp}, (∀ b ∈ fp, H' b = none) -> ∀ b ∈ fp, dF X pins H' b := fun hn b hb => ⟨hn b hb, (f2 b hb).2⟩
 refine codeAny_forLoop_any (fun n s' => ∃ i W' σ' H' ρ', n = ds.length - i /\ i <= ds.length /\ Inv X pins σ' H' s' /\ tn i s'.heap /\ (∀ b ∈ fp, H' b = none) /\ Fwd W H2 W' H' /\ Rel X W' H' σ' ρ' /\ Pv i ρ') ?_ ds.length ⟨0, W, σ, H2, ρ, by simp, Nat.zero_le _, I2, st2, fun b hb => (f2 b hb).1, Fwd.refl W H2, r2, p0⟩
 rintro n s3 ⟨i, W3, σ3, H3, ρ3, en, hle, I3, st3, fr3, fw3, r3, p3⟩
 obtain ⟨yg, yy, ys⟩ := yd W3.bad H3 (yO r2 fw3) (y7 r3 fw3) (yN r2 fw3) i
 by_cases hlt : i < ds.length
 ·refine wpAny_passesOwn hp (thn (T.item X rfl rfl rfl hc i pins s3 σ3 H3 X.xe I3 (stat fr3) st3 (yg hlt)) fun rr s4 ⟨u, hr, h4⟩ => ?_)
  subst hr
  refine wpAny_passesOwn hp (thn h4 fun _ s5 ⟨x, H5, I5, r5, y5, st5, fr5⟩ => ?_)
  obtain ⟨e5, d, hd, hden⟩ := yy x H5 y5 hlt
  have I5' := I5.pinned (stat fr5) (T.obj _ _ st5)
  have rl5 := r3.same e5
  refine wpAny_passesOwn hp (thn (hg _ s5 σ3 H5 W3 ρ3 d x u _ I5' rl5 r5 hden (turn i d ρ3 hd p3)) fun _ s6 ⟨W6, σ6, H6, ρ6, I6, f6, r6, q6⟩ => ?_)
  refine wpAny_passesOwn hp (thn (hb _ s6 σ6 H6 W6 ρ6 _ I6 r6 q6) fun f s7 q7 => ?_)
  obtain ⟨W7, σ7, H7, I7, f7, q7⟩ := q7
  have fw7 : Fwd W H2 W7 H7 := fw3.trans ((Fwd.same e5).trans (f6.trans f7))
  have fw70 : Fwd W H W7 H7 := (Fwd.same e2).trans fw7
  have again : ∀ {ρ7 : Ro}, Rel X W7 H7 σ7 ρ7 -> Pv (i + 1) ρ7 -> ∃ m, m < n /\ ∃ i W' σ' H' ρ', m = ds.length - i /\ i <= ds.length /\ Inv X pins σ' H' s7 /\ tn i s7.heap /\ (∀ b ∈ fp, H' b = none) /\ Fwd W H2 W' H' /\ Rel X W' H' σ' ρ' /\ Pv i ρ' := fun {ρ7} r7 p7 => by
   refine ⟨ds.length - (i + 1), by omega, i + 1, W7, σ7, H7, ρ7, rfl, hlt, I7.unpinned, T.keep _ _ _ st5 fun b hb o e => (I7.pin (b, o) (List.mem_append_right _ (List.mem_append_right _ (gf hb e)))).1, fun b hb => ?_, fw7, r7, p7⟩
   obtain ⟨o, e, d⟩ := T.obj _ _ st5 b hb
   exact (I7.pin (b, o) (List.mem_append_right _ (List.mem_append_right _ (gf hb e)))).2.1
  cases f with
  | next => obtain ⟨ρ7, r7, n7⟩ := q7; exact again r7 n7
  | cont => obtain ⟨ρ7, r7, n7⟩ := q7; exact again r7 n7
  | brk => obtain ⟨ρ7, r7, q7⟩ := q7; exact ⟨W7, σ7, H7, I7.unpinned, fw70, ρ7, r7, q7⟩
  | ret v => obtain ⟨x7, d7, r7, h7, q7⟩ := q7; exact ⟨W7, σ7, H7, I7.unpinned, fw70, x7, d7, r7, h7, q7⟩
 ·have e : i = ds.length := by omega
  refine wpAny_passesOwn hp (thn (T.done X rfl rfl rfl hc i pins s3 σ3 H3 X.xe I3 (stat fr3) st3 (ys (by omega))) fun rr s4 ⟨hr, I4⟩ => ?_)
  subst hr
  subst e
  exact wpAny_execs_nil ⟨W3, σ3, H3, I4, (Fwd.same e2).trans fw3, ρ3, r3, pd ρ3 p3⟩
def wF (i j : Nat) (ta : DA) : DS := fun E ρ => ta ρ fun ds => ∃ d e, ds = [d, e] /\ E.nx ((ρ.set i (some (.val d))).set j (some (.val e)))
theorem zj {x y : Str} {a b : Expr} {ta : DA} {px py pt : Pos} {kt k2 pt2} (i j : Nat) (hc : X.calm = true) (hN : X.N.Nodup) (hij : i ≠ j) (ha : PAD X [a, b] ta) (hi : X.N[i]? = some x := by rfl) (hj : X.N[j]? = some y := by rfl)
  (hx : X.env.scope.names.lookup x = some .local := by rfl) (hy : X.env.scope.names.lookup y = some .local := by rfl)
  (hw : swappedStores [.Tuple [.Name x px, .Name y py] kt pt] (.Tuple [a, b] k2 pt2) X.env = pure (some [x, y]) := by rfl)
  (hs : swapsWithSole [.Tuple [.Name x px, .Name y py] kt pt] (.Tuple [a, b] k2 pt2) pos.line X.env = pure false := by rfl) :
  PSD X (.Assign [.Tuple [.Name x px, .Name y py] kt pt] (.Tuple [a, b] k2 pt2) pos) (wF i j ta) := by
 have hpa : PA X [a, b] (fun σ H Q => ∃ W ρ Qd, Rel X W H σ ρ /\ ta ρ Qd /\ ∀ vs H' ds, ar H H' -> ah X.K W.bad H' ds vs -> Qd ds -> Q vs H') := by
  intro pos pins s σ H Q I q
  obtain ⟨W, ρ, Qd, r, ht, k⟩ := q
  exact thn (ha pos pins s σ H W ρ Qd I r ht) fun us s1 ⟨vs, H', ds, I1, rv, e1, hd, qd⟩ => ⟨vs, H', I1, rv, k vs H' ds e1 hd qd⟩
 refine PSD.of (zF hc hN hi hj hij hx hy hpa hw hs) fun σ H W ρ E r hl h => ?_
 refine ⟨W, ρ, _, r, h, fun vs H' ds e1 hd q => ?_⟩
 obtain ⟨d, e, rfl, q⟩ := q
 obtain ⟨v, u, rfl, h1, h2⟩ := nZ hd
 have ilt : i < σ.length := by rw [hl]; exact (List.getElem?_eq_some_iff.mp hi).1
 have jlt : j < (σ.set i (some v)).length := by rw [List.length_set, hl]; exact (List.getElem?_eq_some_iff.mp hj).1
 have r1 := (r.same e1).put ilt h1
 exact ⟨v, u, rfl, _, _, (Fwd.same e1).trans ((Fwd.drop W H' i).trans (Fwd.drop _ H' j)), r1.put jlt (h2.fewer fun _ _ => Own.drop_bad), q⟩
end
def aB (N : List Str) (ds : List D) : Ro := ds.map (fun d => some (.val d)) ++ List.replicate (N.length - ds.length) none
theorem Rel.start {X : Cx} {P : Addr -> Prop} {H : Hp} {N : List Str} {ds : List D} {vs : List V} (hP : ∀ a, P a -> ∃ o, H a = some o) (h : ah X.K (fun t a => t = true ∨ P a) H ds vs) (hH : X.H₀ = H) (hT : d6 X.K H) : Rel X ⟨P, fun _ => none, fun a => ∃ o, H a = some o⟩ H (start N vs) (aB N ds) where
 val := fun i d e => by
  unfold aB at e
  have hl := h.len
  by_cases hi : i < ds.length
  ·rw [List.getElem?_append_left (by simpa using hi), List.getElem?_map] at e
   cases q : ds[i]? with
   | none => rw [q] at e; cases e
   | some d' =>
    rw [q] at e
    have e' : d' = d := by simpa using e
    subst e'
    obtain ⟨v, h1, h2⟩ := h.get q
    refine ⟨v, ?_, h2.fewer fun tg a z => ?_⟩
    ·unfold L2.start
     rw [List.getElem?_append_left (by simpa [hl] using hi), List.getElem?_map, h1]
     rfl
    ·rcases z with z | ⟨j, z⟩ | ⟨z, _⟩
     ·exact .inr z
     ·cases z
     ·exact .inl z
  ·rw [List.getElem?_append_right (by simpa using hi), List.getElem?_replicate] at e
   split at e <;> cases e
 own := fun i d e => by
  unfold aB at e
  by_cases hi : i < ds.length
  ·rw [List.getElem?_append_left (by simpa using hi), List.getElem?_map] at e
   cases q : ds[i]? with
   | none => rw [q] at e; cases e
   | some d' => rw [q] at e; cases e
  ·rw [List.getElem?_append_right (by simpa using hi), List.getElem?_replicate] at e
   split at e <;> cases e
 inj := fun i j a h _ => by cases h
 kn := fun i a h => by cases h
 ke := fun i a h => by cases h
 bt := hP
 st := fun _ z => z
 ent := by rw [hH]; exact ar.refl H
 tab := hT
end PD
namespace PD
open PySem PySem.Spec PyProof.Rows L2 PX
theorem bX.there {P : Program} {w : World} {H : Hp} {h : Heap} {a : Addr} {o : HO} (x : bX P w H h a o) : ∃ u, h.get? a = some u := by
 cases o with
 | lst xs => obtain ⟨_, _, _, _, e⟩ := x; exact ⟨_, e⟩
 | tup xs => obtain ⟨_, _, _, ob, e, _⟩ := x; exact ⟨ob, e⟩
 | dK kvs => obtain ⟨_, _, _, _, ob, _, _, e, _⟩ := x; exact ⟨ob, e⟩
 | dT kvs => obtain ⟨_, _, _, _, ob, _, _, e, _⟩ := x; exact ⟨ob, e⟩
 | set S n => obtain ⟨ob, _, _, _, e, _⟩ := x; exact ⟨ob, e⟩
 | ins C dx fs => obtain ⟨_, _, _, e, _⟩ := x; exact ⟨_, e⟩
 | own y => exact x
 | xd fs => obtain ⟨_, ⟨ob, _, _, e, _⟩, _⟩ := x; exact ⟨ob, e⟩
 | rng lo hi => obtain ⟨_, _, _, e⟩ := x; exact ⟨_, e⟩
 | frz ob u => obtain ⟨e, _⟩ := x; exact ⟨ob, e⟩
 | tbl ps => exact ⟨_, x⟩
 | met f y => exact ⟨_, x⟩
 | ext φ => obtain ⟨_, e, _⟩ := x; exact e
theorem HOk.keptT {P : Program} {w : World} {H : Hp} {h h' : Heap} (x : HOk P w H h) (k : ∀ b u, (∃ o, H b = some o) -> h.get? b = some u -> h'.get? b = some u) : HOk P w H h' := fun a o e =>
 (x a o e).stay (fun b u hb q => k b u (by
  rcases hb with z | z
  ·subst z; exact ⟨o, e⟩
  ·exact ⟨_, z⟩) q) (fun _ q => q) fun _ _ q => q
structure Fl (P : Program) (w : World) (l : List Env) (h₀ : Heap) (H₀ H : Hp) (B h : Heap) : Prop where
 un : Un (frs l) [] H₀ H h₀ h
 hok : HOk P w H h
 fr : ∀ b ∈ frs l, H₀ b = none /\ ∃ o, h₀.get? b = some o /\ ∀ vs, o.data ≠ .fields vs
 cov : ∀ b o, h.get? b = some o -> ((∃ u, H b = some u) ∨ ∃ o', h₀.get? b = some o') -> b ∉ frs l -> B.get? b = some o
section
variable {P : Program} {w : World} {l : List Env} {h₀ : Heap} {H₀ H : Hp} {B h h' : Heap}
theorem Fl.free (F : Fl P w l h₀ H₀ H B h) {b : Addr} (hb : b ∈ frs l) : H b = none := by
 obtain ⟨n, o, e, _⟩ := F.fr b hb
 exact F.un.free b o e n (by simp)
theorem Fl.step (F : Fl P w l h₀ H₀ H B h) (st : B.StaysIn h') (sl : h.UpToSlots h') : Fl P w l h₀ H₀ H B h' := by
 have fr1 : ∀ b o, b ∈ frs l -> h₀.get? b = some o -> ∃ s', h'.get? b = some { o with slots := s' } := fun b o hb e => by
  obtain ⟨n, o', e', hd⟩ := F.fr b hb
  rw [e] at e'
  cases e'
  obtain ⟨s1, e1⟩ := F.un.slot b o e n hb (by simp)
  obtain ⟨s2, e2⟩ := sl b _ e1 hd
  exact ⟨s2, e2⟩
 have kp : ∀ b o, h.get? b = some o -> ((∃ u, H b = some u) ∨ ∃ o', h₀.get? b = some o') -> b ∉ frs l -> h'.get? b = some o := fun b o e c n => st b o (F.cov b o e c n)
 refine ⟨⟨fun b o e n hb hx => kp b o (F.un.keep b o e n hb hx) (.inr ⟨o, e⟩) hb, fun b o e n hb hx => fr1 b o hb e, F.un.free, fun b o e hx => ?_, F.un.tups, F.un.frzs, F.un.tbls⟩, PD.HOk.keptT F.hok (fun b u hu e => kp b u e (.inl hu) fun z => ?_), F.fr, fun b o e c n => ?_⟩
 ·by_cases hb : b ∈ frs l
  ·obtain ⟨s2, e2⟩ := fr1 b o hb e
   exact ⟨_, e2⟩
  ·obtain ⟨o', e1⟩ := F.un.there b o e hx
   exact ⟨o', kp b o' e1 (.inr ⟨o, e⟩) hb⟩
 ·obtain ⟨o, q⟩ := hu
  rw [F.free z] at q
  cases q
 ·have : ∃ o1, h.get? b = some o1 := by
   rcases c with ⟨u, c⟩ | ⟨o', c⟩
   ·exact PD.bX.there (F.hok b u c)
   ·exact F.un.there b o' c (by simp)
  obtain ⟨o1, e1⟩ := this
  have q := kp b o1 e1 c n
  rw [e] at q
  cases q
  exact F.cov b o e1 c n
end
def CX1 (P : Program) (w : World) : CXT := fun outer H s E e s' => ∃ (ea c : Addr) (H' : Hp) (B : Heap) (a0 : Value), e = .ref ea /\ s'.os = s.os /\ AllBare s'.gens /\ Fl P w outer s.heap H H' B s'.heap /\ ar H H' /\ H' ea = none /\ s.heap.get? ea = none ∧
 Heap.FlyingW B outer ea (.ref c) a0 s'.heap /\ E (.ref c) none H'
theorem Ah {P : Program} {w : World} {X : Cx} : Passes (CX1 P w) X E0 := fun _ _ _ _ _ _ _ h => by
 obtain ⟨_, _, _, _, _, _, _, _, _, _, _, _, _, z⟩ := h
 exact z.elim
def MadeX (X : Cx) (Ed : Value -> Prop) : Prop := ∀ (pins : List (Addr × Obj)) (σ : St) (H : Hp) (W : Own) (ρ : Ro) (s : Shared) (e c : Addr) (vs : List Value) (h' : Heap), Inv X pins σ H s -> Rel X W H σ ρ -> Heap.MadeExcOf s.heap h' e (.ref c) vs -> Ed (.ref c) -> X.xe (.ref e) { s with heap := h' }
def eF (X : Cx) (Ed : Value -> Prop) : Prop := ∀ (pins : List (Addr × Obj)) (σ : St) (H : Hp) (W : Own) (ρ : Ro) (s : Shared) (e : Value) (s' : Shared), Inv X pins σ H s -> Rel X W H σ ρ -> CX1 X.prog X.w X.stack H s (fun c _ _ => Ed c) e s' -> X.xe e s'
section
variable {P : Program} {w : World} {K : PySem.W.Frag} {mg : Str -> Option Value} {base : Heap} {N : List Str} {qual : Str} {sc : Scope} {f : Addr} {cd : Value} {A : Around} {outer : List Env} {s₀ : Shared} {H₀ : Hp} {E : XK}
theorem oS {pins : List (Addr × Obj)} {σ : St} {H : Hp} {s : Shared} {B h' : Heap} {e c : Addr} {a0 : Value} (I : Inv (cA (CX1 P w) P w K mg base N qual sc f cd A outer s₀ H₀ E) pins σ H s) (hS : ar H₀ H) (hn : H e = none) (hn0 : s₀.heap.get? e = none)
  (cov : ∀ b o, s.heap.get? b = some o -> ((∃ u, H b = some u) ∨ ∃ o', s₀.heap.get? b = some o') -> b ∉ frs (envOfC qual sc s₀.heap.objs.size f cd :: outer) -> B.get? b = some o)
  (fl : Heap.FlyingW B outer e (.ref c) a0 h') (sl : s.heap.UpToSlots h') (hE : E (.ref c) none H) : CX1 P w outer H₀ s₀ E (.ref e) { s with heap := h' } := by
 have nf : ∀ b, ((∃ u, H b = some u) ∨ ∃ o', s₀.heap.get? b = some o') -> b ∉ frs outer -> b ∉ frs (envOfC qual sc s₀.heap.objs.size f cd :: outer) := fun b c n z => by
  rcases c with ⟨u, c⟩ | ⟨o', c⟩
  ·have := I.stkFree b z
   rw [c] at this
   cases this
  ·rcases List.mem_cons.mp (I.stkSub b z) with q | q
   ·have h1 := Heap.lt_size c
    have h2 : s₀.heap.objs.size <= b := by rw [q]; exact I.ok.above
    exact absurd (Nat.lt_of_lt_of_le h1 h2) (Nat.lt_irrefl _)
   ·exact n q
 have F : Fl P w outer s₀.heap H₀ H B s.heap := ⟨I.base, I.hok, fun b hb => ⟨I.ok.frf b hb, by
  obtain ⟨_, o, e, d⟩ := I.ok.funs.mem hb
  exact ⟨o, e, d⟩⟩, fun b o e c n => cov b o e c (nf b c n)⟩
 exact ⟨e, c, H, B, a0, rfl, I.os, I.bare, F.step fl.1 sl, hS, hn, hn0, fl, hE⟩
theorem Ag {Ed : Value -> Prop} (hE : ∀ c a H', ar H₀ H' -> Ed c -> E c a H') : MadeX (cA (CX1 P w) P w K mg base N qual sc f cd A outer s₀ H₀ E) Ed := by
 intro pins σ H W ρ s e c vs h' I r hx hd
 show wpAny (model P w) (A.deeper (envOfC qual sc s₀.heap.objs.size f cd)) (leaving (envOfC qual sc s₀.heap.objs.size f cd) (.ref e)) _ _ _
 refine wpAny_leaves_madeW (base := PySem.W.hideAll s.heap (frs (envOfC qual sc s₀.heap.objs.size f cd :: outer))) (h := s.heap) (outer := outer) I.ok.frames rfl (fun b o q => PySem.W.of_hideAll _ q)
  (PySem.W.funFrames_hide I.stack fun env he b hb => List.mem_filterMap.mpr ⟨env, he, hb⟩) hx fun h'' t x1 _ _ x4 => ?_
 have ne : ∀ {h1 : Heap}, (∀ b o, h1.get? b = some o -> ∃ o', s.heap.get? b = some o') -> h1.get? e = none := fun {h1} k => by
  cases q : h1.get? e with
  | none => rfl
  | some o =>
   obtain ⟨o', q'⟩ := k e o q
   rw [hx.new] at q'
   cases q'
 refine oS (s := s) (h' := h'') I r.ent ?_ (ne fun b o q => I.base.there b o q (by intro z; cases z)) (fun b o q _ n => PySem.W.hideAll_get _ q n) x1 (fun b o q d => ?_) (hE _ _ _ r.ent hd)
 ·cases q : H e with
  | none => rfl
  | some u =>
   obtain ⟨o, z⟩ := PD.bX.there (I.hok e u q)
   rw [hx.new] at z
   cases z
 ·exact x4 b o (hx.keeps b o q) d
theorem yj {Ed : Value -> Prop} (hE : ∀ c a H', ar H₀ H' -> Ed c -> E c a H') : eF (cA (CX1 P w) P w K mg base N qual sc f cd A outer s₀ H₀ E) Ed := by
 intro pins σ H W ρ s e s' I r hx
 obtain ⟨ea, c, H', B, a0, rfl, os, bare, F, sm, hn, hn0, fl, hd⟩ := hx
 show wpAny (model P w) (A.deeper (envOfC qual sc s₀.heap.objs.size f cd)) (leaving (envOfC qual sc s₀.heap.objs.size f cd) (.ref ea)) _ _ _
 refine wpAny_leaves_onW (outer := outer) I.ok.frames rfl fl fun h'' x1 x2 => ?_
 have I' := I.call' os F.un F.hok bare (by intro b z; cases z)
 refine oS (s := s') (h' := h'') I' (r.ent.trans sm) hn ?_ (fun b o q z n => F.cov b o q (z.elim .inl fun ⟨o', z⟩ => .inr (I.base.there b o' z (by intro q; cases q))) n) x1 x2 (hE _ _ _ (r.ent.trans sm) hd)
 cases q : s₀.heap.get? ea with
 | none => rfl
 | some o =>
  obtain ⟨o', q'⟩ := I.base.there ea o q (by intro z; cases z)
  rw [hn0] at q'
  cases q'
end
section
variable {X : Cx} {k : Nat} {f : Addr} {fd : FuncData} {ps : List Str} {sp : DSp} {x : Str} {p pos : Pos} {e : Expr} {es : List Expr} {t : DA}
end
abbrev xl : List Value := [.type "ValueError", .type "Exception", .type "BaseException", .type "object"]
section
variable {X : Cx} {pos : Pos}
theorem wH {st : Stmt} : PSD X st (fun _ _ => False) := fun _ _ _ _ _ _ _ _ _ h => h.elim
theorem Rel.wish {W : Own} {H : Hp} {σ : St} {ρ : Ro} (r : Rel X W H σ ρ) (E : Value -> Shared -> Prop) : Rel (X.wish E) W H σ ρ := ⟨r.val, r.own, r.inj, r.kn, r.ke, r.bt, r.st, r.ent, r.tab⟩
theorem Rel.unwish {W : Own} {H : Hp} {σ : St} {ρ : Ro} {E : Value -> Shared -> Prop} (r : Rel (X.wish E) W H σ ρ) : Rel X W H σ ρ := ⟨r.val, r.own, r.inj, r.kn, r.ke, r.bt, r.st, r.ent, r.tab⟩
theorem SPD.unwish {pins : List (Addr × Obj)} {W : Own} {H : Hp} {E : gc} {f : Flow} {s' : Shared} {XE : Value -> Shared -> Prop} (h : SPD (X.wish XE) pins W H E f s') : SPD X pins W H E f s' := by
 obtain ⟨W', σ', H', I, fw, q⟩ := h
 refine ⟨W', σ', H', I.unwish, fw, ?_⟩
 cases f with
 | next => obtain ⟨ρ', r, q⟩ := q; exact ⟨ρ', r.unwish, q⟩
 | brk => obtain ⟨ρ', r, q⟩ := q; exact ⟨ρ', r.unwish, q⟩
 | cont => obtain ⟨ρ', r, q⟩ := q; exact ⟨ρ', r.unwish, q⟩
 | ret u => exact q
theorem cy.nox {st : List Stmt} {t : DS} (h : cy X.nox st t) : cy X st t := fun pins s σ H W ρ E I r hw =>
 wpAny_mono (h pins s σ H W ρ E (I.wish _) (r.wish _) hw) (fun _ _ q => q.unwish) fun _ _ z => False.elim z
end
def sG (base : Heap) (l : List Env) (e : Addr) (cls a0 : Value) (h : Heap) : Prop := base.StaysIn h /\ base.get? e = none /\ h.FunFrames base l /\ ∃ fl, h.TracedAtW base e cls a0 fl
section
variable {M : Model} {A : Around} {E : Value -> Shared -> Prop} {s : Shared} {base : Heap} {l outer : List Env} {env : Env} {e L : Addr} {cls a0 : Value}
theorem yc {Q : Unit -> Shared -> Prop} (hfr : A.frames = some (env :: outer)) (hf : env.frame = some L) (R : sG base (env :: outer) e cls a0 s.heap)
  (h : ∀ h', sG base (env :: outer) e cls a0 h' -> s.heap.UpToSlots h' -> Q () { s with heap := h' }) : wpAny M A (noteFrame (.ref e) env) Q E s := by
 obtain ⟨k1, k2, k3, fl, oe, vs, T, oT, ts, g1, g2, g3, g4, g5, g6, g7, g8, g9⟩ := id R
 by_cases hfl : (fl == rawInt L) = true
 ·have efl : fl = rawInt L := by simpa using hfl
  subst efl
  exact wpAny_noteFrame_againW (base := base) (cls := cls) (a0 := a0) hf ⟨oe, vs, T, oT, ts, g1, g2, g3, g4, g5, g6, g7, g8, g9⟩ (h _ R (Heap.UpToSlots.refl _))
 ·obtain ⟨ec, g0⟩ := g2
  subst ec
  unfold noteFrame
  simp only [hf]
  refine wpAny_bind (wpAny_field g1 g3 g4 ?_)
  rw [if_pos (by simp)]
  refine wpAny_bind (wpAny_field g7 g8 g9 ?_)
  rw [if_neg hfl]
  refine wpAny_bind (wpAny_setField g7 g8 (Array.getElem?_eq_some_iff.mp g9).1 ?_)
  have oth : ∀ b, b ≠ T -> (s.heap.update T (Obj.mapFields (·.setIfInBounds 3 Value.none))).get? b = s.heap.get? b := fun b hb => Heap.get?_update_other _ _ (Ne.symm hb)
  have nrec : ∀ b o, s.heap.get? b = some o -> (∀ vs, o.data ≠ .fields vs) -> b ≠ T := fun b o hb hn q => by
   rw [q, g7] at hb
   cases hb
   exact hn ts g8
  refine wpAny_entryW (base := base) hfr (k3.of_keeps fun b o hb hn => ⟨o, (oth b (nrec b o hb hn)).trans hb, rfl⟩) hf ((oth e (Ne.symm g6)).trans g1) (fun b o hb => (oth b fun q => by rw [q, g5] at hb; cases hb).trans (k1 b o hb)) k2 g3 (Array.getElem?_eq_some_iff.mp g4).1 g0 fun h' hN => ?_
  obtain ⟨n1, n2, n3, n4⟩ := hN
  exact h h' ⟨n1, k2, n2, _, n3⟩ fun b o hb hn => n4 b o ((oth b (nrec b o hb hn)).trans hb) hn
theorem vM {Q : Unit -> Shared -> Prop} (hfr : A.frames = some (env :: outer)) (hf : env.frame = some L) (R : sG base (env :: outer) e cls a0 s.heap)
  (h : ∀ h', Heap.FlyingW base outer e cls a0 h' -> s.heap.UpToSlots h' -> Q () { s with heap := h' }) : wpAny M A (leaving env (.ref e)) Q E s := by
 unfold leaving
 refine wpAny_bind (yc hfr hf R fun h1 R1 s1 => ?_)
 obtain ⟨k1, k2, k3, fl, k4⟩ := R1
 refine wpAny_setFlight_noneW (base := base) k1 k3 k4 fun h2 m1 m2 m3 m4 => ?_
 obtain ⟨_, _, m2⟩ := m2
 exact h h2 ⟨m1, k2, m2, m3⟩ (s1.trans fun b o hb hn => ⟨o.slots, m4 b o hb hn⟩)
end
def tB (X : Cx) (Ed : Value -> Prop) : Prop := ∀ (pins : List (Addr × Obj)) (σ : St) (H : Hp) (W : Own) (ρ : Ro) (s s' : Shared) (ea c : Addr) (H' : Hp) (B : Heap) (a0 : Value), Inv X pins σ H s -> Rel X W H σ ρ -> s'.os = s.os -> AllBare s'.gens -> Fl X.prog X.w X.stack s.heap H H' B s'.heap -> ar H H' -> H' ea = none -> s.heap.get? ea = none →
 sG B X.stack ea (.ref c) a0 s'.heap -> Ed (.ref c) -> X.xe (.ref ea) s'
section
variable {P : Program} {w : World} {K : PySem.W.Frag} {mg : Str -> Option Value} {base : Heap} {N : List Str} {qual : Str} {sc : Scope} {f : Addr} {cd : Value} {A : Around} {outer : List Env} {s₀ : Shared} {H₀ : Hp} {E : XK}
theorem Ai {Ed : Value -> Prop} (hE : ∀ c a H', ar H₀ H' -> Ed c -> E c a H') : tB (cA (CX1 P w) P w K mg base N qual sc f cd A outer s₀ H₀ E) Ed := by
 intro pins σ H W ρ s s' ea c H' B a0 I r os bare F sm hn hn0 R hd
 show wpAny (model P w) (A.deeper (envOfC qual sc s₀.heap.objs.size f cd)) (leaving (envOfC qual sc s₀.heap.objs.size f cd) (.ref ea)) _ _ _
 refine vM (outer := outer) I.ok.frames rfl R fun h'' x1 x2 => ?_
 have I' := I.call' os F.un F.hok bare (by intro b z; cases z)
 refine oS (s := s') (h' := h'') I' (r.ent.trans sm) hn ?_ (fun b o q z n => F.cov b o q (z.elim .inl fun ⟨o', z⟩ => .inr (I.base.there b o' z (by intro q; cases q))) n) x1 x2 (hE _ _ _ (r.ent.trans sm) hd)
 cases q : s₀.heap.get? ea with
 | none => rfl
 | some o =>
  obtain ⟨o', q'⟩ := I.base.there ea o q (by intro z; cases z)
  rw [hn0] at q'
  cases q'
end
section
variable {P : Program} {w : World} {K : PySem.W.Frag} {mg : Str -> Option Value} {base : Heap}
structure ax (K : PySem.W.Frag) (x qual : Str) (st : Stmt) (f : Addr) (fd : FuncData) : Prop where
 ex : ∃ (oc : Value) (od : Option Addr) (dV kV doc pm : Value) (an : Option Addr) (cdv ct : Value) (osl : Array (Option Value)),
  fd = PySem.W.fnOf x qual (c7 st) (bK st) (ao st) dV kV doc pm an cdv ct /\ K.lookup f = some ⟨oc, od, .func fd, osl⟩ /\ PySem.W.codeIn K cdv qual = true
 kp : PySem.W.keepIn K (.ref f) = true
theorem ax.okC {x qual : Str} {st : Stmt} {f : Addr} {fd : FuncData} {N ps : List Str} {k : Nat} {sp : DSp} (F : ax K x qual st f fd) (S : ay N ps (ao st)) (len : ∀ ds Q E, sp ds Q E -> ds.length = ps.length)
  (hbody : ∀ (cdv : Value), fd.code = cdv -> ∀ (A : Around) (outer : List Env) (s : Shared) (H : Hp) (E : XK) (Ed : Value -> Prop), bI k (A.deeper (envOfC qual (ao st) s.heap.objs.size f cdv)) -> MadeX (cA (CX1 P w) P w K mg base N qual (ao st) f cdv A outer s H E) Ed -> eF (cA (CX1 P w) P w K mg base N qual (ao st) f cdv A outer s H E) Ed -> tB (cA (CX1 P w) P w K mg base N qual (ao st) f cdv A outer s H E) Ed →
   ∃ t, cy (cA (CX1 P w) P w K mg base N qual (ao st) f cdv A outer s H E) (bK st) t /\ ∀ ds Q, sp ds Q Ed -> t { nx := fun _ => Q .non, rt := Q } (aB N ds)) : aI P w K mg base (CX1 P w) (k + 1) f fd ps (aM K sp) := by
 obtain ⟨oc, od, dV, kV, doc, pm, an, cdv, ct, osl, rfl, lk, hcd⟩ := F.ex
 refine w6 lk hcd S (fun vs H Q E h => ?_) fun A outer s H vs Q E hr h => ?_
 ·obtain ⟨_, ds, _, _, _, _, hd, hs, _⟩ := h
  rw [hd.len]
  exact len ds _ _ hs
 ·obtain ⟨Pb, ds, Qd, Ed, hT, hP, hd, hs, kq, ke⟩ := h
  obtain ⟨t, ht, k⟩ := hbody cdv rfl A outer s H E Ed hr (Ag ke) (yj ke) (Ai ke)
  refine ⟨_, ht.ps, ⟨Pb, fun _ => none, fun a => ∃ o, H a = some o⟩, _, _, Rel.start hP hd rfl hT, k ds Qd hs, fun W' σ' H' ρ' f r q => ?_, fun W' H' v d f hd' q => ?_, fun _ _ _ _ _ _ q => q, fun _ _ _ _ _ _ q => q⟩
  ·exact kq .non .non H' ⟨fun b o e n => f.kp b o (fun i z => by cases z) e n, f.tb, f.ok⟩ Den.non q
  ·refine kq d v H' ⟨fun b o e n => f.kp b o (fun i z => by cases z) e n, f.tb, f.ok⟩ (hd'.fewer fun t a z => ?_) q
   rcases z with z | z
   ·exact .inl (by rw [f.B]; exact z)
   ·exact .inr (.inr ⟨z.1, by rw [f.S]; exact z.2⟩)
theorem ax.okX {x qual : Str} {st : Stmt} {f : Addr} {fd : FuncData} {N ps : List Str} {k : Nat} {sp : DSp} (F : ax K x qual st f fd) (S : ay N ps (ao st)) (len : ∀ ds Q E, sp ds Q E -> ds.length = ps.length)
  (hbody : ∀ (cdv : Value) (A : Around) (outer : List Env) (s : Shared) (H : Hp) (E : XK) (Ed : Value -> Prop), bI k (A.deeper (envOfC qual (ao st) s.heap.objs.size f cdv)) -> MadeX (cA (CX1 P w) P w K mg base N qual (ao st) f cdv A outer s H E) Ed -> eF (cA (CX1 P w) P w K mg base N qual (ao st) f cdv A outer s H E) Ed -> tB (cA (CX1 P w) P w K mg base N qual (ao st) f cdv A outer s H E) Ed →
   ∃ t, cy (cA (CX1 P w) P w K mg base N qual (ao st) f cdv A outer s H E) (bK st) t /\ ∀ ds Q, sp ds Q Ed -> t { nx := fun _ => Q .non, rt := Q } (aB N ds)) : aI P w K mg base (CX1 P w) (k + 1) f fd ps (aM K sp) := ax.okC F S len fun cdv _ => hbody cdv
theorem ax.okN {x qual : Str} {st : Stmt} {f : Addr} {fd : FuncData} {N ps : List Str} {k : Nat} {sp : DSp} (F : ax K x qual st f fd) (S : ay N ps (ao st)) (len : ∀ ds Q E, sp ds Q E -> ds.length = ps.length)
  (hbody : ∀ (cdv : Value) (A : Around) (outer : List Env) (s : Shared) (H : Hp) (E : XK), bI k (A.deeper (envOfC qual (ao st) s.heap.objs.size f cdv)) →
   ∃ t, cy (cA (CX1 P w) P w K mg base N qual (ao st) f cdv A outer s H E).nox (bK st) t /\ ∀ ds Q Ed, sp ds Q Ed -> t { nx := fun _ => Q .non, rt := Q } (aB N ds)) : aI P w K mg base (CX1 P w) (k + 1) f fd ps (aM K sp) :=
 ax.okX F S len fun cdv A outer s H E Ed hr _ _ _ => by
  obtain ⟨t, ht, k⟩ := hbody cdv A outer s H E hr
  exact ⟨t, ht.nox, fun ds Q h => k ds Q Ed h⟩
theorem qW {x qual : Str} {st : Stmt} {f : Addr} {oc : Value} {od an : Option Addr} {osl : Array (Option Value)} {dV kV doc pm cdv ct : Value} (l : K.lookup f = some ⟨oc, od, .func (PySem.W.fnOf x qual (c7 st) (bK st) (ao st) dV kV doc pm an cdv ct), osl⟩)
  (c : PySem.W.codeIn K cdv qual = true) (k : PySem.W.keepIn K (.ref f) = true) : ax K x qual st f (PySem.W.fnOf x qual (c7 st) (bK st) (ao st) dV kV doc pm an cdv ct) := ⟨⟨oc, od, dV, kV, doc, pm, an, cdv, ct, osl, rfl, l, c⟩, k⟩
end
end PD
namespace PD
open PySem PySem.Spec PyProof.Rows L2
def Has (P : Program) (w : World) (K : PySem.W.Frag) (mg : Str -> Option Value) (base : Heap) (x : Str) (k : Nat) (ps : List Str) (sp : DSp) : Prop :=
 ∃ f fd, aI P w K mg base (CX1 P w) k f fd ps (aM K sp) /\ mg x = some (.ref f) /\ PySem.W.keepIn K (.ref f) = true /\ Binds K fd ps []
section
variable {X : Cx} {k : Nat} {ps : List Str} {sp : DSp} {x : Str} {p pos : Pos} {e : Expr} {es : List Expr} {t : DA}
theorem au (h : Has X.prog X.w X.K X.mg X.base x k ps sp) (hr : bI k X.A) (ha : PAD X (e :: es) t) (hg : Gl X x := by rfl) (hdb : (x == ("__debug__" : Str)) = false := by decide)
  (he : starEach (e :: es) X.env = (false, eval e X.env) :: starEach es X.env := by rfl) (hpl : (backTo pos (starEach es X.env)).any (·.1) = false := by rfl) : PED X (.Call (.Name x p) (e :: es) [] pos) (nY sp [] t) := by
 obtain ⟨f, fd, F, hm, hk, hb⟩ := h
 exact vH (dds := []) (dsv := []) F hr hg hm hk hb .nil (by simp) Ah ha hdb he hpl
end
def sp1 (R : D -> (D -> Prop) -> Prop) : DSp := fun ds Q _ => ∃ a, ds = [a] /\ R a Q
def lZ : DSp := fun ds Q _ => ∃ ns : List Int, ds = [.lst false (ns.map .int)] /\ ns.length <= 63 /\ Q (.bl true)
theorem nh {K : PySem.W.Frag} {P : Bool -> Addr -> Prop} {H : Hp} : ∀ ns : List Int, ah K P H (ns.map D.int) (ns.map V.int)
 | [] => ah.nil
 | n :: r => ah.cons (Den.int n) (nh r)
theorem zy {K : PySem.W.Frag} {H : Hp} {a : Addr} {ns : List Int} (hl : ns.length <= 63) (hS : SqL K H a (ns.map V.int)) (hT : d6 K H) : aM K lZ [.ref a] H (fun v _ => v = .bl true) fun _ _ _ => False :=
 ⟨fun _ => False, [.lst false (ns.map D.int)], fun d => d = .bl true, fun _ => False, hT, fun _ z => z.elim, ah.one (Den.lst (fun z => z.elim (fun z => by cases z) id) (.any hS) (nh ns)), ⟨ns, rfl, hl, rfl⟩, fun d v H' _ hd e => by subst e; exact hd.bl_, fun _ _ _ _ z => z.elim⟩
theorem walk {l : PySem.W.OpenLaw} {q : Program} {loose : List Str} {XP : (Str -> Option Value) -> Heap -> Prop} {YP : World -> Heap -> Prop} {d : DefRec} {K : Params -> PySem.W.Frag} {k : Nat} {x : Str} (hn : l.most = some 63) (hdf : d.params.defaults = []) (hr : bI k callerA)
  (hY : ∀ (w : World) (h : Heap), YP w h -> (K w.params).In h) (hT : ∀ w : World, tabOf (K w.params) = none)
  (F : ∀ (w : World) (mg : Str -> Option Value) (fa : Addr) (h : Heap), (K w.params).In h -> h.Ns mainGlobals mg -> mg d.name = some (.ref fa) →
   ∃ fd : FuncData, (∀ (s : Shared) (u : Value), BindsTo s fd ⟨[u], []⟩ [(x, u)]) /\ ∀ base : Heap, (K w.params).In base -> base.Ns mainGlobals mg -> aI l.prog w (K w.params) mg base (CX1 l.prog w) k fa fd [x] (aM (K w.params) lZ)) :
  PySem.W.WalkO q loose XP YP l.row.toRowW d [] (fun f vs => PySem.call f vs) :=
 L2.yE (n := 63) (k := k) (x := x) (CX := fun w => CX1 l.prog w) (sp := fun w => aM (K w.params) lZ) hn (by decide) hdf hr hY F (fun w _ a ns hl hO hS => zy hl hS ⟨fun P ps e => (by rcases hO P with z | ⟨o, xs, z⟩ <;> rw [z] at e <;> cases e), fun P e => (by rw [hT w] at e; cases e)⟩) fun _ _ _ _ _ z => by obtain ⟨_, _, _, _, _, _, _, _, _, _, _, _, _, q⟩ := z; exact q.elim
theorem at0 {α : Type} (a : α) (r : List α) : atI (a :: r) 0 = some a := bA (j := 0) rfl
theorem at1 {α : Type} (a b : α) (r : List α) : atI (a :: b :: r) 1 = some b := bA (j := 1) rfl
theorem at2 {α : Type} (a b c : α) (r : List α) : atI (a :: b :: c :: r) 2 = some c := bA (j := 2) rfl
theorem at3 {α : Type} (a b c d : α) (r : List α) : atI (a :: b :: c :: d :: r) 3 = some d := bA (j := 3) rfl
theorem qa (ds : List D) (i : Int) (Q : D -> Prop) : tH (.tup ds) (.int i) Q = ∃ d, atI ds i = some d /\ Q d := by
 apply propext
 constructor
 ·rintro ⟨ds', i', d, e1, e2, h, q⟩
  rcases e1 with e1 | ⟨_, e1⟩
  ·cases e1; cases e2; exact ⟨d, h, q⟩
  ·cases e1
 ·rintro ⟨d, h, q⟩
  exact ⟨ds, i, d, .inl rfl, rfl, h, q⟩
theorem lA (t : Bool) (ds : List D) (i : Int) (Q : D -> Prop) : tH (.lst t ds) (.int i) Q = ∃ d, atI ds i = some d /\ Q d := by
 apply propext
 constructor
 ·rintro ⟨ds', i', d, e1, e2, h, q⟩
  rcases e1 with e1 | ⟨_, e1⟩
  ·cases e1
  ·cases e1; cases e2; exact ⟨d, h, q⟩
 ·rintro ⟨d, h, q⟩
  exact ⟨ds, i, d, .inr ⟨t, rfl⟩, rfl, h, q⟩
theorem bQ (i : Int) : aJ (.int i) = .int i := by rw [aJ]
theorem oK (b : Bool) : aJ (.bl b) = .bl b := by rw [aJ]
theorem nA : aJ .non = .non := by rw [aJ]
theorem cV (x : Str) : aJ (.str x) = .str x := by rw [aJ]
theorem bJ (ds : List D) : aJ (.tup ds) = .tup (aW ds) := by rw [aJ]
theorem bj (t : Bool) (ds : List D) : aJ (.lst t ds) = .lst false (aW ds) := by rw [aJ]
theorem bD : aW [] = [] := by rw [aW]
theorem aL (d : D) (ds : List D) : aW (d :: ds) = aJ d :: aW ds := by rw [aW]
theorem bR {α : Type} (f : α -> D) (h : ∀ x, aJ (f x) = f x) : ∀ xs : List α, aW (xs.map f) = xs.map f
 | [] => by rw [List.map_nil, aW]
 | x :: r => by rw [List.map_cons, aW, h, bR f h r]
theorem cb (ns : List Int) : aW (ns.map D.int) = ns.map D.int := bR _ bQ ns
theorem rD (C : Int -> Int -> Prop) (g : Int -> Int -> D) (i j : Int) (Q : D -> Prop) : rdI C g (.int i) (.int j) Q = (C i j /\ Q (g i j)) := by
 apply propext
 constructor
 ·rintro ⟨i', j', e1, e2, h, q⟩
  cases e1; cases e2; exact ⟨h, q⟩
 ·rintro ⟨h, q⟩
  exact ⟨i, j, rfl, rfl, h, q⟩
theorem je (g : Int -> Int -> D) (i j : Int) (Q : D -> Prop) : gE g (.int i) (.int j) Q = Q (g i j) := by
 apply propext
 constructor
 ·rintro ⟨i', j', e1, e2, q⟩
  cases e1; cases e2; exact q
 ·intro q
  exact ⟨i, j, rfl, rfl, q⟩
theorem uN (d : D) (r : Ro) (Q : D -> Prop) : jX 0 (some (.val d) :: r) Q = Q d := by
 apply propext
 constructor
 ·rintro ⟨d', e, q⟩
  cases e; exact q
 ·intro q; exact ⟨d, rfl, q⟩
theorem uA (n : Nat) (x : Option Sl) (r : Ro) (Q : D -> Prop) : jX (n + 1) (x :: r) Q = jX n r Q := rfl
theorem xi (x y : Option Sl) (r : Ro) : List.set (x :: r) 0 y = y :: r := rfl
theorem xn (n : Nat) (x y : Option Sl) (r : Ro) : List.set (x :: r) (n + 1) y = x :: List.set r n y := rfl
theorem w7 (k : Bool) (R : Bool -> Prop) : (∃ c, (D.bl k) = .bl c /\ R c) = R k := by
 apply propext
 constructor
 ·rintro ⟨c, e, q⟩; cases e; exact q
 ·intro q; exact ⟨k, rfl, q⟩
theorem uF (k : Int) (R : Int -> Prop) : (∃ c, (D.int k) = .int c /\ R c) = R k := by
 apply propext
 constructor
 ·rintro ⟨c, e, q⟩; cases e; exact q
 ·intro q; exact ⟨k, rfl, q⟩
theorem rA {α : Type} (k : α) (R : α -> Prop) : (∃ c, some k = some c /\ R c) = R k := by
 apply propext
 constructor
 ·rintro ⟨c, e, q⟩; cases e; exact q
 ·intro q; exact ⟨k, rfl, q⟩
theorem sz3 (a b c : D) : ([a, b, c] : List D).length <= sizeLine := by rw [sizeLine_eq]; show 3 <= 16777216; decide
theorem sz2 (a b : D) : ([a, b] : List D).length <= sizeLine := by rw [sizeLine_eq]; show 2 <= 16777216; decide
theorem sz1 (a : D) : ([a] : List D).length <= sizeLine := by rw [sizeLine_eq]; show 1 <= 16777216; decide
theorem sz4 (a b c d : D) : ([a, b, c, d] : List D).length <= sizeLine := by rw [sizeLine_eq]; show 4 <= 16777216; decide
theorem qG (t : Bool) (xs : List D) (R : List D -> Prop) : (∃ ys, ((∃ t', [D.lst t xs] = [.lst t' ys]) ∨ [D.lst t xs] = [.tup ys]) /\ R ys) = R xs := by
 apply propext
 constructor
 ·rintro ⟨c, e, q⟩
  rcases e with ⟨_, e⟩ | e
  ·cases e; exact q
  ·cases e
 ·intro q; exact ⟨xs, .inl ⟨t, rfl⟩, q⟩
theorem rf (xs : List D) (R : List D -> Prop) : (∃ ys, ((∃ t', [D.tup xs] = [.lst t' ys]) ∨ [D.tup xs] = [.tup ys]) /\ R ys) = R xs := by
 apply propext
 constructor
 ·rintro ⟨c, e, q⟩
  rcases e with ⟨_, e⟩ | e
  ·cases e
  ·cases e; exact q
 ·intro q; exact ⟨xs, .inr rfl, q⟩
theorem tZ (a b : D) (R : D -> D -> Prop) : (∃ d e, [a, b] = [d, e] /\ R d e) = R a b := by
 apply propext
 constructor
 ·rintro ⟨_, _, e, q⟩; cases e; exact q
 ·intro q; exact ⟨a, b, rfl, q⟩
theorem qE (ds : List D) : isT "tuple" (.tup ds) = true := by
 show (("tuple" : String) == "tuple" || (("tuple" : String) == "bool" && ("tuple" : String) == "int")) = true
 decide
theorem qR (t : Bool) (ds : List D) : isT "list" (.lst t ds) = true := by
 show (("list" : String) == "list" || (("list" : String) == "bool" && ("list" : String) == "int")) = true
 decide
theorem nL (ds : List D) : isT "list" (.tup ds) = false := by
 show (("tuple" : String) == "list" || (("tuple" : String) == "bool" && ("list" : String) == "int")) = false
 decide
theorem qN (i : Int) : isT "int" (.int i) = true := by
 show (("int" : String) == "int" || (("int" : String) == "bool" && ("int" : String) == "int")) = true
 decide
theorem lM (i : Int) : isT "bool" (.int i) = false := by
 show (("int" : String) == "bool" || (("int" : String) == "bool" && ("bool" : String) == "int")) = false
 decide
theorem m8 : eO .non = true := rfl
theorem m9 (ds : List D) : eO (.tup ds) = false := rfl
theorem mU (t : Bool) (ds : List D) : eO (.lst t ds) = false := rfl
theorem nN (i : Int) : eO (.int i) = false := rfl
theorem yq (i : Int) : okD (.int i) := by unfold okD; rw [pyD, plD] <;> first | exact ⟨rfl, rfl⟩ | (intros; contradiction)
theorem xN : okD .non := by unfold okD; rw [pyD, plD] <;> first | exact ⟨rfl, rfl⟩ | (intros; contradiction)
theorem ua (a b c : Int) : okD (.tup [.int a, .int b, .int c]) := by unfold okD; simp only [pyD, cG, plD, jd]; exact ⟨rfl, rfl⟩
abbrev T3 (a b c : Int) : D := .tup [.int a, .int b, .int c]
theorem CD.lit {i n : Int} (h : n ≠ 0 /\ n.natAbs < 2 ^ 64 := by decide) : CD i n := ⟨h.1, Nat.lt_of_lt_of_le h.2 (Nat.pow_le_pow_right (by decide) (by decide))⟩
theorem qJ (a b : Int) (R : Int -> Int -> Prop) : (∃ i j : Int, [D.int a, D.int b] = [.int i, .int j] /\ R i j) = R a b := by
 apply propext
 constructor
 ·rintro ⟨_, _, e, q⟩; cases e; exact q
 ·intro q; exact ⟨a, b, rfl, q⟩
theorem rh (a : Int) (R : Int -> Prop) : (∃ i : Int, [D.int a] = [.int i] /\ R i) = R a := by
 apply propext
 constructor
 ·rintro ⟨_, e, q⟩; cases e; exact q
 ·intro q; exact ⟨a, rfl, q⟩
theorem wL {ns : List Int} {k : Int} (h0 : 0 <= k) (h1 : k < ns.length) : atI (ns.map D.int) k = some (.int (ns.getD k.toNat 0)) := by
 have e : k = ((k.toNat : Nat) : Int) := by omega
 have hl : k.toNat < ns.length := by omega
 have q : atI (ns.map D.int) ((k.toNat : Nat) : Int) = some (.int (ns.getD k.toNat 0)) := bA (by simp [List.getElem?_map, List.getElem?_eq_getElem hl, List.getD_eq_getElem?_getD])
 rw [<- e] at q
 exact q
theorem iJ {xs ys : List Int} (h : xs.map D.int = ys.map D.int) : xs = ys := by
 induction xs generalizing ys with
 | nil => cases ys with
  | nil => rfl
  | cons y r => simp at h
 | cons x r ih => cases ys with
  | nil => simp at h
  | cons y q =>
   simp only [List.map_cons, List.cons.injEq, D.int.injEq] at h
   rw [h.1, ih h.2]
theorem gdN (n : Nat) (t : DGs) (tg : Bool) (ds : List D) (h : ds.length = n) (ρ : Ro) (Q : Ro -> Prop) : d5 n t (.lst tg ds) ρ Q = t ds ρ Q := by
 apply propext
 unfold d5
 constructor
 ·rintro ⟨ds', e, _, h⟩
  rcases e with e | ⟨_, e⟩
  ·cases e
  ·cases e; exact h
 ·intro q; exact ⟨ds, .inr ⟨tg, rfl⟩, h, q⟩
theorem mw (n : Nat) (t : DGs) (ds : List D) (h : ds.length = n) (ρ : Ro) (Q : Ro -> Prop) : d5 n t (.tup ds) ρ Q = t ds ρ Q := by
 apply propext
 unfold d5
 constructor
 ·rintro ⟨ds', e, _, h⟩
  rcases e with e | ⟨_, e⟩
  ·cases e; exact h
  ·cases e
 ·intro q; exact ⟨ds, .inl rfl, h, q⟩
theorem gdc (g : DG) (u : DGs) (x : D) (r : List D) (ρ : Ro) (Q : Ro -> Prop) : bf g u (x :: r) ρ Q = g x ρ fun ρ' => u r ρ' Q := by
 apply propext
 unfold bf
 constructor
 ·rintro ⟨d, r', e, h⟩; cases e; exact h
 ·intro h; exact ⟨x, r, rfl, h⟩
theorem gdn (ρ : Ro) (Q : Ro -> Prop) : gg [] ρ Q = Q ρ := by apply propext; unfold gg; simp
theorem gd2 (g1 g2 : DG) (tg : Bool) (a b : D) (ρ : Ro) (Q : Ro -> Prop) : d5 2 (bf g1 (bf g2 gg)) (.lst tg [a, b]) ρ Q = g1 a ρ fun ρ1 => g2 b ρ1 Q := by
 (first | rw [gdN 2 _ _ _ rfl] | rw [gdN 3 _ _ _ rfl]); simp only [gdc, gdn]
theorem y6 (g1 g2 : DG) (a b : D) (ρ : Ro) (Q : Ro -> Prop) : d5 2 (bf g1 (bf g2 gg)) (.tup [a, b]) ρ Q = g1 a ρ fun ρ1 => g2 b ρ1 Q := by
 (first | rw [mw 2 _ _ rfl] | rw [mw 4 _ _ rfl]); simp only [gdc, gdn]
theorem z9 (g1 g2 g3 g4 : DG) (a b c d : D) (ρ : Ro) (Q : Ro -> Prop) : d5 4 (bf g1 (bf g2 (bf g3 (bf g4 gg)))) (.tup [a, b, c, d]) ρ Q = g1 a ρ fun ρ1 => g2 b ρ1 fun ρ2 => g3 c ρ2 fun ρ3 => g4 d ρ3 Q := by
 (first | rw [mw 2 _ _ rfl] | rw [mw 4 _ _ rfl]); simp only [gdc, gdn]
end PD
namespace PD
open PySem PySem.Spec PyProof.Rows L2
section
variable {X : Cx} {pos : Pos}
theorem Rel.putG {W : Own} {H H' : Hp} {σ : St} {ρ : Ro} {i : Nat} {p : Addr} {x : OS} {o : HO} (r : Rel X W H σ ρ) (hi : i < σ.length) (sm : ar H H') (hp : H p = none) (hk : X.K.lookup p = none) (h' : H' p = some o) (hd : cq X.K (fun t b => W.bad t b ∨ b = p) H' (W.sub σ.length i) x o) :
  Rel X ((W.drop i).put i p) H' (σ.set i (some (.ref p))) (ρ.set i (some (.ob x))) /\ Fwd W H ((W.drop i).put i p) H' := by
 have hO : ∀ j a, ((W.drop i).put i p).O j = some a -> (j = i /\ a = p) ∨ (j ≠ i /\ W.O j = some a) := fun j a h => by
  have h1 : (if j = i then some p else (if j = i then none else W.O j)) = some a := h
  by_cases e : j = i
  ·rw [if_pos e] at h1; cases h1; exact .inl ⟨e, rfl⟩
  ·rw [if_neg e, if_neg e] at h1; exact .inr ⟨e, h1⟩
 have hOi : ((W.drop i).put i p).O i = some p := by show (if i = i then some p else _) = _; rw [if_pos rfl]
 have hOj : ∀ j, j ≠ i -> ((W.drop i).put i p).O j = W.O j := fun j n => by show (if j = i then some p else (if j = i then none else W.O j)) = _; rw [if_neg n, if_neg n]
 have hS : ∀ j k b, W.sub σ.length j k = some b -> ((W.drop i).put i p).sub σ.length j k = some b := fun j k b e => (hOj _ (lQ hi)).trans e
 have bad' : ∀ t a, ((W.drop i).put i p).bad t a -> W.bad t a ∨ a = p := fun t a z => by
  rcases z with z | ⟨j, z⟩ | z
  ·exact .inl (.inl z)
  ·rcases hO j a z with ⟨_, q⟩ | ⟨_, q⟩
   ·exact .inr q
   ·exact .inl (.inr (.inl ⟨j, q⟩))
  ·exact .inl (.inr (.inr z))
 have nb : ∀ {t : Bool} {a : Addr} {ws : List V}, SqG X.K H t a ws -> a ≠ p := fun {t a ws} q z => by
  subst z
  rcases q.1 with (q | ⟨o, q⟩) | ⟨o, its, n, q, _⟩
  ·rw [hp] at q; cases q
  ·rw [hp] at q; cases q
  ·rw [hk] at q; cases q
 have up : ∀ (d : D) (v : V), Den X.K W.bad H d v -> Den X.K ((W.drop i).put i p).bad H' d v := Den.map (fun _ _ q => SqT.same sm q) (fun t a ws n q => ⟨fun z => (bad' t a z).elim n (nb q), q.same sm⟩) (fun a _ q => sm a _ q)
 have ups : ∀ (ds : List D) (vs' : List V), ah X.K W.bad H ds vs' -> ah X.K ((W.drop i).put i p).bad H' ds vs' := ah.map (fun _ _ q => SqT.same sm q) (fun t a ws n q => ⟨fun z => (bad' t a z).elim n (nb q), q.same sm⟩) (fun a _ q => sm a _ q)
 refine ⟨⟨fun j d h => ?_, fun j x h => ?_, fun j k a h1 h2 => ?_, fun j a h1 => ?_, fun j a h1 => ?_, fun a h => let ⟨_, q⟩ := r.bt a h; sm.ex q, fun a h => let ⟨_, q⟩ := r.st a h; sm.ex q, r.ent.trans sm, r.tab.same sm⟩, rfl, rfl, fun b o _ q n => sm.kp b o q n, fun j a h => ?_, sm.tb, sm.ok⟩
 ·by_cases hj : j = i
  ·subst hj
   rw [List.getElem?_set] at h
   split at h
   ·split at h <;> cases h
   ·omega
  ·rw [List.getElem?_set_ne (Ne.symm hj)] at h
   obtain ⟨w, h1, h2⟩ := r.val j d h
   exact ⟨w, by rw [List.getElem?_set_ne (Ne.symm hj)]; exact h1, up d w h2⟩
 ·by_cases hj : j = i
  ·subst hj
   rw [List.getElem?_set] at h
   split at h
   ·split at h
    ·cases h
     exact ⟨p, _, hOi, by simp [hi], h', by rw [List.length_set]; exact hd.fewer (fun t a z => bad' t a z) (hS _)⟩
    ·cases h
   ·omega
  ·rw [List.getElem?_set_ne (Ne.symm hj)] at h
   obtain ⟨a, ws, h1, h2, h3, h4⟩ := r.own j x h
   exact ⟨a, ws, (hOj j hj).trans h1, by rw [List.getElem?_set_ne (Ne.symm hj)]; exact h2, sm.kp _ _ h3 h4.mut.nt, by rw [List.length_set]; exact h4.map ups fun k b q => ⟨hS j k b q, fun _ z => sm _ _ z⟩⟩
 ·rcases hO j a h1 with ⟨e1, q1⟩ | ⟨e1, q1⟩ <;> rcases hO k a h2 with ⟨e2, q2⟩ | ⟨e2, q2⟩
  ·rw [e1, e2]
  ·subst q1
   obtain ⟨_, _, ws, q, _⟩ := r.kn k _ q2
   rw [hp] at q; cases q
  ·subst q2
   obtain ⟨_, _, ws, q, _⟩ := r.kn j _ q1
   rw [hp] at q; cases q
  ·exact r.inj j k a q1 q2
 ·rcases hO j a h1 with ⟨e1, q1⟩ | ⟨e1, q1⟩
  ·subst q1
   exact ⟨hk, ⟨fun z => (by obtain ⟨o, q⟩ := r.bt _ z; rw [hp] at q; cases q), fun z => (by obtain ⟨o, q⟩ := r.st _ z; rw [hp] at q; cases q)⟩, _, h', hd.mut⟩
  ·obtain ⟨a1, a2, ws, a3, a4⟩ := r.kn j a q1
   exact ⟨a1, a2, ws, sm.kp _ _ a3 a4.nt, a4⟩
 ·rcases hO j a h1 with ⟨e1, q1⟩ | ⟨e1, q1⟩
  ·subst q1; exact r.ent.free hp
  ·exact r.ke j a q1
 ·rcases hO j a h with ⟨e1, q1⟩ | ⟨e1, q1⟩
  ·subst q1; exact .inr hp
  ·exact .inl ⟨j, q1⟩
theorem Rel.putOwn2 {W : Own} {H H' : Hp} {σ : St} {ρ : Ro} {i : Nat} {p : Addr} {ds : List D} {vs : List V} (r : Rel X W H σ ρ) (hi : i < σ.length) (sm : ar H H') (hp : H p = none) (hk : X.K.lookup p = none) (h' : H' p = some (.lst vs)) (hd : ah X.K (fun t b => W.bad t b ∨ b = p) H' ds vs) :
  Rel X ((W.drop i).put i p) H' (σ.set i (some (.ref p))) (ρ.set i (some (.own ds))) /\ Fwd W H ((W.drop i).put i p) H' := r.putG hi sm hp hk h' (.lst hd)
theorem ah.apart {K : PySem.W.Frag} {P : Bool -> Addr -> Prop} {H : Hp} {a : Addr} {o : HO} {ds : List D} {us : List V} (n : H a = none) (k : K.lookup a = none) (h : ah K P H ds us) (nt : NT o := by exact True.intro) : ah K (fun t b => P t b ∨ b = a) (L2.upd H a o) ds us :=
 ah.map (fun _ _ q => SqT.same (ar.upd n nt) q) (fun t b ws p q => ⟨(fun z => z.elim p fun z => by
  subst z
  rcases q.1 with (q | ⟨o, q⟩) | ⟨o, its, m, q, _⟩
  ·rw [n] at q; cases q
  ·rw [n] at q; cases q
  ·rw [k] at q; cases q), q.same (ar.upd n nt)⟩) (fun b _ q => (ar.upd n nt) b _ q) ds us h
theorem Rel.mutG {W : Own} {H : Hp} {σ : St} {ρ : Ro} {i : Nat} {a : Addr} {x x' : OS} {o o' : HO} (r : Rel X W H σ ρ) (eo : ρ[i]? = some (some (.ob x))) (oa : W.O i = some a) (sa : σ[i]? = some (some (.ref a))) (ha : H a = some o) (hm : i9 o) (hd : cq X.K W.bad H (W.sub σ.length i) x' o') :
  Rel X W (L2.upd H a o') σ (ρ.set i (some (.ob x'))) /\ Fwd W H W (L2.upd H a o') := by
 have badA : ∀ t, W.bad t a := fun _ => .inr (.inl ⟨i, oa⟩)
 have noT : ∀ b ws, SqT X.K H b ws -> SqT X.K (L2.upd H a o') b ws := fun b ws q => by
  rcases q with (q | ⟨u, q⟩) | q
  ·exact .inl (.inl (by rw [aw (gZ q ha (by intro z; subst z; exact hm))]; exact q))
  ·exact .inl (.inr ⟨u, by rw [aw (gZ q ha (by intro z; subst z; exact hm))]; exact q⟩)
  ·exact .inr q
 have noL : ∀ t b ws, ¬ W.bad t b -> SqG X.K H t b ws -> ¬ W.bad t b /\ SqG X.K (L2.upd H a o') t b ws := fun t b ws n q => by
  have hne : b ≠ a := fun e => n (e ▸ badA t)
  refine ⟨n, ?_, fun z => ⟨by rw [aw hne]; exact (q.2 z).1, (q.2 z).2⟩⟩
  rcases q.1 with (q | ⟨u, q⟩) | q
  ·exact .inl (.inl (by rw [aw hne]; exact q))
  ·exact .inl (.inr ⟨u, by rw [aw hne]; exact q⟩)
  ·exact .inr q
 have noX : ∀ b φ, H b = some (.ext φ) -> L2.upd H a o' b = some (.ext φ) := fun b φ q => by rw [aw (gZ q ha (by intro z; subst z; exact hm))]; exact q
 have hl' : i < ρ.length := (List.getElem?_eq_some_iff.mp eo).1
 have il : i < σ.length := (List.getElem?_eq_some_iff.mp sa).1
 have hSb : ∀ j k b, W.sub σ.length j k = some b -> W.sub σ.length j k = some b /\ ∀ us, H b = some (.lst us) -> L2.upd H a o' b = some (.lst us) := fun j k b q => ⟨q, fun us z => by rw [aw (fun e => lQ il (r.inj _ _ a (by rw [<- e]; exact q) oa))]; exact z⟩
 have tr : ∀ b u, H b = some u -> ∃ u', L2.upd H a o' b = some u' := fun b u q => by
  by_cases hba : b = a
  ·subst hba; exact ⟨_, aD⟩
  ·exact ⟨u, by rw [aw hba]; exact q⟩
 refine ⟨⟨fun j d h => ?_, fun j y h => ?_, r.inj, fun j b hb => ?_, r.ke, fun b hb => let ⟨u, q⟩ := r.bt b hb; tr b u q, fun b hb => let ⟨u, q⟩ := r.st b hb; tr b u q, r.ent.ins (r.ke i a oa) ha hm hd.mut.nt, r.tab.upd hd.mut.nt (.inr ⟨o, ha, hm.ne, hm.nt⟩)⟩, Fwd.upd oa ha hm hd.mut.nt⟩
 ·by_cases hj : j = i
  ·subst hj
   rw [List.getElem?_set_self hl'] at h; cases h
  ·rw [List.getElem?_set_ne (Ne.symm hj)] at h
   obtain ⟨w, h1, h2⟩ := r.val j d h
   exact ⟨w, h1, Den.map noT noL noX d w h2⟩
 ·by_cases hj : j = i
  ·subst hj
   rw [List.getElem?_set_self hl'] at h
   cases h
   exact ⟨a, o', oa, sa, aD, hd.map (ah.map noT noL noX) (hSb _)⟩
  ·rw [List.getElem?_set_ne (Ne.symm hj)] at h
   obtain ⟨b, ws, h1, h2, h3, h4⟩ := r.own j y h
   have hne : b ≠ a := fun e => hj (r.inj j i a (by rw [<- e]; exact h1) oa)
   exact ⟨b, ws, h1, h2, by rw [aw hne]; exact h3, h4.map (ah.map noT noL noX) (hSb _)⟩
 ·obtain ⟨k1, k2, ws, k3, k4⟩ := r.kn j b hb
  refine ⟨k1, k2, ?_⟩
  by_cases hba : b = a
  ·subst hba; exact ⟨_, aD, hd.mut⟩
  ·exact ⟨ws, by rw [aw hba]; exact k3, k4⟩
theorem Rel.mut {W : Own} {H : Hp} {σ : St} {ρ : Ro} {i : Nat} {a : Addr} {ds ds' : List D} {vs vs' : List V} (r : Rel X W H σ ρ) (eo : ρ[i]? = some (some (.own ds))) (oa : W.O i = some a) (sa : σ[i]? = some (some (.ref a))) (ha : H a = some (.lst vs)) (hd : ah X.K W.bad H ds' vs') :
  Rel X W (L2.upd H a (.lst vs')) σ (ρ.set i (some (.own ds'))) /\ Fwd W H W (L2.upd H a (.lst vs')) := r.mutG eo oa sa ha True.intro (.lst hd)
variable {es : List Expr} {t : DA}
def v7 (i : Nat) (t : DA) : DS := fun E ρ => t ρ fun ds => ds.length <= sizeLine /\ E.nx (ρ.set i (some (.own ds)))
theorem lK {x : Str} {pos' lpos : Pos} (i : Nat) (hN : X.N.Nodup) (h : PAD X es t) (hi : X.N[i]? = some x := by rfl) (hx : Loc X.env.scope x := by first | exact Or.inl rfl | exact Or.inr rfl)
  (hs : swapsWith (.List es lpos) (some (.Name x pos')) pos.line X.env = pure false := by rfl) (hf : X.fn x = true ∨ X.env.scope.names.lookup x = some .local := by first | exact .inl rfl | exact .inr rfl | assumption) :
  PSD X (.Assign [.Name x pos'] (.List es lpos) pos) (v7 i t) := by
 intro pins s σ H W ρ E I r hq
 refine wpAny_Assign_Name (wpAny_List_spliced (thn (h lpos pins s σ H W ρ _ I r hq) fun us s1 ⟨vs, H1, ds, I1, rv, e1, hd, z, q⟩ => ?_)) hs
 rw [<- hd.len] at z
 refine ⟨by rw [<- rv.length]; exact z, ?_⟩
 have hf1 : H1 s1.heap.objs.size = none := I1.hok.fresh (Nat.le_refl _)
 have I2 := I1.laid (o := .lst vs) (t' := s1.toks) (fun b u e => Heap.get?_push_of_some _ e) (Nat.le_refl _) ⟨z, us, 0, rv, Heap.get?_push_size _ rfl⟩
 have rp := (r.same e1).putOwn2 (Inv.ilt I1 hi) (ar.upd (o := .lst vs) hf1) hf1 (Inv.kfresh I1) aD (ah.apart hf1 (Inv.kfresh I1) hd)
 exact eZ (v := .ref s1.heap.objs.size) I2 hN hi hx rfl (fun s2 I3 => ⟨_, _, _, I3, (Fwd.same e1).trans rp.2, _, rp.1, q⟩) hf
def mr (i : Nat) (te : DE) : DS := fun E ρ => ∃ ds, ρ[i]? = some (some (.own ds)) /\ te ρ fun d => ds.length < sizeLine /\ E.nx (ρ.set i (some (.own (ds ++ [d]))))
theorem jS {x : Str} {e : Expr} {te : DE} {px apos cpos : Pos} (i : Nat) (he : PED X e te) (hi : X.N[i]? = some x := by rfl) (hv : Vis X.env.scope x := by first | exact Or.inl rfl | exact Or.inr (Or.inl rfl) | exact Or.inr (Or.inr rfl))
  (hd : (x == ("__debug__" : Str)) = false := by decide) (hcd : (x == ("__classdict__" : Str)) = false := by decide)
  (hbase : attributeBase (.Name x px) "append" X.env (eval (.Name x px) X.env) = eval (.Name x px) X.env := by rfl)
  (hfew : ((backTo cpos (starEach [e] X.env)).all (fun x => !x.1) && (backToKw cpos (keywordEach [] X.env)).all (fun x => x.1.isSome) && decide ([e].length + ([] : List Keyword).length + (if ([] : List Keyword).isEmpty then 0 else 1) < 30)) = true := by rfl)
  (hline : (apos.endLine == cpos.line) = true := by rfl) (hst : starEach [e] X.env = (false, eval e X.env) :: starEach [] X.env := by rfl) (hplain : (backTo cpos (starEach [] X.env)).any (·.1) = false := by rfl)
  (hs : swapsWith (.Call (.Attribute (.Name x px) "append" apos) [e] [] cpos) none pos.line X.env = pure false := by rfl) :
  PSD X (.Expr (.Call (.Attribute (.Name x px) "append" apos) [e] [] cpos) pos) (mr i te) := by
 have P0 := j8 (pos := pos) (rR PySem.F.plainAttrs_list PySem.F.slot_list_append PySem.F.type_list_append jE (gH hi hv hd hcd) (cD he.pe gy hst) hbase hfew hline hst hplain) hs
 refine PSD.of P0 fun σ H W ρ E r hl h => ?_
 obtain ⟨ds, eo, h⟩ := h
 obtain ⟨a, vs, oa, sa, ha, hds⟩ := r.ownL i ds eo
 refine ⟨.ref a, sa, .inl ⟨rfl, _, SqL.of ha⟩, W, ρ, _, r, h, fun v H' d e1 hd' q => ?_⟩
 obtain ⟨z, q⟩ := q
 have ha' := e1 _ _ ha
 have r' := r.same e1
 have hds' := hds.same e1
 refine ⟨a, vs, v, rfl, rfl, ha', by rw [hds'.len]; exact z, ?_⟩
 obtain ⟨r2, f2⟩ := r'.mut (vs' := vs ++ [v]) eo oa sa ha' (hds'.append (ah.one hd'))
 exact ⟨W, _, (Fwd.same e1).trans f2, r2, q⟩
theorem Rel.freeze {X : Cx} {W : Own} {H : Hp} {σ : St} {ρ : Ro} {i : Nat} {ds : List D} (r : Rel X W H σ ρ) (e : ρ[i]? = some (some (.own ds))) : Rel X (W.drop i) H σ (ρ.set i (some (.val (.lst true ds)))) := by
 obtain ⟨a, vs, oa, sa, ha, hds⟩ := r.ownL i ds e
 have il : i < σ.length := (List.getElem?_eq_some_iff.mp sa).1
 have hl' : i < ρ.length := (List.getElem?_eq_some_iff.mp e).1
 have nb : ¬ (W.drop i).bad true a := fun z => by
  rcases z with z | ⟨j, z⟩ | ⟨_, z⟩
  rotate_right
  ·exact (r.kn i a oa).2.1.2 z
  ·exact (r.kn i a oa).2.1.1 z
  ·have z' : (if j = i then none else W.O j) = some a := z
   by_cases ej : j = i
   ·rw [if_pos ej] at z'; cases z'
   ·rw [if_neg ej] at z'; exact ej (r.inj j i a z' oa)
 have hd : Den X.K (W.drop i).bad H (.lst true ds) (.ref a) := Den.lst nb (.new ha (r.kn i a oa).1) (hds.fewer fun _ _ => Own.drop_bad)
 refine ⟨fun j x h => ?_, fun j x h => ?_, fun j k b h1 h2 => ?_, fun j b h1 => ?_, fun j b h1 => ?_, r.bt, r.st, r.ent, r.tab⟩
 ·by_cases hj : j = i
  ·subst hj
   rw [List.getElem?_set_self hl'] at h
   cases h
   exact ⟨.ref a, sa, hd⟩
  ·rw [List.getElem?_set_ne (Ne.symm hj)] at h
   obtain ⟨w, h1, h2⟩ := r.val j x h
   exact ⟨w, h1, h2.fewer fun _ _ => Own.drop_bad⟩
 ·by_cases hj : j = i
  ·subst hj
   rw [List.getElem?_set_self hl'] at h; cases h
  ·rw [List.getElem?_set_ne (Ne.symm hj)] at h
   obtain ⟨b, ws, h1, h2, h3, h4⟩ := r.own j x h
   exact ⟨b, ws, by show (if j = i then none else W.O j) = _; rw [if_neg hj]; exact h1, h2, h3, h4.fewer (fun _ _ => Own.drop_bad) (Own.drop_sub il)⟩
 ·have h1' : (if j = i then none else W.O j) = some b := h1
  have h2' : (if k = i then none else W.O k) = some b := h2
  by_cases e1 : j = i
  ·rw [if_pos e1] at h1'; cases h1'
  ·by_cases e2 : k = i
   ·rw [if_pos e2] at h2'; cases h2'
   ·rw [if_neg e1] at h1'
    rw [if_neg e2] at h2'
    exact r.inj j k b h1' h2'
 ·have h1' : (if j = i then none else W.O j) = some b := h1
  by_cases e1 : j = i
  ·rw [if_pos e1] at h1'; cases h1'
  ·rw [if_neg e1] at h1'
   exact r.kn j b h1'
 ·have h1' : (if j = i then none else W.O j) = some b := h1
  by_cases e1 : j = i
  ·rw [if_pos e1] at h1'; cases h1'
  ·rw [if_neg e1] at h1'
   exact r.ke j b h1'
def mK (i : Nat) (t : DS) : DS := fun E ρ => ∃ ds, ρ[i]? = some (some (.own ds)) /\ t E (ρ.set i (some (.val (.lst true ds))))
theorem fZ {sts : List Stmt} {t : DS} (i : Nat) (h : cy X sts t) : cy X sts (mK i t) := by
 intro pins s σ H W ρ E I r hq
 obtain ⟨ds, e, hq⟩ := hq
 exact thn (h pins s σ H (W.drop i) _ E I (r.freeze e) hq) fun _ _ z => z.up (Fwd.drop W H i)
end
def cR (env : Env) (ns : List Str) : List (Str × Addr) := ns.filterMap fun n => (env.cells.lookup n).map fun c => (n, c)
theorem jx {env : Env} : ∀ {ns : List Str} {x : Str} {c : Addr}, (cR env ns).lookup x = some c -> env.cells.lookup x = some c
 | [], _, _, h => by cases h
 | n :: r, x, c, h => by
  unfold cR at h
  rw [List.filterMap_cons] at h
  cases e : env.cells.lookup n with
  | none =>
   rw [e] at h
   exact jx (ns := r) h
  | some c' =>
   rw [e] at h
   have h' : List.lookup x ((n, c') :: cR env r) = some c := h
   rw [List.lookup_cons] at h'
   cases q : x == n with
   | true =>
    rw [q] at h'
    have ex : x = n := by simpa using q
    subst ex
    rw [e]
    exact h'
   | false =>
    rw [q] at h'
    exact jx (ns := r) h'
theorem kP {env : Env} : ∀ {ns : List Str} {x : Str} {c : Addr}, x ∈ ns -> env.cells.lookup x = some c -> (cR env ns).lookup x = some c
 | [], _, _, h, _ => by cases h
 | n :: r, x, c, h, e => by
  unfold cR
  rw [List.filterMap_cons]
  by_cases ex : x = n
  ·subst ex
   rw [e]
   show List.lookup x ((x, c) :: _) = some c
   simp [List.lookup_cons]
  ·have h' : x ∈ r := by
    rcases List.mem_cons.mp h with z | z
    ·exact absurd z ex
    ·exact z
   have ih := kP (ns := r) h' e
   cases q : env.cells.lookup n with
   | none => exact ih
   | some c' =>
    show List.lookup x ((n, c') :: cR env r) = some c
    rw [List.lookup_cons]
    have : (x == n) = false := by simpa using ex
    rw [this]
    exact ih
structure CSc (osc sc : Scope) (xs ns : List Str) : Prop where
 kind : sc.kind = .function
 nocell : ∀ y ∈ sc.names, y.2 ≠ .cell
 names : ∀ y ∈ sc.names, y.2 = .local -> sc.names.lookup y.1 = some .local
 tgt : ∀ x ∈ xs, sc.names.lookup x = some .local
 free : ∀ y ∈ sc.names, y.2 = .free -> y.1 ∈ ns /\ osc.names.lookup y.1 = some .cell
 cells : ∀ n ∈ ns, sc.names.lookup n = some .free /\ osc.names.lookup n = some .cell
 nd : (xs ++ ns).Nodup
def aQ (X : Cx) (sc : Scope) (ns xs : List Str) (C : Addr) (s₂ : Shared) (H₂ : Hp) (fp : List Addr) (XE : Value -> Shared -> Prop) : Cx :=
 { X with N := xs ++ ns, s₀ := s₂, H₀ := H₂, env := compEnvC sc (cR X.env ns) C X.env, outer := X.stack, stack := X.stack, ex := fp, fn := fun _ => false, pn := [], xe := XE }
theorem iT {env : Env} (hk : env.scope.kind = .function) : ∀ {names : List (Str × NameKind)} {n : Str}, names.lookup n = some .free -> env.kindOf n = some .cell →
  (names.map fun (n, k) => if (k == NameKind.free && env.scope.kind == .function && env.kindOf n == some .cell) then (n, NameKind.cell) else (n, k)).lookup n = some .cell
 | [], _, h, _ => by simp at h
 | (m, k) :: r, n, h, hc => by
  have ih := @iT env hk r n
  show List.lookup n ((if (k == NameKind.free && env.scope.kind == .function && env.kindOf m == some .cell) = true then (m, NameKind.cell) else (m, k)) :: _) = _
  cases hx : n == m with
  | true =>
   simp only [List.lookup_cons, hx] at h
   cases h
   have e : n = m := by simpa using hx
   subst e
   rw [hk, hc]
   simp [List.lookup_cons]
  | false =>
   simp only [List.lookup_cons, hx] at h
   by_cases hcc : (k == NameKind.free && env.scope.kind == .function && env.kindOf m == some .cell) = true
   ·rw [if_pos hcc]; simp only [List.lookup_cons, hx]; exact ih h hc
   ·rw [if_neg hcc]; simp only [List.lookup_cons, hx]; exact ih h hc
theorem iH {env : Env} : ∀ {names : List (Str × NameKind)} {n : Str} {k : NameKind},
  (names.map fun (n, k) => if (k == NameKind.free && env.scope.kind == .function && env.kindOf n == some .cell) then (n, NameKind.cell) else (n, k)).lookup n = some k -> (k = .cell ∨ k = .free) →
  (∃ y ∈ names, y.1 = n /\ y.2 = .free) ∨ ∃ y ∈ names, y.1 = n /\ y.2 = .cell
 | [], _, _, h, _ => by simp at h
 | (m, j) :: r, n, k, h, hk => by
  have h' : List.lookup n ((if (j == NameKind.free && env.scope.kind == .function && env.kindOf m == some .cell) = true then (m, NameKind.cell) else (m, j)) :: (r.map fun (n, k) => if (k == NameKind.free && env.scope.kind == .function && env.kindOf n == some .cell) then (n, NameKind.cell) else (n, k))) = some k := h
  have up : ((∃ y ∈ r, y.1 = n /\ y.2 = .free) ∨ ∃ y ∈ r, y.1 = n /\ y.2 = .cell) -> ((∃ y ∈ (m, j) :: r, y.1 = n /\ y.2 = .free) ∨ ∃ y ∈ (m, j) :: r, y.1 = n /\ y.2 = .cell) := fun z => by
   rcases z with ⟨y, hy, q⟩ | ⟨y, hy, q⟩
   ·exact .inl ⟨y, List.mem_cons_of_mem _ hy, q⟩
   ·exact .inr ⟨y, List.mem_cons_of_mem _ hy, q⟩
  cases hx : n == m with
  | true =>
   have e : n = m := by simpa using hx
   subst e
   by_cases hcc : (j == NameKind.free && env.scope.kind == .function && env.kindOf n == some .cell) = true
   ·have : j = .free := by
     simp only [Bool.and_eq_true] at hcc
     exact beq_iff_eq.mp hcc.1.1
    exact .inl ⟨(n, j), List.mem_cons_self, rfl, this⟩
   ·rw [if_neg hcc] at h'
    simp only [List.lookup_cons, hx] at h'
    cases h'
    rcases hk with hk | hk
    ·exact .inr ⟨(n, j), List.mem_cons_self, rfl, hk⟩
    ·exact .inl ⟨(n, j), List.mem_cons_self, rfl, hk⟩
  | false =>
   by_cases hcc : (j == NameKind.free && env.scope.kind == .function && env.kindOf m == some .cell) = true
   ·rw [if_pos hcc] at h'; simp only [List.lookup_cons, hx] at h'
    exact up (iH h' hk)
   ·rw [if_neg hcc] at h'; simp only [List.lookup_cons, hx] at h'
    exact up (iH h' hk)
end PD
namespace PD
open PySem PySem.Spec PyProof.Rows L2
def bc (ρ : Ro) (j : Nat) : Option Sl := match ρ[j]? with
 | some (some (.val d)) => some (.val d)
 | _ => none
def iv (σ : St) (j : Nat) : Option V := match σ[j]? with
 | some (some v) => some v
 | _ => none
section
variable {X : Cx} {pins : List (Addr × Obj)} {σ : St} {H : Hp} {s : Shared} {sc : Scope} {ns : List Str} {js : List Nat} {xs : List Str} {fp : List Addr}
theorem Inv.comp {XE : Value -> Shared -> Prop} {s₁ : Shared} {H₁ : Hp} {C : Addr} (I : Inv X pins σ H s) (S : CSc X.env.scope sc xs ns) (hj : js.length = ns.length /\ ∀ (i : Nat) (j : Nat) (n : Str), js[i]? = some j -> ns[i]? = some n -> X.N[j]? = some n) (hfp : ∀ b ∈ fp, dF X pins H b) (hfo : ∀ b ∈ fp, ∃ o, s.heap.get? b = some o) (hC : s.heap.objs.size <= C)
  (hos : s₁.os = s.os) (hg : AllBare s₁.gens) (hk : ∀ b o, s.heap.get? b = some o -> s₁.heap.get? b = some o) (hns : s₁.heap.Ns C fun _ => none) (hCn : H₁ C = none) (hs : ar H H₁) (hnew : ∀ b o, s.heap.get? b = some o -> H b = none -> H₁ b = none) (hok : HOk X.prog X.w H₁ s₁.heap) :
  Inv (aQ X sc ns xs C s H fp XE) [] (List.replicate xs.length none ++ js.map (iv σ)) H₁ s₁ := by
 have kd : X.env.scope.kind = .function := I.ok.kind
 have cab : ∀ y c, (cR X.env ns).lookup y = some c -> X.env.cells.lookup y = some c := fun y c e => jx e
 have cold : ∀ y c, (cR X.env ns).lookup y = some c -> ∃ v, s.heap.IsCell c v := fun y c e => I.cell y c (cab y c e)
 refine ⟨⟨I.ok.mod, S.kind, I.ok.glob, I.ok.blt, hC, fun y z c h1 h2 => I.ok.inj y z c (cab y c h1) (cab z c h2), fun y hy => ?_, fun y c h _ => (by cases h), I.ok.hd, I.ok.frames, .inl rfl, fun b hb => ?_, I.bs, Nat.le_trans I.ok.bsz I.sz, fun b o e hb => ?_, fun b hb z => ?_, I.stack, I.stkFree⟩,
  hos, hg, ⟨fun b o e n _ _ => hk b o e, fun b o e n _ _ => ⟨o.slots, hk b o e⟩, fun b o e n _ => hnew b o e n, fun b o e _ => ⟨o, hk b o e⟩, fun b xs e => hs b _ e, fun b o u e => hs b _ e, fun b ps e => hs.tb b ps e⟩, ⟨_, hns, fun i y v h1 h2 h3 => ?_⟩, fun y c e => ?_, hCn, fun y c e => ?_, fun p hp => absurd (show p ∈ ([] : List (Addr × Obj)) from hp) (by simp), hok, ?_⟩
 ·-- every cell of the block is one of the body's
  have hy' : ∃ k, ((relabel sc X.env).names.lookup y = some k) /\ (k = .cell ∨ k = .free) := by
   rcases hy with hy | hy
   ·exact ⟨_, hy, .inl rfl⟩
   ·exact ⟨_, hy, .inr rfl⟩
  obtain ⟨k, h1, h2⟩ := hy'
  rcases iH (env := X.env) h1 h2 with ⟨z, hz, e1, e2⟩ | ⟨z, hz, e1, e2⟩
  ·obtain ⟨m1, m2⟩ := S.free z hz e2
   subst e1
   obtain ⟨c, hc⟩ := I.ok.has z.1 (.inl m2)
   exact ⟨c, kP m1 hc⟩
  ·exact absurd e2 (S.nocell z hz)
 ·refine ⟨fun z => ?_, fun y c e z => ?_⟩
  ·have z' : b = C := z
   obtain ⟨o, ho⟩ := hfo b hb
   have hlt := Heap.lt_size ho
   rw [z'] at hlt
   exact absurd (Nat.lt_of_lt_of_le hlt hC) (Nat.lt_irrefl _)
  ·exact (hfp b hb).2.2.2.2.1 y c (cab y c e) z
 ·obtain ⟨f0, f1, f2, f3, f4, f5⟩ := hfp b hb
  rcases f3 with f3 | f3
  ·exact I.ok.noex b o e f3
  ·exact absurd (Nat.lt_of_lt_of_le (Heap.lt_size (I.ok.bs b o e).1) f3) (Nat.lt_irrefl _)
 ·obtain ⟨f0, f1, f2, f3, f4, f5⟩ := hfp b hb
  rcases List.mem_cons.mp (I.stkSub b z) with e | e
  ·exact f1 e
  ·exact f2 e
 ·by_cases hi : i < xs.length
  ·rw [List.getElem?_append_left (by simpa using hi), List.getElem?_replicate, if_pos hi] at h2
   cases h2
  ·have h1' : ns[i - xs.length]? = some y := by
    have h1 : (xs ++ ns)[i]? = some y := h1
    rw [List.getElem?_append_right (by omega)] at h1
    exact h1
   have h2' : (js.map (iv σ))[i - xs.length]? = some (some v) := by
    rw [List.getElem?_append_right (by simpa using hi)] at h2
    simpa using h2
   generalize i - xs.length = i at h1' h2'
   rw [List.getElem?_map] at h2'
   cases e : js[i]? with
   | none => rw [e] at h2'; cases h2'
   | some j =>
    rw [e] at h2'
    have h4 : iv σ j = some v := Option.some.inj h2'
    have h5 : σ[j]? = some (some v) := by
     unfold iv at h4
     split at h4
     ·rename_i u q
      cases h4
      exact q
     ·cases h4
    have hN := hj.2 i j y e h1'
    have mem : y ∈ ns := List.mem_of_getElem? h1'
    obtain ⟨c1, c2⟩ := S.cells y mem
    obtain ⟨m, hm, hl⟩ := I.loc
    obtain ⟨u, ru, lk⟩ := hl j y v hN h5 (.inr (.inl c2))
    refine ⟨u, ru, ?_⟩
    rcases lk with ⟨k1, _⟩ | ⟨_, c, e1, o, ho, hd⟩
    ·have k1' : X.env.scope.names.lookup y = some .local := k1
     rw [c2] at k1'; cases k1'
    ·exact .inr ⟨.inl (iT kd c1 c2), c, kP mem e1, o, hk c o ho, hd⟩
 ·obtain ⟨v, z⟩ := cold y c e
  obtain ⟨o, ho, hd⟩ := z
  exact ⟨v, o, hk c o ho, hd⟩
 ·obtain ⟨v, o, ho, hd⟩ := cold y c e
  exact hnew c o ho (I.freeC y c (cab y c e))
 ·show (List.replicate xs.length none ++ js.map (iv σ)).length = (xs ++ ns).length
  simp [hj.1]
def TsD (X : Cx) (ifs : List Expr) (t : DT) : Prop :=
 ∀ (pins : List (Addr × Obj)) (s : Shared) (σ : St) (H : Hp) (W : Own) (ρ : Ro) (Q : Bool -> Prop), Inv X pins σ H s -> Rel X W H σ ρ -> t ρ Q →
  wpAny (model X.prog X.w) X.A (forIn ifs true fun c r => if r = true then do let ok ← isTrue c X.env (eval c X.env); pure (ForInStep.yield ok) else pure (ForInStep.yield r)) (DTP X pins σ H Q) X.xe s
def kN : DT := fun _ Q => Q true
theorem bW {X : Cx} : TsD X [] kN := fun _ s σ H W ρ Q I r h => wpAny_tests_nil ⟨H, I, ar.refl H, h⟩
theorem zZ {X : Cx} {c : Expr} {t : DT} (h : PTD X c t) : TsD X [c] t := fun pins s σ H W ρ Q I r q => wpAny_tests_one (h pins s σ H W ρ Q I r q)
def kZ (n : Nat) (cap ρ : Ro) : Prop := ∃ r0 : Ro, r0.length = n /\ ρ = r0 ++ cap
theorem t8 {prog : Program} {w : World} {A : Around} {s : Shared} {R : Result -> Shared -> Prop} {elt target iter : Expr} {ifs : List Expr} {scope : Scope} {pos : Pos} {it acc : Value} {env : Env} (I : Nat -> Shared -> Prop)
  (turn : ∀ n s, I n s -> wpAny (model prog w) A (pyNext it) (fun r s₁ => match r with
   | none => R (.ok .next) s₁
   | some v => wpAny (model prog w) A (letOwnedTupleGo target it v) (fun _ z₁ => wpAny (model prog w) A (assign target env v) (fun _ s₂ =>
     wpAny (model prog w) A (forIn ifs true fun c r => if r = true then do let ok ← isTrue c env (eval c env); pure (ForInStep.yield ok) else pure (ForInStep.yield r)) (fun ok s₃ => if ok = true then wpAny (model prog w) A (eval elt env) (fun x s₄ =>
       wpAny (model prog w) A (call (.builtin "list.append") [acc, x]) (fun _ s₅ => ∃ m, m < n /\ I m s₅) (notedBy (model prog w) A env fun e z => R (.error e) z) s₄) (notedBy (model prog w) A env fun e z => R (.error e) z) s₃
      else ∃ m, m < n /\ I m s₃) (notedBy (model prog w) A env fun e z => R (.error e) z) s₂) (notedBy (model prog w) A env fun e z => R (.error e) z) z₁) (notedBy (model prog w) A env fun e z => R (.error e) z) s₁) (notedBy (model prog w) A env fun e z => R (.error e) z) s)
  (n : Nat) (h : I n s) : codeAny (model prog w) A (.compLoop (.ListComp elt [⟨target, iter, ifs, 0⟩] scope pos) 0 it acc env) R s := by
 refine codeAny_loop rfl I (fun m z hI => ?_) n h
 show wpAny _ A ((compTurn (.ListComp elt [⟨target, iter, ifs, 0⟩] scope pos) 0 it acc env).onRaise (fun e => do noteFrame e env; theTreesLotGoes e)) _ _ z
 refine wpAny_noted ?_
 rw [compTurn_list]
 refine wpAny_bind (wpAny_standAt (wpAny_bind (wpAny_mono (turn m z hI) (fun r z1 g1 => ?_) fun _ _ q => q)))
 cases r with
 | none => exact wpAny_pure g1
 | some v =>
  refine wpAny_bind (wpAny_mono g1 (fun _ z2 g2 => ?_) fun _ _ q => q)
  refine wpAny_bind (wpAny_mono g2 (fun _ z3 g3 => wpAny_bind (wpAny_mono g3 (fun ok z4 g4 => ?_) fun _ _ q => q)) fun _ _ q => q)
  cases ok with
  | false => exact wpAny_pure ⟨rfl, g4⟩
  | true => exact wpAny_bind (wpAny_bind (wpAny_mono g4 (fun y z5 g5 => wpAny_bind (wpAny_mono g5 (fun _ z6 g6 => wpAny_pure (wpAny_pure ⟨rfl, g6⟩)) fun _ _ q => q)) fun _ _ q => q))
theorem Rel.mutB {X : Cx} {W : Own} {H : Hp} {σ : St} {ρ : Ro} {a : Addr} {vs vs' : List V} (r : Rel X W H σ ρ) (hB : W.B a) (ha : H a = some (.lst vs)) (h0 : X.H₀ a = none) :
  Rel X W (L2.upd H a (.lst vs')) σ ρ /\ ∀ ds us, ah X.K W.bad H ds us -> ah X.K W.bad (L2.upd H a (.lst vs')) ds us := by
 have noT : ∀ b ws, SqT X.K H b ws -> SqT X.K (L2.upd H a (.lst vs')) b ws := fun b ws q => by
  rcases q with (q | ⟨o, q⟩) | q
  ·exact .inl (.inl (by rw [aw (gZ q ha (by intro z; cases z))]; exact q))
  ·exact .inl (.inr ⟨o, by rw [aw (gZ q ha (by intro z; cases z))]; exact q⟩)
  ·exact .inr q
 have noL : ∀ t b ws, ¬ W.bad t b -> SqG X.K H t b ws -> ¬ W.bad t b /\ SqG X.K (L2.upd H a (.lst vs')) t b ws := fun t b ws n q => by
  have hne : b ≠ a := fun e => n (.inl (e ▸ hB))
  refine ⟨n, ?_, fun z => ⟨by rw [aw hne]; exact (q.2 z).1, (q.2 z).2⟩⟩
  rcases q.1 with (q | ⟨o, q⟩) | q
  ·exact .inl (.inl (by rw [aw hne]; exact q))
  ·exact .inl (.inr ⟨o, by rw [aw hne]; exact q⟩)
  ·exact .inr q
 have noX : ∀ b φ, H b = some (.ext φ) -> L2.upd H a (.lst vs') b = some (.ext φ) := fun b φ q => by rw [aw (gZ q ha (by intro z; cases z))]; exact q
 have tr : ∀ b o, H b = some o -> ∃ o', L2.upd H a (.lst vs') b = some o' := fun b o q => by
  by_cases hba : b = a
  ·subst hba; exact ⟨_, aD⟩
  ·exact ⟨o, by rw [aw hba]; exact q⟩
 refine ⟨⟨fun j d h => ?_, fun j y h => ?_, r.inj, fun j b hb => ?_, r.ke, fun b hb => let ⟨o, q⟩ := r.bt b hb; tr b o q, fun b hb => let ⟨o, q⟩ := r.st b hb; tr b o q, r.ent.ins h0 ha True.intro True.intro, r.tab.upd True.intro (.inr ⟨_, ha, (fun _ z => by cases z), True.intro⟩)⟩, ah.map noT noL noX⟩
 ·obtain ⟨v, h1, h2⟩ := r.val j d h
  exact ⟨v, h1, Den.map noT noL noX d v h2⟩
 ·obtain ⟨b, o, h1, h2, h3, h4⟩ := r.own j y h
  exact ⟨b, o, h1, h2, by rw [aw (fun e => (r.kn j b h1).2.1.1 (by rw [e]; exact hB))]; exact h3, h4.map (ah.map noT noL noX) fun k c q => ⟨q, fun us z => by rw [aw (fun e => (r.kn _ c q).2.1.1 (by rw [e]; exact hB))]; exact z⟩⟩
 ·obtain ⟨k1, k2, o, k3, k4⟩ := r.kn j b hb
  exact ⟨k1, k2, o, by rw [aw (fun e => k2.1 (by rw [e]; exact hB))]; exact k3, k4⟩
def eI (X : Cx) (sc : Scope) (ns : List Str) (RR : Value -> Addr -> Result -> Shared -> Prop) (D C : Addr) : Value -> Shared -> Prop := notedBy (model X.prog X.w) X.A (compEnvC sc (cR X.env ns) C X.env) fun e s'' => RR (.ref D) C (.error e) s''
theorem eF.no {X : Cx} : eF X fun _ => False := fun _ _ _ _ _ _ _ _ _ _ h => by
 obtain ⟨_, _, _, _, _, _, _, _, _, _, _, _, _, z⟩ := h
 exact z.elim
theorem jk {elt iter tg : Expr} {ifs : List Expr} {pos : Pos} {g : DG} {te : DE} {tc : DT} {W : Own} {ρ : Ro} {J : It} {it : Addr} {tn : Nat -> Heap -> Prop} {ds : List D} {E : Value -> Shared -> Prop} {RR : Value -> Addr -> Result -> Shared -> Prop} (hc : X.calm = true) (S : CSc X.env.scope sc xs ns)
  (hj : js.length = ns.length /\ ∀ (i : Nat) (j : Nat) (n : Str), js[i]? = some j -> ns[i]? = some n -> X.N[j]? = some n)
  {Ed : Value -> Prop} (he : ∀ (C : Addr) (s₂ : Shared) (H₂ : Hp) (fp : List Addr) (XE : Value -> Shared -> Prop), eF (aQ X sc ns xs C s₂ H₂ fp XE) Ed -> PED (aQ X sc ns xs C s₂ H₂ fp XE) elt te) (ht : ∀ (C : Addr) (s₂ : Shared) (H₂ : Hp) (fp : List Addr) (XE : Value -> Shared -> Prop), eF (aQ X sc ns xs C s₂ H₂ fp XE) Ed -> TsD (aQ X sc ns xs C s₂ H₂ fp XE) ifs tc)
  (hx : ∀ D C : Addr, eF (aQ X sc ns xs C s H fp (eI X sc ns RR D C)) Ed) (I : Inv X pins σ H s) (r : Rel X W H σ ρ) (hg : ∀ (C : Addr) (s₂ : Shared) (H₂ : Hp) (fp : List Addr) (XE : Value -> Shared -> Prop), PGD (aQ X sc ns xs C s₂ H₂ fp XE) tg g) (T : Turn X.prog X.w X.K tg J fp it tn) (st : tn 0 s.heap) (hfp : ∀ b ∈ fp, dF X pins H b) (yd : YD X.K W H J ds) (hz : ds.length <= sizeLine)
  (Pv : Nat -> List D -> Prop) (p0 : Pv 0 []) (step : ∀ j d out ρ1, ds[j]? = some d -> Pv j out -> kZ xs.length (js.map (bc ρ)) ρ1 -> g d ρ1 fun ρ2 => kZ xs.length (js.map (bc ρ)) ρ2 /\ tc ρ2 fun b => if b = true then te ρ2 (fun e => Pv (j + 1) (out ++ [e])) else Pv (j + 1) out)
  (hRR : ∀ (D C : Addr) (s' : Shared) (H' : Hp) (m' : Str -> Option Value) (out : List PD.D), Inv X pins σ H' s' -> ar H H' -> s'.heap.Ns C m' -> H' C = none -> C ≠ X.env.locals -> X.s₀.heap.objs.size <= C -> (∀ y c, X.env.cells.lookup y = some c -> c ≠ C) -> (∀ p ∈ X.pn ++ pins, p.1 ≠ C) →
   (H D = none /\ X.K.lookup D = none /\ ∃ vs, H' D = some (.lst vs) /\ ah X.K (fun t b => W.bad t b ∨ b = D) H' out vs) -> Pv ds.length out -> RR (.ref D) C (.ok .next) s') :
  wpAny (model X.prog X.w) X.A (newList []) (fun acc s₃ => wpAny (model X.prog X.w) X.A (newFunctionEnv sc X.env.globals (cR X.env ns) [] X.env.qual none .none (some X.env)) (fun cenv s₄ =>
   codeAny (model X.prog X.w) X.A (.compStart (.ListComp elt [⟨tg, iter, ifs, 0⟩] sc pos) 0 (.ref it) acc { cenv with scope := relabel sc X.env }) (RR acc cenv.locals) s₄) E s₃) E s := by
 refine wpAny_newObj_type (wpAny_newFunctionEnv S.nocell (by intro y hy; simp at hy) (fun h₁ hns₁ hsb₁ => ?_) S.kind)
 dsimp only at hns₁ hsb₁ ⊢
 generalize hH2 : s.heap.push { cls := .type "list", dict := none, data := .seq ([] : List Value).toArray } = HP at hns₁ hsb₁ ⊢
 have hC : HP.objs.size = s.heap.objs.size + 1 := by rw [<- hH2, Heap.size_push]
 have hDC : s.heap.objs.size ≠ HP.objs.size := by rw [hC]; exact Nat.ne_of_lt (Nat.lt_succ_self _)
 have hCle : s.heap.objs.size <= HP.objs.size := by rw [hC]; exact Nat.le_succ _
 have below : ∀ b, b < s.heap.objs.size -> b ≠ HP.objs.size := fun b hb => by rw [hC]; exact Nat.ne_of_lt (Nat.lt_succ_of_lt hb)
 have old : ∀ b o, s.heap.get? b = some o -> h₁.get? b = some o := fun b o e => hsb₁.extBut b o (below b (Heap.lt_size e)) (Heap.get?_push_of_some _ (hH2 ▸ Heap.get?_push_of_some _ e))
 have hacc : h₁.get? s.heap.objs.size = some { cls := .type "list", data := .seq ([] : List Value).toArray } := hsb₁.extBut _ _ hDC (Heap.get?_push_of_some _ (hH2 ▸ Heap.get?_push_size _ rfl))
 generalize eD : s.heap.objs.size = D at hDC hacc
 generalize eC : HP.objs.size = C at *
 have hDf : H D = none := by rw [<- eD]; exact I.hok.fresh (Nat.le_refl _)
 have hKD : X.K.lookup D = none := by rw [<- eD]; exact Inv.kfresh I
 have hCf : H C = none := I.hok.fresh hCle
 have hfo : ∀ b ∈ fp, ∃ o, s.heap.get? b = some o := fun b hb => let ⟨o, e, _⟩ := T.obj 0 s.heap st b hb; ⟨o, e⟩
 have leD : s.heap.objs.size <= D := Nat.le_of_eq eD
 have okk : HOk X.prog X.w (L2.upd H D (.lst [])) h₁ := I.hok.laid old leD ⟨Nat.zero_le _, [], 0, .nil, hacc⟩
 have upCD : ∀ o, L2.upd H D o C = none := fun o => by rw [aw (Ne.symm hDC)]; exact hCf
 have I1 : Inv (aQ X sc ns xs C s H fp (eI X sc ns RR D C)) [] (List.replicate xs.length none ++ js.map (iv σ)) (L2.upd H D (.lst [])) { s with heap := h₁, toks := s.toks + ([] : List (Str × Value)).length } :=
  Inv.comp I S hj hfp hfo hCle rfl I.bare old hns₁ (upCD _) (ar.upd hDf) (fun b o e n => by rw [aw (fun z => absurd (Heap.lt_size e) (by rw [z]; exact Nat.not_lt.mpr leD))]; exact n) okk
 have nl : ∀ {a : Addr} {ws : List V}, SqL X.K H a ws -> a ≠ D := fun {a ws} q z => by
  subst z
  rcases q with (q | ⟨o, q⟩) | ⟨o, its, n, q, _⟩
  ·rw [hDf] at q; cases q
  ·rw [hDf] at q; cases q
  ·rw [hKD] at q; cases q
 let W' : Own := ⟨fun a => W.bad false a ∨ a = D, fun _ => none, W.S⟩
 have bad' : ∀ t a, W'.bad t a ↔ (W.bad t a ∨ a = D) := fun t a => ⟨fun z => by
  rcases z with (z | z) | ⟨_, q⟩ | ⟨z1, z2⟩
  ·exact .inl (Own.bad_up z)
  ·exact .inr z
  ·cases q
  ·exact .inl (.inr (.inr ⟨z1, z2⟩)), fun z => by
  rcases z with z | z
  ·rcases z with z | z | z
   ·exact .inl (.inl (.inl z))
   ·exact .inl (.inl (.inr (.inl z)))
   ·exact .inr (.inr z)
  ·exact .inl (.inr z)⟩
 have hT : ∀ {H' : Hp}, ar H H' -> ∀ a vs, SqT X.K H a vs -> SqT X.K H' a vs := fun sm a vs q => SqT.same sm q
 have hL : ∀ {H' : Hp}, ar H H' -> ∀ t a vs, ¬ W.bad t a -> SqG X.K H t a vs -> ¬ W'.bad t a /\ SqG X.K H' t a vs := fun sm t a vs n q => ⟨fun z => ((bad' t a).mp z).elim n (nl q.1), q.same sm⟩
 have relC : Rel (aQ X sc ns xs C s H fp (eI X sc ns RR D C)) W' (L2.upd H D (.lst [])) (List.replicate xs.length none ++ js.map (iv σ)) (List.replicate xs.length none ++ js.map (bc ρ)) := by
  have sm : ar H (L2.upd H D (.lst [])) := ar.upd hDf
  have at_ : ∀ {i : Nat} {z : Sl}, (List.replicate xs.length none ++ js.map (bc ρ))[i]? = some (some z) -> ¬ i < xs.length /\ (js.map (bc ρ))[i - xs.length]? = some (some z) := fun {i z} h => by
   by_cases hi : i < xs.length
   ·rw [List.getElem?_append_left (by simpa using hi), List.getElem?_replicate, if_pos hi] at h
    cases h
   ·rw [List.getElem?_append_right (by simpa using hi)] at h
    exact ⟨hi, by simpa using h⟩
  refine ⟨fun i d h => ?_, fun i x h => ?_, fun i j a h _ => (by cases h), fun i a h => (by cases h), fun i a h => (by cases h), fun a h => ?_, fun a h => ?_, sm, r.tab.same sm⟩
  ·obtain ⟨hi, h'⟩ := at_ h
   rw [List.getElem?_map] at h'
   cases e : js[i - xs.length]? with
   | none => rw [e] at h'; cases h'
   | some j =>
    rw [e] at h'
    have h4 : bc ρ j = some (.val d) := Option.some.inj h'
    have h5 : ρ[j]? = some (some (.val d)) := by
     unfold bc at h4
     split at h4
     ·rename_i u q
      cases h4
      exact q
     ·cases h4
    obtain ⟨v, e1, e2⟩ := r.val j d h5
    refine ⟨v, ?_, Den.map (hT sm) (hL sm) (fun a _ q => sm a _ q) d v e2⟩
    rw [List.getElem?_append_right (by simpa using hi)]
    show (js.map (iv σ))[i - (List.replicate xs.length (none : Option V)).length]? = some (some v)
    rw [List.length_replicate, List.getElem?_map, e]
    show some (iv σ j) = some (some v)
    unfold iv
    rw [e1]
  ·obtain ⟨hi, h'⟩ := at_ h
   rw [List.getElem?_map] at h'
   cases e : js[i - xs.length]? with
   | none => rw [e] at h'; cases h'
   | some j =>
    rw [e] at h'
    have h4 : bc ρ j = some (.ob x) := Option.some.inj h'
    unfold bc at h4
    split at h4 <;> cases h4
  ·rcases h with h | h
   ·obtain ⟨o, q⟩ := r.tracked false a h
    exact sm.ex q
   ·rw [h]; exact ⟨_, aD⟩
  ·obtain ⟨o, q⟩ := r.st a h
   exact sm.ex q
 have statC : ∀ {H' : Hp}, (∀ b ∈ fp, H' b = none) -> ∀ b ∈ fp, dF (aQ X sc ns xs C s H fp (eI X sc ns RR D C)) [] H' b := fun hn b hb => by
  obtain ⟨f0, f1, f2, f3, f4, f5⟩ := hfp b hb
  obtain ⟨o, ho⟩ := hfo b hb
  refine ⟨hn b hb, fun z => ?_, fun z => ?_, .inl hb, fun y c e z => f4 y c (jx e) z, fun p hp => absurd (show p ∈ ([] : List (Addr × Obj)) from hp) (by simp)⟩
  ·have z' : b = C := z
   have hlt := Heap.lt_size ho
   rw [z'] at hlt
   exact absurd (Nat.lt_of_lt_of_le hlt hCle) (Nat.lt_irrefl _)
  ·rcases List.mem_cons.mp (I.stkSub b z) with e | e
   ·exact f1 e
   ·exact f2 e
 have hch : ∀ b ∈ fp, (b ∈ X.ex ∨ X.s₀.heap.objs.size <= b) /\ b ≠ X.env.locals /\ (∀ x c, X.env.cells.lookup x = some c -> c ≠ b) /\ ∀ p ∈ X.pn ++ pins, p.1 ≠ b := fun b hb => by
  obtain ⟨f0, f1, f2, f3, f4, f5⟩ := hfp b hb
  exact ⟨f3, f1, f4, f5⟩
 have loop : ∀ s₃ : Shared, s₃ = { s with heap := h₁, toks := s.toks + ([] : List (Str × Value)).length } →
   codeAny (model X.prog X.w) X.A (.compLoop (.ListComp elt [⟨tg, iter, ifs, 0⟩] sc pos) 0 (.ref it) (.ref D) (compEnvC sc (cR X.env ns) C X.env)) (RR (.ref D) C) s₃ := by
  rintro s₃ rfl
  refine t8 (fun n s' => ∃ (i : Nat) (W2 : Own) (σ2 : St) (ρ2 : Ro) (H' : Hp) (out : List PD.D) (vs : List V), n = ds.length - i /\ i <= ds.length /\ Inv (aQ X sc ns xs C s H fp (eI X sc ns RR D C)) [] σ2 H' s' /\ tn i s'.heap /\ (∀ b ∈ fp, H' b = none) ∧
   H' D = some (.lst vs) /\ (W2.B = W'.B /\ W2.S = W'.S) /\ ah X.K W2.bad H' out vs /\ ar H H' /\ Rel (aQ X sc ns xs C s H fp (eI X sc ns RR D C)) W2 H' σ2 ρ2 /\ kZ xs.length (js.map (bc ρ)) ρ2 /\ Pv i out /\ out.length <= i) ?_ ds.length
   ⟨0, W', _, _, _, [], [], by simp, Nat.zero_le _, I1, T.keep 0 s.heap h₁ st (fun b hb o e => old b o e), fun b hb => ?_, aD, ⟨rfl, rfl⟩, ah.nil, ar.upd hDf, relC, ⟨_, by simp, rfl⟩, p0, Nat.le_refl _⟩
  rotate_left
  ·obtain ⟨o, ho⟩ := hfo b hb
   rw [aw (fun z => absurd (Heap.lt_size ho) (by rw [z]; exact Nat.not_lt.mpr leD))]
   exact (hfp b hb).1
  rintro n s3 ⟨i, W2, σ2, ρ2, H3, out, vs, en, hle, I3, st3, fr3, hD3, hW2, hds3, sm3, rl3, cap3, p3, ol⟩
  have nb2 : ∀ {W3 : Own} {H' : Hp} {σ3 : St} {ρ3 : Ro}, (W3.B = W'.B /\ W3.S = W'.S) -> Rel (aQ X sc ns xs C s H fp (eI X sc ns RR D C)) W3 H' σ3 ρ3 -> ar H H' -> ∀ t a vs, ¬ W.bad t a -> SqG X.K H t a vs -> ¬ W3.bad t a /\ SqG X.K H' t a vs := fun {W3 H' σ3 ρ3} hw rl sm t a vs n q => by
   refine ⟨fun z => ?_, q.same sm⟩
   rcases z with z | ⟨k, z⟩ | ⟨z1, z2⟩
   ·rw [hw.1] at z
    exact (hL sm t a vs n q).1 (.inl z)
   ·have h0 : H a = none := rl.ke k a z
    rcases q.1 with (q1 | ⟨o, q1⟩) | ⟨o, its, m, q1, _⟩
    ·rw [h0] at q1; cases q1
    ·rw [h0] at q1; cases q1
    ·have kk : X.K.lookup a = none := (rl.kn k a z).1
     rw [kk] at q1; cases q1
   ·rw [hw.2] at z2
    exact (hL sm t a vs n q).1 (.inr (.inr ⟨z1, z2⟩))
  obtain ⟨yg, yy, ys⟩ := yd W2.bad H3 (hT sm3) (nb2 hW2 rl3 sm3) (fun a _ q => sm3 a _ q) i
  by_cases hlt : i < ds.length
  ·refine thn (T.item (aQ X sc ns xs C s H fp (eI X sc ns RR D C)) rfl rfl rfl hc i [] s3 _ H3 _ I3 (statC fr3) st3 (yg hlt)) fun rr s4 ⟨u, hr, h4⟩ => ?_
   subst hr
   refine thn h4 fun _ s5 ⟨x5, H5, I5, r5, y5, st5, fr5⟩ => ?_
   obtain ⟨e5, d, hd, hden⟩ := yy x5 H5 y5 hlt
   have I5' := I5.pinned (statC fr5) (T.obj _ _ st5)
   have rl5 := rl3.same e5
   have sm5 : ar H H5 := sm3.trans e5
   refine wpAny_mono (hg C s H fp _ _ s5 σ2 H5 W2 ρ2 d x5 u _ I5' rl5 r5 hden (step i d out ρ2 hd p3 cap3)) (fun _ s6 ⟨W6, σ6, H6, ρ6, I6, f6, rl6, cap6, q6⟩ => ?_) (fun _ _ z => z)
   have hW6 : W6.B = W'.B /\ W6.S = W'.S := ⟨f6.B.trans hW2.1, f6.S.trans hW2.2⟩
   have sm6 : ar H H6 := ⟨fun b o e n => f6.kp b o (fun k z => by have h0 : H b = none := rl5.ke k b z; rw [e] at h0; cases h0) (sm5.kp b o e n) n, (fun b ps e => by obtain ⟨m1, e1⟩ := sm5.tb b ps e; obtain ⟨m2, e2⟩ := f6.tb b _ e1; exact ⟨m1 ++ m2, by rw [e2, Array.append_assoc]⟩), fun h => f6.ok (sm5.ok h)⟩
   have BD : W'.B D := .inr rfl
   have hD6 : H6 D = some (.lst vs) := f6.keep D _ (fun k z => (rl5.kn k D z).2.1.1 (by rw [hW2.1]; exact BD)) (e5 _ _ hD3)
   have hds6 := ah.fwd rl5 rl6 f6 (hds3.same e5)
   have keepT : ∀ {σ7 : St} {H7 : Hp} {s7 : Shared}, Inv (aQ X sc ns xs C s H fp (eI X sc ns RR D C)) ([] ++ ma fp s5.heap) σ7 H7 s7 -> tn (i + 1) s7.heap /\ ∀ b ∈ fp, H7 b = none := fun {σ7 H7 s7} I7 => by
    refine ⟨T.keep _ _ _ st5 fun b hb o e => (I7.pin (b, o) (List.mem_append_right _ (List.mem_append_right _ (gf hb e)))).1, fun b hb => ?_⟩
    obtain ⟨o, e, _⟩ := T.obj _ _ st5 b hb
    exact (I7.pin (b, o) (List.mem_append_right _ (List.mem_append_right _ (gf hb e)))).2.1
   refine wpAny_mono (ht C s H fp _ (hx D C) _ s6 _ H6 W6 _ _ I6 rl6 q6) (fun b s7 ⟨H7, I7, e7, q7⟩ => ?_) (fun _ _ z => z)
   cases b with
   | false =>
    rw [if_neg Bool.false_ne_true] at q7
    rw [if_neg Bool.false_ne_true]
    obtain ⟨t7, f7⟩ := keepT I7
    exact ⟨ds.length - (i + 1), by omega, i + 1, W6, σ6, ρ6, H7, out, vs, rfl, hlt, I7.unpinned, t7, f7, e7 _ _ hD6, hW6, hds6.same e7, sm6.trans e7, rl6.same e7, cap6, q7, by omega⟩
   | true =>
    rw [if_pos rfl] at q7
    rw [if_pos rfl]
    refine wpAny_mono (he C s H fp _ (hx D C) _ s7 _ H7 W6 _ _ I7 (rl6.same e7) q7) (fun u8 s8 ⟨v8, H8, e8, I8, r8, sm8, hd8, q8⟩ => ?_) (fun _ _ z => z)
    have sm78 := e7.trans sm8
    have hD8 := sm78 _ _ hD6
    have hds8 := hds6.same sm78
    have rl8 := (rl6.same e7).same sm8
    have BD6 : W6.B D := by rw [hW6.1]; exact BD
    refine wpAny_mono (jE (X := aQ X sc ns xs C s H fp (eI X sc ns RR D C)) _ s8 _ H8 (.ref D) [v8] (.ref D) [u8] (fun _ H' => H' = L2.upd H8 D (.lst (vs ++ [v8]))) I8 rfl (.cons r8 .nil) ⟨D, vs, v8, rfl, rfl, hD8, by rw [hds8.len]; omega, rfl⟩) (fun _ s9 ⟨v9, H9, I9, _, eH⟩ => ?_) (fun _ _ z => z)
    subst eH
    obtain ⟨t9, f9⟩ := keepT I9
    obtain ⟨rl9, dn9⟩ := rl8.mutB (vs' := vs ++ [v8]) BD6 hD8 hDf
    exact ⟨ds.length - (i + 1), by omega, i + 1, W6, σ6, ρ6, _, out ++ [e8], vs ++ [v8], rfl, hlt, I9.unpinned, t9, f9, aD, hW6, dn9 _ _ (hds8.append (ah.one hd8)), (sm6.trans sm78).ins hDf hD8 True.intro True.intro, rl9, cap6, q8, by rw [List.length_append, List.length_singleton]; omega⟩
  ·have e : i = ds.length := by omega
   refine thn (T.done (aQ X sc ns xs C s H fp (eI X sc ns RR D C)) rfl rfl rfl hc i [] s3 _ H3 _ I3 (statC fr3) st3 (ys (by omega))) fun rr s4 ⟨hr, I4⟩ => ?_
   subst hr
   subst e
   have Io : Inv X pins σ H3 s4 := I.call' I4.os I4.base I4.hok I4.bare hch
   obtain ⟨m, hm, _⟩ := I4.loc
   exact hRR D C s4 H3 m out Io sm3 hm I4.free (fun z => absurd I.lt (by rw [<- z]; exact Nat.not_lt.mpr hCle)) (Nat.le_trans I.sz hCle) (fun y c e z => by
    obtain ⟨v, q⟩ := I.cell y c e
    exact absurd q.lt (by rw [z]; exact Nat.not_lt.mpr hCle)) (fun p hp z => absurd (Heap.lt_size (I.pin p hp).1) (by rw [z]; exact Nat.not_lt.mpr hCle))
    ⟨hDf, hKD, _, hD3, hds3.fewer fun t a z => (by
     rcases (bad' t a).mpr z with q | ⟨k, q⟩ | q
     ·exact .inl (by rw [hW2.1]; exact q)
     ·cases q
     ·exact .inr (.inr ⟨q.1, by rw [hW2.2]; exact q.2⟩))⟩ p3
 exact codeAny_compStart_list (loop _ rfl) (T.self _ 0 _ _ _ (T.keep 0 s.heap h₁ st (fun b hb o e => old b o e)) (loop _ rfl))
theorem oJ {X : Cx} {sc : Scope} {ns : List Str} {x : Str} {px : Pos} {C : Addr} {s₂ : Shared} {H₂ : Hp} {fp : List Addr} {XE : Value -> Shared -> Prop} (S : CSc X.env.scope sc [x] ns) : PGD (aQ X sc ns [x] C s₂ H₂ fp XE) (.Name x px) (iO 0) :=
 have tl : (compEnvC sc (cR X.env ns) C X.env).scope.names.lookup x = some .local := lookup_relabel_local (S.tgt x (by simp))
 bz (X := aQ X sc ns [x] C s₂ H₂ fp XE) 0 S.nd rfl (.inl tl) (.inr tl)
theorem w4 {ds : List D} {Pv : Nat -> List D -> Prop} {tc : DT} {te : DE} {cap : Ro} (step : ∀ j d out, ds[j]? = some d -> Pv j out -> tc (some (.val d) :: cap) fun b => if b = true then te (some (.val d) :: cap) (fun e => Pv (j + 1) (out ++ [e])) else Pv (j + 1) out) :
  ∀ j d out ρ1, ds[j]? = some d -> Pv j out -> kZ 1 cap ρ1 -> iO 0 d ρ1 fun ρ2 => kZ 1 cap ρ2 /\ tc ρ2 fun b => if b = true then te ρ2 (fun e => Pv (j + 1) (out ++ [e])) else Pv (j + 1) out := by
 rintro j d out ρ1 hd hp ⟨r0, hl, rfl⟩
 match r0, hl with
 | [a], _ => exact ⟨⟨[some (.val d)], rfl, rfl⟩, step j d out hd hp⟩
def ir (wi : DA) (js : List Nat) (tc : DT) (te : DE) : DE := fun ρ Q => wi ρ fun ds => ds.length <= sizeLine /\ ∃ Pv : Nat -> List D -> Prop, Pv 0 [] ∧
 (∀ j d out, ds[j]? = some d -> Pv j out -> tc (some (.val d) :: js.map (bc ρ)) fun b => if b = true then te (some (.val d) :: js.map (bc ρ)) (fun e => Pv (j + 1) (out ++ [e])) else Pv (j + 1) out) /\ ∀ out, Pv ds.length out -> Q (.lst true out)
def aZ (N : List Str) (ns : List Str) (js : List Nat) : Prop := js.length = ns.length /\ ∀ (i : Nat) (j : Nat) (n : Str), js[i]? = some j -> ns[i]? = some n -> N[j]? = some n
theorem aZ.nil {N : List Str} : aZ N [] [] := ⟨rfl, fun i j n h => by simp at h⟩
theorem aZ.cons {N ns : List Str} {js : List Nat} {n : Str} (j : Nat) (h : aZ N ns js) (e : N[j]? = some n := by rfl) : aZ N (n :: ns) (j :: js) := ⟨by simp [h.1], fun i j' m h1 h2 => by
 cases i with
 | zero => simp at h1 h2; subst h1 h2; exact e
 | succ i => exact h.2 i j' m (by simpa using h1) (by simpa using h2)⟩
variable {elt iter : Expr} {ifs : List Expr} {px pos : Pos} {te : DE} {tc : DT} {wi : DA} {x : Str}
theorem dN (hc : X.calm = true) (S : CSc X.env.scope sc [x] ns) (hj : aZ X.N ns js) (hi : PID X (.Name x px) iter wi) (ht : ∀ (C : Addr) (s₂ : Shared) (H₂ : Hp) (fp : List Addr) (XE : Value -> Shared -> Prop), TsD (aQ X sc ns [x] C s₂ H₂ fp XE) ifs tc)
  (he : ∀ (C : Addr) (s₂ : Shared) (H₂ : Hp) (fp : List Addr) (XE : Value -> Shared -> Prop), PED (aQ X sc ns [x] C s₂ H₂ fp XE) elt te) (hclos : closureFor sc X.env = pure (cR X.env ns) := by rfl) (hs : ∀ x, foldedSetIterable iter X.env x = pure x := by intro _; rfl) :
  PED X (.ListComp elt [⟨.Name x px, iter, ifs, 0⟩] sc pos) (ir wi js tc te) := by
 intro pins s σ H W ρ Q I r h
 rw [eval_ListComp]
 refine wpAny_comprehension_free (use := none) rfl hs hclos S.kind S.names (thn (hi pins s σ H W ρ _ I r h) fun v s1 h1 => thn h1 fun itv s2 h2 => ?_)
 obtain ⟨it, fp, tn, J, H2, ds, e, I2, e2, T, st2, f2, yd, hz, Pv, p0, step, fin⟩ := h2
 subst e
 refine jk (RR := fun acc C => compPost (model X.prog X.w) X.A X.xe none (DP X pins σ W H Q) acc C) hc S hj (Ed := fun _ => False) (fun C s₂ H₂ fp XE _ => he C s₂ H₂ fp XE) (fun C s₂ H₂ fp XE _ => ht C s₂ H₂ fp XE) (fun _ _ => eF.no) I2 (r.same e2) (fun C s₂ H₂ fp XE => oJ S) T st2 f2 yd hz Pv p0 (w4 step) ?_
 intro D C s' H' m' out I' sm hns hCn hC1 hC2 hC3 hC4 ⟨hn, hk, vs, hD, hds⟩ pv
 have hden : Den X.K W.bad H' (.lst true out) (.ref D) := Den.lst ((r.same e2).fresh hn) (.new hD hk) (hds.fewer fun _ _ z => .inl z)
 refine ⟨m', hns, fun h' hsb => ?_⟩
 exact ⟨.ref D, H', _, I'.turned (t' := s'.toks) (fun b o hb e => (hsb.2 b hb).trans e) hCn hC1 (.inr hC2) hC3 hC4, rfl, e2.trans sm, hden, fin out pv⟩
theorem eE {y : Str} {py spos : Pos} (i : Nat) (hN : X.N.Nodup) (hc : X.calm = true) (S : CSc X.env.scope sc [x] ns) (hj : aZ X.N ns js) (hi : PID X (.Name x px) iter wi) (ht : ∀ (C : Addr) (s₂ : Shared) (H₂ : Hp) (fp : List Addr) (XE : Value -> Shared -> Prop), TsD (aQ X sc ns [x] C s₂ H₂ fp XE) ifs tc)
  (he : ∀ (C : Addr) (s₂ : Shared) (H₂ : Hp) (fp : List Addr) (XE : Value -> Shared -> Prop), PED (aQ X sc ns [x] C s₂ H₂ fp XE) elt te) (hy : X.N[i]? = some y := by rfl) (hly : X.env.scope.names.lookup y = some .local := by rfl) (hclos : closureFor sc X.env = pure (cR X.env ns) := by rfl) (hs : ∀ x, foldedSetIterable iter X.env x = pure x := by intro _; rfl)
  (hsw : swapsWith (.ListComp elt [⟨.Name x px, iter, ifs, 0⟩] sc pos) (some (.Name y py)) spos.line X.env = pure true := by rfl) :
  PSD X (.Assign [.Name y py] (.ListComp elt [⟨.Name x px, iter, ifs, 0⟩] sc pos) spos) (sZ i (ir wi js tc te)) := by
 intro pins s σ H W ρ E I r h
 rw [exec_Assign_Name_used _ _ _ _ hsw]
 refine wpAny_bind (wpAny_standAt (wpAny_bind ?_))
 show wpAny _ X.A (do let _ ← comprehension (.ListComp elt [⟨.Name x px, iter, ifs, 0⟩] sc pos) sc X.env _ (newList []) false (eval iter X.env) (some (assign (.Name y py) X.env))) _ _ s
 refine wpAny_bind (wpAny_mono (wpAny_comprehension_free (use := some (assign (.Name y py) X.env)) (Q := fun _ s' => SPD X pins W H E .next s') rfl hs hclos S.kind S.names
  (thn (hi pins s σ H W ρ _ I r h) fun v s1 h1 => thn h1 fun itv s2 h2 => ?_)) (fun _ s' hq => wpAny_pure (wpAny_pure hq)) fun _ _ e => e)
 obtain ⟨it, fp, tn, J, H2, ds, e, I2, e2, T, st2, f2, yd, hz, Pv, p0, step, fin⟩ := h2
 subst e
 refine jk (RR := fun acc C => compPost (model X.prog X.w) X.A X.xe (some (assign (.Name y py) X.env)) (fun _ s' => SPD X pins W H E .next s') acc C) hc S hj (Ed := fun _ => False) (fun C s₂ H₂ fp XE _ => he C s₂ H₂ fp XE) (fun C s₂ H₂ fp XE _ => ht C s₂ H₂ fp XE) (fun _ _ => eF.no) I2 (r.same e2) (fun C s₂ H₂ fp XE => oJ S) T st2 f2 yd hz Pv p0 (w4 step) ?_
 intro D C s' H' m' out I' sm hns hCn hC1 hC2 hC3 hC4 ⟨hn, hk, vs, hD, hds⟩ pv
 have hden : Den X.K W.bad H' (.lst true out) (.ref D) := Den.lst ((r.same e2).fresh hn) (.new hD hk) (hds.fewer fun _ _ z => .inl z)
 have rr := (r.same e2).same sm
 show wpAny _ X.A (assign (.Name y py) X.env (.ref D)) _ _ _
 refine wpAny_assign_Name (nr (v := .ref D) I' hN hy (.inl hly) rfl (fun s3 I3 ⟨a, hsb, ha⟩ => ?_) (.inr hly))
 have hne : C ≠ a := by
  rcases ha with z | z
  ·rw [z]; exact hC1
  ·exact fun q => hC3 y a z q.symm
 refine ⟨m', hns.sameBut hsb hne, fun h' hsb' => ?_⟩
 refine ⟨W.drop i, _, H', I3.turned (t' := s3.toks) (fun b o hb e => (hsb'.2 b hb).trans e) hCn hC1 (.inr hC2) hC3 hC4, (Fwd.same (e2.trans sm)).trans (Fwd.drop W H' i), _, rr.put (Inv.ilt I' hy) hden, fin out pv⟩
end
section
variable {X : Cx} {pins : List (Addr × Obj)} {σ : St} {H : Hp} {s : Shared} {sc : Scope} {ns : List Str} {js : List Nat} {xs : List Str} {fp : List Addr}
variable {elt iter : Expr} {ifs : List Expr} {px pos : Pos} {te : DE} {tc : DT} {wi : DA} {x : Str}
end
def zH (osc sc : Scope) (xs ns : List Str) : Bool :=
 decide (sc.kind = .function) && (sc.names.all fun y => decide (y.2 ≠ .cell)) && (sc.names.all fun y => decide (y.2 = .local -> sc.names.lookup y.1 = some .local)) && (xs.all fun x => decide (sc.names.lookup x = some .local)) &&
 (sc.names.all fun y => decide (y.2 = .free -> y.1 ∈ ns /\ osc.names.lookup y.1 = some .cell)) && (ns.all fun n => decide (sc.names.lookup n = some .free /\ osc.names.lookup n = some .cell)) && decide (xs ++ ns).Nodup
theorem bB {osc sc : Scope} {xs ns : List Str} (h : zH osc sc xs ns = true) : CSc osc sc xs ns := by
 unfold zH at h
 simp only [Bool.and_eq_true] at h
 obtain ⟨⟨⟨⟨⟨⟨h1, h2⟩, h3⟩, h4⟩, h5⟩, h6⟩, h7⟩ := h
 exact ⟨of_decide_eq_true h1, fun y hy => of_decide_eq_true (List.all_eq_true.mp h2 y hy), fun y hy => of_decide_eq_true (List.all_eq_true.mp h3 y hy), fun x hx => of_decide_eq_true (List.all_eq_true.mp h4 x hx), fun y hy => of_decide_eq_true (List.all_eq_true.mp h5 y hy), fun n hn => of_decide_eq_true (List.all_eq_true.mp h6 n hn), of_decide_eq_true h7⟩
end PD
namespace PD
open PySem PySem.Spec PyProof.Rows L2
inductive Nms : List Expr -> List Str -> Prop where
 | nil : Nms [] []
 | cons {x : Str} {p : Pos} {es : List Expr} {xs : List Str} (h : Nms es xs) : Nms (.Name x p :: es) (x :: xs)
def jL : Nat -> Nat -> DGs
 | _, 0 => gg
 | i, n + 1 => bf (iO i) (jL (i + 1) n)
theorem lJ : ∀ (ys : List D) (pre r0 cap : Ro) (Q : Ro -> Prop), r0.length = ys.length -> Q (pre ++ ys.map (fun d => some (Sl.val d)) ++ cap) -> jL pre.length ys.length ys (pre ++ r0 ++ cap) Q
 | [], pre, r0, cap, Q, hl, h => by
  have : r0 = [] := List.eq_nil_of_length_eq_zero hl
  subst this
  exact ⟨rfl, h⟩
 | d :: r, pre, r0, cap, Q, hl, h => by
  match r0, hl with
  | a :: q, hl =>
   refine ⟨d, r, rfl, ?_⟩
   show jL (pre.length + 1) r.length r ((pre ++ a :: q ++ cap).set pre.length (some (.val d))) Q
   have e : (pre ++ a :: q ++ cap).set pre.length (some (Sl.val d)) = (pre ++ [some (Sl.val d)]) ++ q ++ cap := by
    rw [List.append_assoc, List.set_append_right _ _ (Nat.le_refl _), Nat.sub_self]
    simp
   have e2 : pre.length + 1 = (pre ++ [some (Sl.val d)]).length := by simp
   rw [e, e2]
   refine lJ r _ q cap Q (by simpa using hl) ?_
   simpa using h
section
variable {X : Cx} {sc : Scope} {ns xs : List Str} {js : List Nat}
theorem Nms.len {env : Env} : ∀ {es : List Expr} {ys : List Str}, Nms es ys -> (assignEach es env).length = ys.length /\ (assignEach es env).findIdx? (·.1) = none
 | _, _, .nil => ⟨rfl, rfl⟩
 | _, _, .cons (x := x) (p := p) (es := es) h => by
  obtain ⟨h1, h2⟩ := Nms.len (env := env) h
  have e : assignEach (.Name x p :: es) env = (false, assign (.Name x p) env) :: assignEach es env := rfl
  rw [e]
  refine ⟨by rw [List.length_cons, h1]; rfl, ?_⟩
  rw [List.findIdx?_cons, h2]
  rfl
theorem md {C : Addr} {s₂ : Shared} {H₂ : Hp} {fp : List Addr} {XE : Value -> Shared -> Prop} (S : CSc X.env.scope sc xs ns) : ∀ {es : List Expr} {ys : List Str} (i : Nat), Nms es ys -> (∀ k y, ys[k]? = some y -> xs[i + k]? = some y) -> mq (aQ X sc ns xs C s₂ H₂ fp XE) es (jL i ys.length)
 | _, _, _, .nil, _ => xS
 | _, _, i, .cons (x := x) (xs := ys) h, hk => by
  have hx : xs[i]? = some x := hk 0 x rfl
  have tl : (compEnvC sc (cR X.env ns) C X.env).scope.names.lookup x = some .local := lookup_relabel_local (S.tgt x (List.mem_of_getElem? hx))
  have hN : (xs ++ ns)[i]? = some x := by rw [List.getElem?_append_left (List.getElem?_eq_some_iff.mp hx).1]; exact hx
  exact wA (bz (X := aQ X sc ns xs C s₂ H₂ fp XE) i S.nd hN (.inl tl) (.inr tl)) (md S (i + 1) h fun k y e => by
   have := hk (k + 1) y e
   rw [show i + (k + 1) = i + 1 + k by omega] at this
   exact this)
variable {elt iter : Expr} {ifs es : List Expr} {kt : Nat} {tp pos : Pos} {te : DE} {tc : DT} {wi : DA}
def fy (ys : List D) : Ro := ys.map fun d => some (Sl.val d)
def uS (n : Nat) (wi : DA) (js : List Nat) (tc : DT) (te : DE) : DE := fun ρ Q => wi ρ fun ds => ds.length <= sizeLine /\ ∃ Pv : Nat -> List D -> Prop, Pv 0 [] ∧
 (∀ j d out, ds[j]? = some d -> Pv j out -> ∃ ys, (d = .tup ys ∨ ∃ t, d = .lst t ys) /\ ys.length = n /\ tc (fy ys ++ js.map (bc ρ)) fun b => if b = true then te (fy ys ++ js.map (bc ρ)) (fun e => Pv (j + 1) (out ++ [e])) else Pv (j + 1) out) /\ ∀ out, Pv ds.length out -> Q (.lst true out)
theorem stepT {n : Nat} {ds : List D} {Pv : Nat -> List D -> Prop} {cap : Ro} (step : ∀ j d out, ds[j]? = some d -> Pv j out -> ∃ ys, (d = .tup ys ∨ ∃ t, d = .lst t ys) /\ ys.length = n /\ tc (fy ys ++ cap) fun b => if b = true then te (fy ys ++ cap) (fun e => Pv (j + 1) (out ++ [e])) else Pv (j + 1) out) :
  ∀ j d out ρ1, ds[j]? = some d -> Pv j out -> kZ n cap ρ1 -> d5 n (jL 0 n) d ρ1 fun ρ2 => kZ n cap ρ2 /\ tc ρ2 fun b => if b = true then te ρ2 (fun e => Pv (j + 1) (out ++ [e])) else Pv (j + 1) out := by
 rintro j d out ρ1 hd hp ⟨r0, hl, rfl⟩
 obtain ⟨ys, e, hn, h⟩ := step j d out hd hp
 refine ⟨ys, e, hn, ?_⟩
 subst hn
 exact lJ ys [] r0 cap _ hl ⟨⟨fy ys, by simp [fy], rfl⟩, h⟩
theorem oQ (hc : X.calm = true) (S : CSc X.env.scope sc xs ns) (hj : aZ X.N ns js) (hn : Nms es xs) (hi : PID X (.Tuple es kt tp) iter wi) (ht : ∀ (C : Addr) (s₂ : Shared) (H₂ : Hp) (fp : List Addr) (XE : Value -> Shared -> Prop), TsD (aQ X sc ns xs C s₂ H₂ fp XE) ifs tc)
  (he : ∀ (C : Addr) (s₂ : Shared) (H₂ : Hp) (fp : List Addr) (XE : Value -> Shared -> Prop), PED (aQ X sc ns xs C s₂ H₂ fp XE) elt te) (hclos : closureFor sc X.env = pure (cR X.env ns) := by rfl) (hs : ∀ x, foldedSetIterable iter X.env x = pure x := by intro _; rfl) :
  PED X (.ListComp elt [⟨.Tuple es kt tp, iter, ifs, 0⟩] sc pos) (uS xs.length wi js tc te) := by
 intro pins s σ H W ρ Q I r h
 rw [eval_ListComp]
 refine wpAny_comprehension_free (use := none) rfl hs hclos S.kind S.names (thn (hi pins s σ H W ρ _ I r h) fun v s1 h1 => thn h1 fun itv s2 h2 => ?_)
 obtain ⟨it, fp, tn, J, H2, ds, e, I2, e2, T, st2, f2, yd, hz, Pv, p0, step, fin⟩ := h2
 subst e
 refine jk (RR := fun acc C => compPost (model X.prog X.w) X.A X.xe none (DP X pins σ W H Q) acc C) hc S hj (Ed := fun _ => False) (fun C s₂ H₂ fp XE _ => he C s₂ H₂ fp XE) (fun C s₂ H₂ fp XE _ => ht C s₂ H₂ fp XE) (fun _ _ => eF.no) I2 (r.same e2) (fun C s₂ H₂ fp XE => zR (X := aQ X sc ns xs C s₂ H₂ fp XE) hc (md S 0 hn fun k y q => by simpa using q) (Nms.len hn).1 (Nms.len hn).2) T st2 f2 yd hz Pv p0 (stepT step) ?_
 intro D C s' H' m' out I' sm hns hCn hC1 hC2 hC3 hC4 ⟨hn, hk, vs, hD, hds⟩ pv
 have hden : Den X.K W.bad H' (.lst true out) (.ref D) := Den.lst ((r.same e2).fresh hn) (.new hD hk) (hds.fewer fun _ _ z => .inl z)
 refine ⟨m', hns, fun h' hsb => ?_⟩
 exact ⟨.ref D, H', _, I'.turned (t' := s'.toks) (fun b o hb e => (hsb.2 b hb).trans e) hCn hC1 (.inr hC2) hC3 hC4, rfl, e2.trans sm, hden, fin out pv⟩
end
theorem nc {α : Type} {n : Nat} {wi : DA} {js : List Nat} {tc : DT} {te : DE} {ρ : Ro} {Q : D -> Prop} (zs : List α) (f : α -> List D) (c : α -> Bool) (g : α -> D) (hw : ∀ R : List D -> Prop, R (zs.map fun z => .tup (f z)) -> wi ρ R) (hz : zs.length <= sizeLine) (hn : ∀ z, (f z).length = n)
  (hc : ∀ z ∈ zs, ∀ K : Bool -> Prop, K (c z) -> tc (fy (f z) ++ js.map (bc ρ)) K) (he : ∀ z ∈ zs, c z = true -> ∀ K : D -> Prop, K (g z) -> te (fy (f z) ++ js.map (bc ρ)) K) (q : Q (.lst true ((zs.filter c).map g))) : uS n wi js tc te ρ Q := by
 refine hw _ ⟨by rw [List.length_map]; exact hz, fun j out => out = ((zs.take j).filter c).map g, by simp, fun j d out hd ho => ?_, fun out ho => ?_⟩
 ·rw [List.getElem?_map] at hd
  cases ex : zs[j]? with
  | none => rw [ex] at hd; cases hd
  | some x =>
   rw [ex] at hd
   cases hd
   have hm : x ∈ zs := List.mem_of_getElem? ex
   have ht : zs.take (j + 1) = zs.take j ++ [x] := by rw [List.take_succ, ex]; rfl
   refine ⟨f x, .inl rfl, hn x, hc x hm _ ?_⟩
   by_cases z : c x = true
   ·rw [if_pos z]
    refine he x hm z _ ?_
    show _ = List.map g (List.filter c (List.take (j + 1) zs))
    rw [ht, ho, List.filter_append, List.map_append]
    simp [z]
   ·rw [if_neg z]
    show _ = List.map g (List.filter c (List.take (j + 1) zs))
    rw [ht, ho, List.filter_append]
    simp [z]
 ·rw [List.length_map, List.take_of_length_le (Nat.le_refl _)] at ho
  rw [ho]; exact q
end PD
namespace PD
open PySem PySem.Spec PyProof.Rows L2
theorem u3 (k : Bool) (R : Int -> Prop) (S : Bool -> Prop) : ((∃ i : Int, [D.bl k] = [.int i] /\ R i) ∨ ∃ j : Bool, [D.bl k] = [.bl j] /\ S j) = S k := by
 apply propext
 constructor
 ·rintro (⟨_, e, _⟩ | ⟨_, e, q⟩)
  ·cases e
  ·cases e; exact q
 ·intro q; exact .inr ⟨k, rfl, q⟩
theorem yM (b : Bool) : okD (.bl b) := by unfold okD; rw [pyD, plD] <;> first | exact ⟨rfl, rfl⟩ | (intros; contradiction)
theorem pR (i : Int) : okD (.int i) = True := eq_true (yq i)
theorem ro (b : Bool) : okD (.bl b) = True := eq_true (yM b)
theorem ow : okD .non = True := eq_true xN
theorem gv (i j : Int) : eqD (.int i) (.int j) = decide (i = j) := by
 unfold eqD
 rw [pyD, pyD]
 rfl
theorem pW (i j : Bool) : eqD (.bl i) (.bl j) = decide (i = j) := by
 unfold eqD
 rw [pyD, pyD]
 cases i <;> cases j <;> rfl
theorem uM (t : Bool) (xs : List D) (R : List D -> Prop) : (∃ t' ds, D.lst t xs = .lst t' ds /\ R ds) = R xs := by
 apply propext
 constructor
 ·rintro ⟨_, _, e, q⟩; cases e; exact q
 ·intro q; exact ⟨t, xs, rfl, q⟩
theorem rk (ds : List D) (r : Ro) (R : List D -> Prop) : (∃ ds', (some (Sl.own ds) :: r)[0]? = some (some (Sl.own ds')) /\ R ds') = R ds := by
 apply propext
 constructor
 ·rintro ⟨_, e, q⟩
  have e' : some (some (Sl.own ds)) = some (some (Sl.own _)) := e
  cases e'
  exact q
 ·intro q; exact ⟨ds, rfl, q⟩
theorem qY (n : Nat) (x : Option Sl) (r : Ro) (R : List D -> Prop) : (∃ ds', (x :: r)[n + 1]? = some (some (Sl.own ds')) /\ R ds') = (∃ ds', r[n]? = some (some (Sl.own ds')) /\ R ds') := rfl
theorem u6 (d : D) (r : Ro) : bc (some (.val d) :: r) 0 = some (.val d) := rfl
theorem uE (r : Ro) : bc (none :: r) 0 = none := rfl
theorem uL (n : Nat) (x : Option Sl) (r : Ro) : bc (x :: r) (n + 1) = bc r n := rfl
end PD
namespace PD
open PySem PySem.Spec PyProof.Rows L2
def sg (n : Int) : Int := if 0 < n then 1 else if n < 0 then -1 else 0
def sw (a0 a1 a2 b0 b1 b2 c0 c1 c2 : Int) : Int := a0 * (b1 * c2 - c1 * b2) + b0 * (c1 * a2 - a1 * c2) + c0 * (a1 * b2 - b1 * a2)
structure Pl (n : Nat) (a b c : Int) : Prop where
 pos : 0 < a
 low : PM.g3 a b c = 1
 b0 : Bd n a
 b1 : Bd n b
 b2 : Bd n c
def cC (b x y : Int) : D := T3 (b.fdiv (PM.dv3 b x y b)) (x.fdiv (PM.dv3 b x y b)) (y.fdiv (PM.dv3 b x y b))
theorem zM (b x y : Int) {t : Int} (ht : 0 < t) : (PM.g3 (b * t) (x * t) (y * t) : Int) = PM.g3 b x y * t := by
 unfold PM.g3
 have e : (Int.gcd (b * t) (x * t) : Int) = (Int.gcd b x : Int) * t := by
  rw [Int.gcd_mul_right]
  have : ((t.natAbs : Nat) : Int) = t := by omega
  rw [Int.natCast_mul, this]
 rw [e, Int.gcd_mul_right]
 have : ((t.natAbs : Nat) : Int) = t := by omega
 rw [Int.natCast_mul, this]
theorem yf (b x y l : Int) {t : Int} (ht : 0 < t) : PM.dv3 (b * t) (x * t) (y * t) (l * t) = PM.dv3 b x y l * t := by
 unfold PM.dv3
 rw [zM b x y ht]
 by_cases h : l < 0
 ·rw [if_pos h, if_pos (Int.mul_neg_of_neg_of_pos h ht), Int.neg_mul]
 ·rw [if_neg h, if_neg (by have := Int.mul_nonneg (show 0 <= l by omega) (show 0 <= t by omega); omega)]
theorem lE (z d : Int) {t : Int} (ht : 0 < t) (hd : d ≠ 0) (hz : d ∣ z) : (z * t).fdiv (d * t) = z.fdiv d := by
 obtain ⟨k, rfl⟩ := hz
 rw [Int.fdiv_eq_ediv_of_dvd (Int.dvd_mul_right _ _), Int.fdiv_eq_ediv_of_dvd ⟨k, by rw [Int.mul_right_comm]⟩]
 rw [Int.mul_ediv_cancel_left _ hd]
 rw [Int.mul_right_comm, Int.mul_ediv_cancel_left _ (by
  intro e
  rcases Int.mul_eq_zero.mp e with e | e
  ·exact hd e
  ·omega)]
theorem nk {b : Int} (x y : Int) {t : Int} (hb : b ≠ 0) (ht : 0 < t) : cC (b * t) (x * t) (y * t) = cC b x y := by
 have hz : ¬ (b = 0 /\ x = 0 /\ y = 0) := fun z => hb z.1
 unfold cC
 rw [yf b x y b ht, lE _ _ ht (PM.fH hz) (PM.iU (PM.ql _ _ _)), lE _ _ ht (PM.fH hz) (PM.iU (PM.rS _ _ _)), lE _ _ ht (PM.fH hz) (PM.iU (PM.sP _ _ _))]
structure A4 (d : D) (b x y : Int) : Prop where
 ex : ∃ p q r, d = T3 p q r /\ Bd 4000 p /\ Bd 4000 q /\ Bd 4000 r /\ 0 < p /\ p * x = b * q /\ p * y = b * r /\ PM.g3 p q r = 1
end PD
namespace PZ
open PySem PySem.Spec PyProof.Rows
def SIt : Bool -> Heap -> Addr -> Addr -> Nat -> Prop
 | true, h, it, a, i => h.IsListIter it a i
 | false, h, it, a, i => h.IsTupleIter it a i
def SSq : Bool -> Heap -> Addr -> Array Value -> Prop
 | true, h, a, xs => h.IsList a xs
 | false, h, a, xs => h.IsTuple a xs
def fE : Bool -> String
 | true => "list_iterator"
 | false => "tuple_iterator"
section
variable {k : Bool} {h h' : Heap} {it a b : Addr} {i : Nat} {xs : Array Value}
theorem SIt.of (x : SIt k h it a i) (e : ∀ o, h.get? it = some o -> h'.get? it = some o) : SIt k h' it a i := by
 cases k with
 | true => obtain ⟨o, ho, r⟩ := x; exact ⟨o, e o ho, r⟩
 | false => obtain ⟨o, ho, r⟩ := x; exact ⟨o, e o ho, r⟩
theorem SSq.of (x : SSq k h a xs) (e : ∀ o, h.get? a = some o -> h'.get? a = some o) : SSq k h' a xs := by
 cases k with
 | true => obtain ⟨o, ho, r⟩ := x; exact ⟨o, e o ho, r⟩
 | false => obtain ⟨o, ho, r⟩ := x; exact ⟨o, e o ho, r⟩
theorem SIt.obj (x : SIt k h it a i) : ∃ o, h.get? it = some o /\ o.cls = .type (fE k) /\ o.data = .fields #[.ref a, .int i 0] := by
 cases k with
 | true => exact x
 | false => exact x
end
section
variable {prog : Program} {w : World} {A : Around} {E : Value -> Shared -> Prop} {s : Shared} {k : Bool} {it a : Addr} {i : Nat} {xs : Array Value}
theorem tI {x : Value} {Q : Value -> Shared -> Prop} (hi : SIt k s.heap it a i) (hs : SSq k s.heap a xs) (hx : xs[i]? = some x) (hQ : ∀ h', SIt k h' it a (i + 1) -> Heap.SameBut it s.heap h' -> Q x { s with heap := h' }) :
  wpAny (model prog w) A (Builtin.SmallTypes.nextOf (.ref it)) Q E s := by
 cases k with
 | true => exact wpAny_nextOf_list_item hi hs hx hQ
 | false =>
  obtain ⟨o, ho, hc, hd⟩ := id hi
  obtain ⟨oq, hq, _, nq, hdq⟩ := hs
  unfold Builtin.SmallTypes.nextOf
  refine wpAny_bind (wpAny_callSpecial?_slot (name := Str.ofString "__next__") (Heap.IsTupleIter.typeIs hi) F.slot_tuple_iterator_next (wpAny_call_entry F.slot_tuple_iterator_next (Heap.IsTupleIter.typeIs hi) F.entry_tuple_iterator_next ?_ (F.args_tuple_iterator_next_1 _)))
  show wpAny _ _ (field (.ref it) 0 >>= _) _ _ s; refine wpAny_bind (wpAny_field ho hd (x := .ref a) rfl ?_)
  show wpAny _ _ (if (Value.ref a == Value.none) = true then _ else _) _ _ s; rw [if_neg (show ¬ ((Value.ref a == Value.none) = true) from Bool.false_ne_true)]
  show wpAny _ _ (field (.ref it) 1 >>= _) _ _ s; refine wpAny_bind (wpAny_field ho hd (x := .int i 0) rfl ?_)
  show wpAny _ _ (seqItems? (.ref a) >>= _) _ _ s; refine wpAny_bind (wpAny_seqItems hq hdq ?_); simp only [Int.toNat_natCast, hx]
  refine wpAny_bind (wpAny_setField ho hd (by simp) (wpAny_pure ⟨x, rfl, wpAny_pure (hQ _ ⟨_, Heap.get?_update_self _ ho (Obj.isFreed_of_fields (Obj.data_mapFields hd _)), (Obj.cls_mapFields ..).trans hc, by rw [Obj.data_mapFields hd]; simp [rawInt]⟩ (Heap.SameBut.update ..))⟩))
theorem wW {Q : Value -> Shared -> Prop} (hh : A.handled = none) (hi : SIt k s.heap it a i) (hs : SSq k s.heap a xs) (hx : xs[i]? = none)
  (hE : ∀ h' e, Heap.ExtBut it s.heap h' -> (∃ o, h'.get? e = some o /\ o.cls = .type "StopIteration") -> E (.ref e) { s with heap := h' }) : wpAny (model prog w) A (Builtin.SmallTypes.nextOf (.ref it)) Q E s := by
 cases k with
 | true => exact wpAny_nextOf_list_end hh hi hs hx hE
 | false =>
  obtain ⟨o, ho, hc, hd⟩ := id hi
  obtain ⟨oq, hq, _, nq, hdq⟩ := hs
  unfold Builtin.SmallTypes.nextOf
  refine wpAny_bind (wpAny_callSpecial?_slot (name := Str.ofString "__next__") (Heap.IsTupleIter.typeIs hi) F.slot_tuple_iterator_next (wpAny_call_entry F.slot_tuple_iterator_next (Heap.IsTupleIter.typeIs hi) F.entry_tuple_iterator_next ?_ (F.args_tuple_iterator_next_1 _)))
  show wpAny _ _ (field (.ref it) 0 >>= _) _ _ s; refine wpAny_bind (wpAny_field ho hd (x := .ref a) rfl ?_)
  show wpAny _ _ (if (Value.ref a == Value.none) = true then _ else _) _ _ s; rw [if_neg (show ¬ ((Value.ref a == Value.none) = true) from Bool.false_ne_true)]
  show wpAny _ _ (field (.ref it) 1 >>= _) _ _ s; refine wpAny_bind (wpAny_field ho hd (x := .int i 0) rfl ?_)
  show wpAny _ _ (seqItems? (.ref a) >>= _) _ _ s; refine wpAny_bind (wpAny_seqItems hq hdq ?_); simp only [Int.toNat_natCast, hx]
  refine wpAny_bind (wpAny_rule (wpAny_bind (wpAny_setField ho hd (by simp) ?_))); show wpAny _ _ (newExc (.type "StopIteration") [] >>= _) _ _ _
  refine wpAny_bind ?_; simp only [newExc, newTuple]; refine wpAny_bind (wpAny_newObj_type ?_ (by size_fits))
  refine wpAny_bind (m := firstArgMember _ _) (wpAny_of_eq (a := Value.none) (by simp only [firstArgMember]; rfl) ?_); refine wpAny_newObj_type ?_ (by size_fits)
  simp only [raiseNew]; refine wpAny_bind (wpAny_handled ?_); first | rw [show A.in1.handled = none from hh] | rw [hh]
  exact wpAny_bind (wpAny_pure (wpAny_throw (hE _ _ (((Heap.SameBut.update ..).extBut.push _).push _) ⟨_, Heap.get?_push_size _ rfl, rfl⟩)))
end
structure Ap (z TI TO i1 i2 : Addr) : Prop where
 a1 : TI ≠ z
 a2 : TO ≠ z
 a3 : i1 ≠ z
 a4 : i2 ≠ z
 a5 : TI ≠ TO
 a6 : TI ≠ i1
 a7 : TI ≠ i2
 a8 : TO ≠ i1
 a9 : TO ≠ i2
 b1 : i1 ≠ i2
structure Out (z TO i1 i2 l : Addr) : Prop where
 c1 : l ≠ z
 c2 : l ≠ TO
 c3 : l ≠ i1
 c4 : l ≠ i2
structure ZSt (k1 k2 : Bool) (z TI TO i1 i2 l1 l2 : Addr) (i : Nat) (h : Heap) : Prop where
 z : IsZip h z TI TO .none
 ti : IsPair h TI (.ref i1) (.ref i2)
 to : ∃ a b, IsPair h TO a b
 s1 : SIt k1 h i1 l1 i
 s2 : SIt k2 h i2 l2 i
section
variable {prog : Program} {w : World} {A : Around} {E : Value -> Shared -> Prop} {s : Shared} {k1 k2 : Bool} {z TI TO i1 i2 l1 l2 : Addr} {i : Nat} {xs ys : Array Value}
theorem Ar {x y : Value} {Q : Option Value -> Shared -> Prop} (D : Ap z TI TO i1 i2) (D1 : Out z TO i1 i2 l1) (D2 : Out z TO i1 i2 l2) (Z : ZSt k1 k2 z TI TO i1 i2 l1 l2 i s.heap) (q1 : SSq k1 s.heap l1 xs) (q2 : SSq k2 s.heap l2 ys) (hx : xs[i]? = some x) (hy : ys[i]? = some y)
  (hQ : ∀ h', IsZip h' z TI TO (rawInt s.heap.objs.size) -> IsPair h' TI (.ref i1) (.ref i2) -> IsPair h' TO x y -> SIt k1 h' i1 l1 (i + 1) -> SIt k2 h' i2 l2 (i + 1) -> IsPair h' s.heap.objs.size x y →
   (∀ c o, c ≠ z -> c ≠ TO -> c ≠ i1 -> c ≠ i2 -> s.heap.get? c = some o -> h'.get? c = some o) -> Q (some (.ref s.heap.objs.size)) { s with heap := h' }) : wpAny (model prog w) A (pyNext (.ref z)) Q E s := by
 obtain ⟨hz, hTI, ⟨a, b, hTO⟩, h1, h2⟩ := Z
 have hT : s.TypeIs (.ref z) "zip" := ⟨_, hz, rfl⟩
 unfold pyNext
 refine wpAny_bind (wpAny_attempt (wpAny_callSpecial?_slot (name := Str.ofString "__next__") hT F.slot_zip_next (wpAny_call_entry F.slot_zip_next hT F.entry_zip_next ?_ (F.args_zip_next_1 _))))
 show wpAny _ _ (field (.ref z) 2 >>= _) _ _ _; refine wpAny_bind (wpAny_field hz rfl (x := .bool false) rfl ?_)
 show wpAny _ _ (field (.ref z) 3 >>= _) _ _ _; refine wpAny_bind (wpAny_field hz rfl (x := .ref TI) rfl (wpAny_bind (wpAny_seqItems hTI rfl ?_)))
 show wpAny _ _ (Builtin.SmallTypes.ownedTupleIsFree (.ref z) >>= _) _ _ _; refine wpAny_bind ?_; unfold Builtin.SmallTypes.ownedTupleIsFree
 refine wpAny_bind (wpAny_field hz rfl (x := .none) rfl (wpAny_pure ?_)); simp only [if_true]; refine wpAny_bind (wpAny_rule (wpAny_bind (wpAny_field hz rfl (x := .ref TO) rfl ?_)))
 refine wpAny_bind (wpAny_setField_rec hz (by simp) fun g1 (z1 : IsZip g1 z TI TO .ellipsis) b1 => wpAny_bind ?_)
 simp only [List.zipIdx_cons, List.zipIdx_nil, List.forIn_cons, List.forIn_nil]
 have k1' : ∀ c o, c ≠ z -> s.heap.get? c = some o -> g1.get? c = some o := fun c o n e => b1.extBut c o n e
 refine wpAny_bind (wpAny_bind (wpAny_onRaise ?_)); show wpAny _ _ (Builtin.SmallTypes.nextOf (.ref i1) >>= _) _ _ _
 refine wpAny_bind (tI (s := { s with heap := g1 }) (h1.of fun o e => k1' _ o D.a3 e) (q1.of fun o e => k1' _ o D1.c1 e) hx fun g2 n2 b2 => wpAny_pure ?_)
 have t2 : IsPair g2 TO a b := b2.extBut _ _ D.a8 (k1' _ _ D.a2 hTO)
 refine wpAny_bind (wpAny_seqItems t2 rfl (wpAny_bind (wpAny_updateSeq_pair t2 fun g3 (t3 : IsPair g3 TO x b) b3 => wpAny_bind (wpAny_letGo (wpAny_pure ?_)))))
 have k3 : ∀ c o, c ≠ z -> c ≠ TO -> c ≠ i1 -> s.heap.get? c = some o -> g3.get? c = some o := fun c o n1 n2 n3 e => b3.extBut c o n2 (b2.extBut c o n3 (k1' c o n1 e))
 refine wpAny_bind (wpAny_bind (wpAny_onRaise ?_)); show wpAny _ _ (Builtin.SmallTypes.nextOf (.ref i2) >>= _) _ _ _
 refine wpAny_bind (tI (s := { s with heap := g3 }) (h2.of fun o e => k3 _ o D.a4 (Ne.symm D.a9) (Ne.symm D.b1) e) (q2.of fun o e => k3 _ o D2.c1 D2.c2 D2.c3 e) hy fun g4 n4 b4 => wpAny_pure ?_)
 have t4 : IsPair g4 TO x b := b4.extBut _ _ D.a9 t3
 refine wpAny_bind (wpAny_seqItems t4 rfl (wpAny_bind (wpAny_updateSeq_pair t4 fun g5 (t5 : IsPair g5 TO x y) b5 => wpAny_bind (wpAny_letGo (wpAny_pure (wpAny_pure ?_))))))
 refine wpAny_bind (wpAny_seqItems t5 rfl (wpAny_bind (wpAny_newTuple ?_)))
 have sz : g5.objs.size = s.heap.objs.size := by rw [b5.1, b4.1, b3.1, b2.1, b1.1]
 have k5 : ∀ c o, c ≠ z -> c ≠ TO -> c ≠ i1 -> c ≠ i2 -> s.heap.get? c = some o -> g5.get? c = some o := fun c o n1 n2 n3 n4 e => b5.extBut c o n2 (b4.extBut c o n4 (k3 c o n1 n2 n3 e))
 have z5 : IsZip g5 z TI TO .ellipsis := b5.extBut _ _ (Ne.symm D.a2) (b4.extBut _ _ (Ne.symm D.a4) (b3.extBut _ _ (Ne.symm D.a2) (b2.extBut _ _ (Ne.symm D.a3) z1)))
 have s15 : SIt k1 g5 i1 l1 (i + 1) := n2.of fun o e => b5.extBut _ o (Ne.symm D.a8) (b4.extBut _ o D.b1 (b3.extBut _ o (Ne.symm D.a8) e))
 have s25 : SIt k2 g5 i2 l2 (i + 1) := n4.of fun o e => b5.extBut _ o (Ne.symm D.a9) e
 have zl : z < g5.objs.size := Heap.lt_size z5
 show wpAny _ _ (Builtin.SmallTypes.ownedTupleHandOut (.ref z) (.ref g5.objs.size) >>= _) _ _ _; refine wpAny_bind ?_; unfold Builtin.SmallTypes.ownedTupleHandOut
 have z6 : IsZip (g5.push { cls := .type "tuple", data := .seq #[x, y] }) z TI TO .ellipsis := Heap.get?_push_of_some _ z5
 refine wpAny_bind (wpAny_setField_rec z6 (by simp) fun g7 (z7 : IsZip g7 z TI TO (rawInt g5.objs.size)) b7 => wpAny_setField_rec z7 (by simp) fun g8 (z8 : IsZip g8 z TI TO (rawInt g5.objs.size)) b8 => wpAny_pure ?_)
 have up : ∀ c o, c ≠ z -> g5.get? c = some o -> g8.get? c = some o := fun c o n e => b8.extBut c o n (b7.extBut c o n (Heap.get?_push_of_some _ e))
 have p8 : IsPair g8 g5.objs.size x y := b8.extBut _ _ (Nat.ne_of_gt zl) (b7.extBut _ _ (Nat.ne_of_gt zl) (Heap.get?_push_size _ rfl))
 refine ⟨_, rfl, ?_⟩
 rw [sz] at z8 p8
 refine wpAny_pure ?_
 show Q (some (.ref g5.objs.size)) _
 rw [sz]
 exact hQ g8 z8 (up _ _ D.a1 (k5 _ _ D.a1 D.a5 D.a6 D.a7 hTI)) (up _ _ D.a2 t5) (s15.of fun o e => up _ o D.a3 e) (s25.of fun o e => up _ o D.a4 e) p8 fun c o n1 n2 n3 n4 e => up c o n1 (k5 c o n1 n2 n3 n4 e)
theorem An {Q : Option Value -> Shared -> Prop} (hh : A.handled = none) (D : Ap z TI TO i1 i2) (D1 : Out z TO i1 i2 l1) (D2 : Out z TO i1 i2 l2) (Z : ZSt k1 k2 z TI TO i1 i2 l1 l2 i s.heap) (q1 : SSq k1 s.heap l1 xs) (q2 : SSq k2 s.heap l2 ys) (hend : xs[i]? = none ∨ ys[i]? = none)
  (hQ : ∀ h', (∀ c o, c ≠ z -> c ≠ TO -> c ≠ i1 -> c ≠ i2 -> s.heap.get? c = some o -> h'.get? c = some o) -> Q none { s with heap := h' }) : wpAny (model prog w) A (pyNext (.ref z)) Q E s := by
 obtain ⟨hz, hTI, ⟨a, b, hTO⟩, h1, h2⟩ := Z
 have hT : s.TypeIs (.ref z) "zip" := ⟨_, hz, rfl⟩
 unfold pyNext
 refine wpAny_bind (wpAny_attempt (wpAny_callSpecial?_slot (name := Str.ofString "__next__") hT F.slot_zip_next (wpAny_call_entry F.slot_zip_next hT F.entry_zip_next ?_ (F.args_zip_next_1 _))))
 show wpAny _ _ (field (.ref z) 2 >>= _) _ _ _; refine wpAny_bind (wpAny_field hz rfl (x := .bool false) rfl ?_)
 show wpAny _ _ (field (.ref z) 3 >>= _) _ _ _; refine wpAny_bind (wpAny_field hz rfl (x := .ref TI) rfl (wpAny_bind (wpAny_seqItems hTI rfl ?_)))
 show wpAny _ _ (Builtin.SmallTypes.ownedTupleIsFree (.ref z) >>= _) _ _ _; refine wpAny_bind ?_; unfold Builtin.SmallTypes.ownedTupleIsFree
 refine wpAny_bind (wpAny_field hz rfl (x := .none) rfl (wpAny_pure ?_)); simp only [if_true]; refine wpAny_bind (wpAny_rule (wpAny_bind (wpAny_field hz rfl (x := .ref TO) rfl ?_)))
 refine wpAny_bind (wpAny_setField_rec hz (by simp) fun g1 (z1 : IsZip g1 z TI TO .ellipsis) b1 => wpAny_bind ?_)
 simp only [List.zipIdx_cons, List.zipIdx_nil, List.forIn_cons, List.forIn_nil]
 have k1' : ∀ c o, c ≠ z -> s.heap.get? c = some o -> g1.get? c = some o := fun c o n e => b1.extBut c o n e
 refine wpAny_bind (wpAny_bind (wpAny_onRaise ?_)); show wpAny _ _ (Builtin.SmallTypes.nextOf (.ref i1) >>= _) _ _ _
 cases hx : xs[i]? with
 | none =>
  refine wpAny_bind (wW (s := { s with heap := g1 }) hh (h1.of fun o e => k1' _ o D.a3 e) (q1.of fun o e => k1' _ o D1.c1 e) hx fun g2 e b2 he => ?_)
  obtain ⟨oe, ho, hc⟩ := he
  have z2 : IsZip g2 z TI TO .ellipsis := b2 _ _ (Ne.symm D.a3) z1
  have nz : e ≠ z := fun q => by subst q; rw [z2] at ho; cases ho; simp at hc
  refine wpAny_setField_rec z2 (by simp) fun g3 _ b3 => wpAny_bind (wpAny_isInstance (T := "StopIteration") (b := true) ⟨oe, b3.extBut _ _ nz ho, hc⟩ isSubtype_stop ?_)
  exact wpAny_pure (hQ g3 fun c o n1 _ n3 _ q => b3.extBut c o n1 (b2 c o n3 (k1' c o n1 q)))
 | some x =>
  have hy : ys[i]? = none := by
   rcases hend with q | q
   ·rw [hx] at q; cases q
   ·exact q
  refine wpAny_bind (tI (s := { s with heap := g1 }) (h1.of fun o e => k1' _ o D.a3 e) (q1.of fun o e => k1' _ o D1.c1 e) hx fun g2 n2 b2 => wpAny_pure ?_)
  have t2 : IsPair g2 TO a b := b2.extBut _ _ D.a8 (k1' _ _ D.a2 hTO)
  refine wpAny_bind (wpAny_seqItems t2 rfl (wpAny_bind (wpAny_updateSeq_pair t2 fun g3 t3 b3 => wpAny_bind (wpAny_letGo (wpAny_pure ?_)))))
  have k3 : ∀ c o, c ≠ z -> c ≠ TO -> c ≠ i1 -> s.heap.get? c = some o -> g3.get? c = some o := fun c o n1 n2 n3 e => b3.extBut c o n2 (b2.extBut c o n3 (k1' c o n1 e))
  refine wpAny_bind (wpAny_bind (wpAny_onRaise ?_)); show wpAny _ _ (Builtin.SmallTypes.nextOf (.ref i2) >>= _) _ _ _
  refine wpAny_bind (wW (s := { s with heap := g3 }) hh (h2.of fun o e => k3 _ o D.a4 (Ne.symm D.a9) (Ne.symm D.b1) e) (q2.of fun o e => k3 _ o D2.c1 D2.c2 D2.c3 e) hy fun g4 e b4 he => ?_)
  obtain ⟨oe, ho, hc⟩ := he
  have z4 : IsZip g4 z TI TO .ellipsis := b4 _ _ (Ne.symm D.a4) (b3.extBut _ _ (Ne.symm D.a2) (b2.extBut _ _ (Ne.symm D.a3) z1))
  have nz : e ≠ z := fun q => by subst q; rw [z4] at ho; cases ho; simp at hc
  refine wpAny_setField_rec z4 (by simp) fun g5 _ b5 => wpAny_bind (wpAny_isInstance (T := "StopIteration") (b := true) ⟨oe, b5.extBut _ _ nz ho, hc⟩ isSubtype_stop ?_)
  exact wpAny_pure (hQ g5 fun c o n1 n2 n3 n4 q => b5.extBut c o n1 (b4 c o n4 (k3 c o n1 n2 n3 q)))
theorem w5 {k : Bool} {a : Addr} {Q : Value -> Shared -> Prop} (q : SSq k s.heap a xs) (hQ : Q (.ref s.heap.objs.size) { s with heap := s.heap.push { cls := .type (fE k), data := .fields #[.ref a, .int 0 0] } }) : wpAny (model prog w) A (pyIter (.ref a)) Q E s := by
 cases k with
 | true => exact wpAny_pyIter_list q hQ
 | false => exact wpAny_pyIter_tuple q hQ
end
abbrev zp1 (k1 : Bool) (h : Heap) (l1 : Addr) : Heap := h.push { cls := .type (fE k1), data := .fields #[.ref l1, .int 0 0] }
abbrev zp2 (k1 k2 : Bool) (h : Heap) (l1 l2 : Addr) : Heap := (zp1 k1 h l1).push { cls := .type (fE k2), data := .fields #[.ref l2, .int 0 0] }
abbrev zp3 (k1 k2 : Bool) (h : Heap) (l1 l2 : Addr) : Heap := (zp2 k1 k2 h l1 l2).push { cls := .type "tuple", data := .seq #[.ref h.objs.size, .ref (zp1 k1 h l1).objs.size] }
abbrev zp4 (k1 k2 : Bool) (h : Heap) (l1 l2 : Addr) : Heap := (zp3 k1 k2 h l1 l2).push { cls := .type "tuple", data := .seq #[.none, .none] }
abbrev zp5 (k1 k2 : Bool) (h : Heap) (l1 l2 : Addr) : Heap := (zp4 k1 k2 h l1 l2).push { cls := .type "zip", data := .fields #[.none, .bool false, .bool false, .ref (zp2 k1 k2 h l1 l2).objs.size, .ref (zp3 k1 k2 h l1 l2).objs.size] }
theorem AZ (k1 k2 : Bool) (l1 l2 : Addr) (xs ys : Array Value) : Meets (Builtin.«zip.__new__» ⟨[.type "zip", .ref l1, .ref l2], []⟩) (fun _ R s => SSq k1 s.heap l1 xs /\ SSq k2 s.heap l2 ys /\ R (.ok (.ret (.ref (zp4 k1 k2 s.heap l1 l2).objs.size))) { s with heap := zp5 k1 k2 s.heap l1 l2 }) :=
 .of_wp fun prog w A R s h => by
  obtain ⟨hp, g, d, tk, os⟩ := s; obtain ⟨q1, q2, h⟩ := h; have hsub := sub_zip
  have p1 : SSq k1 (Shared.heap ⟨hp, g, d, tk, os⟩) l1 xs := q1
  have p2 : SSq k2 (Shared.heap ⟨hp.push { cls := .type (fE k1), data := .fields #[.ref l1, .int 0 0] }, g, d, tk, os⟩) l2 ys := q2.of fun o e => Heap.get?_push_of_some _ e
  wp_walk using w5 p1, w5 p2
  exact ⟨_, rfl, h⟩
section
variable {prog : Program} {w : World} {A : Around} {E : Value -> Shared -> Prop} {s : Shared} {k1 k2 : Bool} {l1 l2 : Addr} {xs ys : Array Value}
theorem AB {Q : Value -> Shared -> Prop} (q1 : SSq k1 s.heap l1 xs) (q2 : SSq k2 s.heap l2 ys)
  (hQ : ∀ h', ZSt k1 k2 (s.heap.objs.size + 4) (s.heap.objs.size + 2) (s.heap.objs.size + 3) s.heap.objs.size (s.heap.objs.size + 1) l1 l2 0 h' -> (∀ c o, s.heap.get? c = some o -> h'.get? c = some o) -> Q (.ref (s.heap.objs.size + 4)) { s with heap := h' }) :
  wpAny (model prog w) A (call (.type "zip") [.ref l1, .ref l2]) Q E s := by
 refine callType_new F.called_zip (by decide) (F.typeCall_zip_2 _ _) (F.newCall_zip_2 _ _) (fun obj => F.args_object_init_3 obj _ _) F.entry_zip_new (AZ k1 k2 l1 l2 xs ys) ⟨q1, q2, ?_⟩
 have n1 : (zp1 k1 s.heap l1).objs.size = s.heap.objs.size + 1 := Heap.size_push ..
 have n2 : (zp2 k1 k2 s.heap l1 l2).objs.size = s.heap.objs.size + 2 := by rw [Heap.size_push, n1]
 have n3 : (zp3 k1 k2 s.heap l1 l2).objs.size = s.heap.objs.size + 3 := by rw [Heap.size_push, n2]
 have n4 : (zp4 k1 k2 s.heap l1 l2).objs.size = s.heap.objs.size + 4 := by rw [Heap.size_push, n3]
 have up5 : ∀ c o, (zp4 k1 k2 s.heap l1 l2).get? c = some o -> (zp5 k1 k2 s.heap l1 l2).get? c = some o := fun c o e => Heap.get?_push_of_some _ e
 have up4 : ∀ c o, (zp3 k1 k2 s.heap l1 l2).get? c = some o -> (zp5 k1 k2 s.heap l1 l2).get? c = some o := fun c o e => up5 c o (Heap.get?_push_of_some _ e)
 have up3 : ∀ c o, (zp2 k1 k2 s.heap l1 l2).get? c = some o -> (zp5 k1 k2 s.heap l1 l2).get? c = some o := fun c o e => up4 c o (Heap.get?_push_of_some _ e)
 have up2 : ∀ c o, (zp1 k1 s.heap l1).get? c = some o -> (zp5 k1 k2 s.heap l1 l2).get? c = some o := fun c o e => up3 c o (Heap.get?_push_of_some _ e)
 have g5 : (zp5 k1 k2 s.heap l1 l2).get? (zp4 k1 k2 s.heap l1 l2).objs.size = some _ := Heap.get?_push_size _ rfl
 have g4 := up5 _ _ (Heap.get?_push_size (zp3 k1 k2 s.heap l1 l2) (o := { cls := .type "tuple", data := .seq #[.none, .none] }) rfl)
 have g3 := up4 _ _ (Heap.get?_push_size (zp2 k1 k2 s.heap l1 l2) (o := { cls := .type "tuple", data := .seq #[.ref s.heap.objs.size, .ref (zp1 k1 s.heap l1).objs.size] }) rfl)
 have g2 := up3 _ _ (Heap.get?_push_size (zp1 k1 s.heap l1) (o := { cls := .type (fE k2), data := .fields #[.ref l2, .int 0 0] }) rfl)
 have g1 := up2 _ _ (Heap.get?_push_size s.heap (o := { cls := .type (fE k1), data := .fields #[.ref l1, .int 0 0] }) rfl)
 have hQ' := hQ (zp5 k1 k2 s.heap l1 l2)
 rw [n2, n3, n4] at g5; rw [n3] at g4; rw [n1, n2] at g3; rw [n1] at g2
 have sit : ∀ {k : Bool} {h : Heap} {it a : Addr}, h.get? it = some { cls := .type (fE k), data := .fields #[.ref a, .int 0 0] } -> SIt k h it a 0 := fun {k h it a} e => by
  cases k with
  | true => exact ⟨_, e, rfl, rfl⟩
  | false => exact ⟨_, e, rfl, rfl⟩
 show _ /\ _
 rw [n4]
 exact ⟨⟨_, g5, rfl⟩, hQ' ⟨g5, g3, ⟨_, _, g4⟩, sit g1, sit g2⟩ fun c o e => up2 c o (Heap.get?_push_of_some _ e)⟩
end
end PZ
namespace PD
open PySem PySem.Spec PyProof.Rows L2 PZ
def SqK (K : PySem.W.Frag) : Bool -> Hp -> Addr -> List V -> Prop
 | true => SqL K
 | false => SqT K
section
variable {X : Cx} {pins : List (Addr × Obj)} {σ : St} {H : Hp} {s : Shared} {k : Bool} {a : Addr} {xs : List V}
theorem SqK.list (I : Inv X pins σ H s) (h : SqK X.K k H a xs) : ∃ its : List Value, Vals xs its /\ SSq k s.heap a its.toArray := by
 cases k with
 | true =>
  obtain ⟨its, r, p, _⟩ := I.list h
  exact ⟨its, r, p.isList⟩
 | false =>
  obtain ⟨its, r, p, _⟩ := I.tuple h
  exact ⟨its, r, p⟩
theorem SqK.inj (I : Inv X pins σ H s) {ys : List V} (h : SqK X.K k H a xs) (h' : SqK X.K k H a ys) : xs = ys := by
 cases k with
 | true => exact I.list_inj h h'
 | false => exact I.tuple_inj h h'
theorem SqK.ne (I : Inv X pins σ H s) {b : Addr} (f : dF X pins H b) (h : SqK X.K k H a xs) : a ≠ b := fun e => by
 subst e
 obtain ⟨f0, f1, f2, f3, f4, f5⟩ := f
 have kn : ∀ o, X.K.lookup a = some o -> False := fun o q => by
  have hb := I.ok.mod.kin a o q
  rcases f3 with z | z
  ·exact I.ok.noex a o hb z
  ·exact absurd (Nat.lt_of_lt_of_le (Heap.lt_size (I.ok.bs a o hb).1) z) (Nat.lt_irrefl _)
 cases k with
 | true =>
  rcases h with (h | ⟨o, h⟩) | ⟨o, its, n, h, _⟩
  ·rw [f0] at h; cases h
  ·rw [f0] at h; cases h
  ·exact kn o h
 | false =>
  rcases h with (h | ⟨o, h⟩) | ⟨o, its, n, h, _⟩
  ·rw [f0] at h; cases h
  ·rw [f0] at h; cases h
  ·exact kn o h
end
def Itz (K : PySem.W.Frag) (k1 k2 : Bool) (a b : Addr) : It :=
 ⟨fun i H => ∃ xs ys x y, SqK K k1 H a xs /\ SqK K k2 H b ys /\ xs[i]? = some x /\ ys[i]? = some y,
  fun i H v H' => ∃ T x y, v = .ref T /\ H T = none /\ H' = L2.upd H T (.tup [x, y]) /\ (∀ xs, SqK K k1 H a xs -> xs[i]? = some x) /\ ∀ ys, SqK K k2 H b ys -> ys[i]? = some y,
  fun i H => ∃ xs ys, SqK K k1 H a xs /\ SqK K k2 H b ys /\ (xs[i]? = none ∨ ys[i]? = none)⟩
theorem vP {P : Program} {w : World} {K : PySem.W.Frag} {es : List Expr} {kt : Nat} {tp : Pos} (k1 k2 : Bool) (a b z TI TO i1 i2 : Addr) (D : Ap z TI TO i1 i2) :
  Turn P w K (.Tuple es kt tp) (Itz K k1 k2 a b) [z, TI, TO, i1, i2] z (fun i h => ZSt k1 k2 z TI TO i1 i2 a b i h) where
 mem := by simp
 obj := fun i h st c hc => by
  obtain ⟨hz, hTI, ⟨x, y, hTO⟩, s1, s2⟩ := st
  simp only [List.mem_cons, List.not_mem_nil, or_false] at hc
  rcases hc with e | e | e | e | e <;> subst e
  ·exact ⟨_, hz, fun v q => by cases q⟩
  ·exact ⟨_, hTI, fun v q => by cases q⟩
  ·exact ⟨_, hTO, fun v q => by cases q⟩
  ·obtain ⟨o, q1, _, q2⟩ := s1.obj
   exact ⟨o, q1, fun v q => by rw [q2] at q; cases q⟩
  ·obtain ⟨o, q1, _, q2⟩ := s2.obj
   exact ⟨o, q1, fun v q => by rw [q2] at q; cases q⟩
 keep := fun i h h' st kp => by
  obtain ⟨hz, hTI, ⟨x, y, hTO⟩, s1, s2⟩ := st
  exact ⟨kp z (by simp) _ hz, kp TI (by simp) _ hTI, ⟨x, y, kp TO (by simp) _ hTO⟩, s1.of fun o e => kp i1 (by simp) o e, s2.of fun o e => kp i2 (by simp) o e⟩
 item := by
  intro X hP hw hK hc i pins s σ H E I hf st hg
  subst hP hw hK
  obtain ⟨xs, ys, x, y, q1, q2, hx, hy⟩ := hg
  obtain ⟨us, r1, p1⟩ := q1.list I
  obtain ⟨ws, r2, p2⟩ := q2.list I
  obtain ⟨u, hu, ru⟩ := r1.get hx
  obtain ⟨v, hv, rv⟩ := r2.get hy
  have out : ∀ {k : Bool} {l : Addr} {zs : List V}, SqK X.K k H l zs -> Out z TO i1 i2 l := fun q => ⟨q.ne I (hf z (by simp)), q.ne I (hf TO (by simp)), q.ne I (hf i1 (by simp)), q.ne I (hf i2 (by simp))⟩
  refine Ar D (out q1) (out q2) st p1 p2 (x := u) (y := v) (by simpa using hu) (by simpa using hv) fun h' z1 ti to s1 s2 pr kp => ⟨_, rfl, wpAny_letOwnedTupleGo_zip z1 fun h'' z2 sb => ?_⟩
  have sz : s.heap.objs.size <= s.heap.objs.size := Nat.le_refl _
  have nz : s.heap.objs.size ≠ z := Nat.ne_of_gt (Heap.lt_size st.z)
  have nT : H s.heap.objs.size = none := I.hok.fresh sz
  have kp2 : ∀ c o, c ∉ [z, TI, TO, i1, i2] -> s.heap.get? c = some o -> h''.get? c = some o := fun c o n e => by
   simp only [List.mem_cons, List.not_mem_nil, or_false, not_or] at n
   exact sb.extBut c o n.1 (kp c o n.1 n.2.2.1 n.2.2.2.1 n.2.2.2.2 e)
  have st2 : ZSt k1 k2 z TI TO i1 i2 a b (i + 1) h'' := ⟨z2, sb.extBut _ _ D.a1 ti, ⟨_, _, sb.extBut _ _ D.a2 to⟩, s1.of fun o e => sb.extBut _ o D.a3 e, s2.of fun o e => sb.extBut _ o D.a4 e⟩
  have pr2 : IsPair h'' s.heap.objs.size u v := sb.extBut _ _ nz pr
  have lo : ∀ c ∈ [z, TI, TO, i1, i2], c ≠ s.heap.objs.size := fun c hc e => by
   have hlt : c < s.heap.objs.size := by
    obtain ⟨hz, hTI, ⟨x', y', hTO⟩, t1, t2⟩ := st
    simp only [List.mem_cons, List.not_mem_nil, or_false] at hc
    rcases hc with q | q | q | q | q <;> subst q
    ·exact Heap.lt_size hz
    ·exact Heap.lt_size hTI
    ·exact Heap.lt_size hTO
    ·obtain ⟨o, q1, _⟩ := t1.obj; exact Heap.lt_size q1
    ·obtain ⟨o, q1, _⟩ := t2.obj; exact Heap.lt_size q1
   rw [e] at hlt
   exact Nat.lt_irrefl _ hlt
  refine ⟨.ref s.heap.objs.size, L2.upd H s.heap.objs.size (.tup [x, y]), ?_, rfl, ⟨_, x, y, rfl, nT, rfl, fun xs' q => by rw [q.inj I q1]; exact hx, fun ys' q => by rw [q.inj I q2]; exact hy⟩, st2, fun c hc => by rw [aw (lo c hc)]; exact (hf c hc).1⟩
  have nch : ∀ c o, H c = some o -> c ∉ [z, TI, TO, i1, i2] := fun c o e hc => by
   have := (hf c hc).1
   rw [e] at this
   cases this
  refine L2.Inv.step (s := s) (h' := h'') (g' := s.gens) (d' := s.drawn) (t' := s.toks) (ch := [z, TI, TO, i1, i2]) I (fun c hc => ?_) (fun c o _ _ n e _ => kp2 c o n e) (fun c o _ _ n e _ => ⟨o.slots, kp2 c o n e⟩) (fun c o _ e n => by rw [aw (Nat.ne_of_lt (Heap.lt_size e))]; exact n) (fun c o n e => ⟨o, kp2 c o n e⟩)
   (fun c ls e => by rw [aw (aV e nT)]; exact e) (fun c o ls e => by rw [aw (aV e nT)]; exact e) (fun c ps e => ⟨#[], by rw [aw (aV e nT), e]; simp⟩) (fun m hm => ?_) (fun c o e => ?_) I.bare
  ·obtain ⟨f0, f1, f2, f3, f4, f5⟩ := hf c hc
   exact ⟨f3, f1, f4, f5⟩
  ·obtain ⟨o, es', ep, ho, r⟩ := hm
   exact ⟨o, es', ep, kp2 _ o (fun q => (hf _ q).2.1 rfl) ho, r⟩
  ·by_cases hcT : c = s.heap.objs.size
   ·subst hcT
    rw [aD] at e
    cases e
    exact ⟨by rw [sizeLine_eq]; show 2 <= 16777216; decide, [u, v], .cons ru (.cons rv .nil), ⟨_, pr2, rfl, _, rfl⟩⟩
   ·rw [aw hcT] at e
    refine (I.hok c o e).stay (fun d' o' hd q => kp2 d' o' ?_ q) (fun d' q => by rw [aw (aV q nT)]; exact q) fun d' ls q => by rw [aw (aV q nT)]; exact q
    rcases hd with q' | q'
    ·rw [q']; exact nch c o e
    ·exact nch d' _ q'
 done := by
  intro X hP hw hK hc i pins s σ H E I hf st hg
  subst hP hw hK
  obtain ⟨xs, ys, q1, q2, hend⟩ := hg
  obtain ⟨us, r1, p1⟩ := q1.list I
  obtain ⟨ws, r2, p2⟩ := q2.list I
  have out : ∀ {k : Bool} {l : Addr} {zs : List V}, SqK X.K k H l zs -> Out z TO i1 i2 l := fun q => ⟨q.ne I (hf z (by simp)), q.ne I (hf TO (by simp)), q.ne I (hf i1 (by simp)), q.ne I (hf i2 (by simp))⟩
  refine An (I.ok.hd hc) D (out q1) (out q2) st p1 p2 (hend.imp (fun q => by simpa using r1.none_of q) fun q => by simpa using r2.none_of q) fun h' kp => ⟨rfl, ?_⟩
  have kp2 : ∀ c o, c ∉ [z, TI, TO, i1, i2] -> s.heap.get? c = some o -> h'.get? c = some o := fun c o n e => by
   simp only [List.mem_cons, List.not_mem_nil, or_false, not_or] at n
   exact kp c o n.1 n.2.2.1 n.2.2.2.1 n.2.2.2.2 e
  have nch : ∀ c o, H c = some o -> c ∉ [z, TI, TO, i1, i2] := fun c o e hc => by
   have := (hf c hc).1
   rw [e] at this
   cases this
  refine L2.Inv.step (s := s) (h' := h') (g' := s.gens) (d' := s.drawn) (t' := s.toks) (ch := [z, TI, TO, i1, i2]) I (fun c hc => ?_) (fun c o _ _ n e _ => kp2 c o n e) (fun c o _ _ n e _ => ⟨o.slots, kp2 c o n e⟩) (fun _ _ _ _ n => n) (fun c o n e => ⟨o, kp2 c o n e⟩) (fun _ _ e => e) (fun _ _ _ e => e) (fun c ps e => ⟨#[], by rw [e]; simp⟩) (fun m hm => ?_) (fun c o e => ?_) I.bare
  ·obtain ⟨f0, f1, f2, f3, f4, f5⟩ := hf c hc
   exact ⟨f3, f1, f4, f5⟩
  ·obtain ⟨o, es', ep, ho, r⟩ := hm
   exact ⟨o, es', ep, kp2 _ o (fun q => (hf _ q).2.1 rfl) ho, r⟩
  ·refine (I.hok c o e).stay (fun d' o' hd q => kp2 d' o' ?_ q) (fun _ q => q) fun _ _ q => q
   rcases hd with q' | q'
   ·rw [q']; exact nch c o e
   ·exact nch d' _ q'
 self := fun _ _ _ _ _ st h => wpAny_pyIter_zip st.z h
def fJ : D -> Option (Bool × List D)
 | .lst _ ds => some (true, ds)
 | .tup ds => some (false, ds)
 | _ => none
section
variable {X : Cx}
theorem Den.seq {P : Bool -> Addr -> Prop} {H : Hp} {d : D} {v : V} {k : Bool} {ds : List D} (h : Den X.K P H d v) (e : fJ d = some (k, ds)) : ∃ a vs, v = .ref a /\ SqK X.K k H a vs /\ ah X.K P H ds vs ∧
  ∀ (P' : Bool -> Addr -> Prop) (H' : Hp), (∀ a vs, SqT X.K H a vs -> SqT X.K H' a vs) -> (∀ t a vs, ¬ P t a -> SqG X.K H t a vs -> ¬ P' t a /\ SqG X.K H' t a vs) -> SqK X.K k H' a vs := by
 cases d with
 | lst t es =>
  cases e
  obtain ⟨a, vs, e1, p, q, hd⟩ := h.lstG_
  exact ⟨a, vs, e1, q.1, hd, fun P' H' _ hL => (hL t a vs p q).2.1⟩
 | tup es =>
  cases e
  obtain ⟨a, vs, e1, q, hd⟩ := h.tup_
  exact ⟨a, vs, e1, q, hd, fun P' H' hT _ => hT a vs q⟩
 | non => cases e
 | bl _ => cases e
 | int _ => cases e
 | str _ => cases e
 | exc _ => cases e
def we (ta : DA) : DA := fun ρ R => ta ρ fun ds => ∃ d1 d2 k1 k2 xs ys, ds = [d1, d2] /\ fJ d1 = some (k1, xs) /\ fJ d2 = some (k2, ys) /\ R (List.zipWith (fun x y => D.tup [x, y]) xs ys)
theorem tX {es : List Expr} {kt : Nat} {tp : Pos} {a b : Expr} {ta : DA} {p pos : Pos} (hg : Gl X "zip") (hm : X.mg "zip" = none) (ha : PAD X [a, b] ta) (hs : starEach [a, b] X.env = (false, eval a X.env) :: starEach [b] X.env := by rfl) (hs2 : (backTo pos (starEach [b] X.env)).any (·.1) = false := by rfl) :
  PID X (.Tuple es kt tp) (.Call (.Name "zip" p) [a, b] [] pos) (we ta) := by
 intro pins s σ H W ρ R I r h
 refine Call_ (cS I hg hm boot_zip (PyProof.Rows.callWith_type1 (thn (ha pos pins s σ H W ρ _ I r h) fun us s1 ⟨vs, H1, ds, I1, r1, e1, hd, q1⟩ => ?_) hs hs2))
 obtain ⟨d1, d2, k1, k2, xs, ys, e, g1, g2, q⟩ := q1
 subst e
 obtain ⟨v1, v2, rfl, hd1, hd2⟩ := nZ hd
 obtain ⟨l1, ws1, e2, sq1, dn1, up1⟩ := hd1.seq g1
 obtain ⟨l2, ws2, e3, sq2, dn2, up2⟩ := hd2.seq g2
 subst e2 e3
 cases r1 with
 | cons ra rr =>
  cases rr with
  | cons rb rr =>
   cases rr
   cases ra
   cases rb
   obtain ⟨us1, _, p1⟩ := sq1.list I1
   obtain ⟨us2, _, p2⟩ := sq2.list I1
   have nn : ∀ j : Nat, s1.heap.objs.size <= s1.heap.objs.size + j := fun j => Nat.le_add_right _ j
   refine AB p1 p2 fun h' Z kp => ?_
   refine wpAny_pyIter_zip Z.z ?_
   have Dz : Ap (s1.heap.objs.size + 4) (s1.heap.objs.size + 2) (s1.heap.objs.size + 3) s1.heap.objs.size (s1.heap.objs.size + 1) := by constructor <;> simp
   refine ⟨s1.heap.objs.size + 4, [s1.heap.objs.size + 4, s1.heap.objs.size + 2, s1.heap.objs.size + 3, s1.heap.objs.size, s1.heap.objs.size + 1], _, _, H1, _, rfl, I1.kept (t' := s1.toks) kp, e1, vP k1 k2 l1 l2 _ _ _ _ _ Dz, Z, fun c hc => ?_, ?_, q⟩
   ·have hc' : s1.heap.objs.size <= c := by
     simp only [List.mem_cons, List.not_mem_nil, or_false] at hc
     rcases hc with q | q | q | q | q <;> subst q <;> first | exact nn _ | exact Nat.le_refl _
    exact I1.fpOk hc' (I1.hok.fresh hc')
   ·intro P' H' hT hL hX i
    have k1' := up1 P' H' hT hL
    have k2' := up2 P' H' hT hL
    have n1 := dn1.len
    have n2 := dn2.len
    have hlen : (List.zipWith (fun x y => D.tup [x, y]) xs ys).length = min xs.length ys.length := List.length_zipWith
    refine ⟨fun hi => ?_, fun v H3 y hi => ?_, fun hi => ⟨ws1, ws2, k1', k2', ?_⟩⟩
    ·obtain ⟨x, hx, _⟩ := dn1.get (i := i) (d := xs[i]'(by omega)) (by simp)
     obtain ⟨y, hy, _⟩ := dn2.get (i := i) (d := ys[i]'(by omega)) (by simp)
     exact ⟨ws1, ws2, x, y, k1', k2', hx, hy⟩
    ·obtain ⟨T, x, y', e, nT, eH, hx, hy⟩ := y
     subst e eH
     obtain ⟨dx, g1', hx'⟩ := dn1.bc (hx ws1 k1')
     obtain ⟨dy, g2', hy'⟩ := dn2.bc (hy ws2 k2')
     have sm : ar H' (L2.upd H' T (.tup [x, y'])) := ar.upd nT
     refine ⟨sm, .tup [dx, dy], by simp [List.getElem?_zipWith, g1', g2'], Den.tup (SqT.of aD) (ah.cons ((Den.map hT hL hX dx x hx').same sm) (ah.one ((Den.map hT hL hX dy y' hy').same sm)))⟩
    ·by_cases hz : xs.length <= i
     ·exact .inl (List.getElem?_eq_none (by omega))
     ·exact .inr (List.getElem?_eq_none (by omega))
end
end PD
namespace PD
open PySem PySem.Spec PyProof.Rows L2
def PEF (X : Cx) (e : Expr) (t : DA) : Prop :=
 ∀ (pins : List (Addr × Obj)) (s : Shared) (σ : St) (H : Hp) (W : Own) (ρ : Ro) (Q : List D -> Prop), Inv X pins σ H s -> Rel X W H σ ρ -> t ρ Q →
  wpAny (model X.prog X.w) X.A (eval e X.env) (fun u s' => ∃ a vs H' ds, u = .ref a /\ Inv X pins σ H' s' /\ ar H H' /\ H a = none /\ X.K.lookup a = none /\ H' a = some (.lst vs) /\ ah X.K (fun t b => W.bad t b ∨ b = a) H' ds vs /\ Q ds) X.xe s
def vz (t : DA) : DE := fun ρ Q => t ρ fun ds => Q (.lst true ds)
section
variable {X : Cx} {e : Expr} {t : DA} {pos : Pos}
theorem PEF.ped (h : PEF X e t) : PED X e (vz t) := by
 intro pins s σ H W ρ Q I r hw
 refine thn (h pins s σ H W ρ _ I r hw) fun u s1 ⟨a, vs, H', ds, e, I1, sm, n, k, ha, hd, q⟩ => ?_
 subst e
 exact ⟨.ref a, H', _, I1, rfl, sm, Den.lst (r.fresh n) (.new ha k) (hd.fewer fun _ _ z => .inl z), q⟩
theorem PEF.of {te : TE} (h : PE X e te) (k : ∀ σ H W ρ Q, Rel X W H σ ρ -> t ρ Q -> te σ H fun v H' => ∃ a vs ds H1, v = .ref a /\ ar H H1 /\ H1 a = none /\ H' = L2.upd H1 a (.lst vs) /\ ah X.K W.bad H1 ds vs /\ Q ds) (hK : ∀ pins σ H s a vs, Inv X pins σ H s -> H a = some (.lst vs) -> X.K.lookup a = none) : PEF X e t := by
 intro pins s σ H W ρ Q I r hw
 refine thn (h pins s σ H _ I (k σ H W ρ Q r hw)) fun u s1 ⟨v, H', I1, rv, a, vs, ds, H1, e, sm, n, eH, hd, q⟩ => ?_
 subst e eH
 cases rv
 exact ⟨a, vs, _, ds, rfl, I1, sm.trans (ar.upd n), sm.free n, hK _ _ _ _ a vs I1 aD, aD, ah.apart n (hK _ _ _ _ a vs I1 aD) hd, q⟩
theorem Inv.kno {pins : List (Addr × Obj)} {σ : St} {H : Hp} {s : Shared} {a : Addr} {o : HO} (I : Inv X pins σ H s) (h : H a = some o) : X.K.lookup a = none := by
 cases e : X.K.lookup a with
 | none => rfl
 | some ob =>
  have := (I.bs a ob (I.ok.mod.kin a ob e)).2
  rw [h] at this
  cases this
def wR (i : Nat) (t : DA) : DS := fun E ρ => t ρ fun ds => E.nx (ρ.set i (some (.own ds)))
end
mutual
def lF : D -> Bool
 | .tup ds => cW ds
 | .lst _ _ => false
 | _ => true
def cW : List D -> Bool
 | [] => true
 | d :: ds => lF d && cW ds
end
mutual
def jW : D -> Bool
 | .tup ds => sq ds
 | .lst t ds => t && sq ds
 | _ => true
def sq : List D -> Bool
 | [] => true
 | d :: ds => jW d && sq ds
end
section
variable {K : PySem.W.Frag} {P P' : Bool -> Addr -> Prop} {H : Hp}
mutual
theorem Den.nol : ∀ (d : D) (v : V), lF d = true -> Den K P H d v -> Den K P' H d v
 | .non, _, _, h => by simpa only [Den] using h
 | .bl _, _, _, h => by simpa only [Den] using h
 | .int _, _, _, h => by simpa only [Den] using h
 | .str _, _, _, h => by simpa only [Den] using h
 | .exc _, _, _, h => by simpa only [Den] using h
 | .lst _ _, _, n, _ => by rw [lF] at n; cases n
 | .tup ds, _, n, h => by
  rw [lF] at n
  simp only [Den] at h ⊢
  obtain ⟨a, vs, e, q, r⟩ := h
  exact ⟨a, vs, e, q, ah.nol ds vs n r⟩
theorem ah.nol : ∀ (ds : List D) (vs : List V), cW ds = true -> ah K P H ds vs -> ah K P' H ds vs
 | [], _, _, h => by simpa only [ah] using h
 | d :: ds, _, n, h => by
  rw [cW, Bool.and_eq_true] at n
  simp only [ah] at h ⊢
  obtain ⟨v, r, e, h1, h2⟩ := h
  exact ⟨v, r, e, Den.nol d v n.1 h1, ah.nol ds r n.2 h2⟩
end
end
def Own.soft (W : Own) (i : Nat) (a : Addr) : Own := ⟨W.B, fun j => if j = i then none else W.O j, fun b => W.S b ∨ b = a⟩
section
variable {X : Cx}
theorem Rel.soft {W : Own} {H : Hp} {σ : St} {ρ : Ro} {i : Nat} {ds : List D} (r : Rel X W H σ ρ) (e : ρ[i]? = some (some (.own ds))) : ∃ a, W.O i = some a /\ Rel X (W.soft i a) H σ (ρ.set i (some (.val (.lst false ds)))) /\ ∀ b, W.bad true b -> (W.soft i a).bad true b := by
 obtain ⟨a, vs, oa, sa, ha, hds⟩ := r.ownL i ds e
 have hl' : i < ρ.length := (List.getElem?_eq_some_iff.mp e).1
 have hO : ∀ j b, (W.soft i a).O j = some b -> j ≠ i /\ W.O j = some b := fun j b h => by
  have h1 : (if j = i then none else W.O j) = some b := h
  by_cases z : j = i
  ·rw [if_pos z] at h1; cases h1
  ·rw [if_neg z] at h1; exact ⟨z, h1⟩
 have low : ∀ t b, (W.soft i a).bad t b -> W.bad t b := fun t b z => by
  rcases z with z | ⟨j, z⟩ | ⟨z1, z2⟩
  ·exact .inl z
  ·exact .inr (.inl ⟨j, (hO j b z).2⟩)
  ·rcases z2 with z2 | z2
   ·exact .inr (.inr ⟨z1, z2⟩)
   ·subst z2; exact .inr (.inl ⟨i, oa⟩)
 have nb : ¬ (W.soft i a).bad false a := fun z => by
  rcases z with z | ⟨j, z⟩ | ⟨z1, _⟩
  ·exact (r.kn i a oa).2.1.1 z
  ·exact (hO j a z).1 (r.inj j i a (hO j a z).2 oa)
  ·cases z1
 refine ⟨a, oa, ⟨fun j d h => ?_, fun j x h => ?_, fun j k b h1 h2 => r.inj j k b (hO j b h1).2 (hO k b h2).2, fun j b h => ?_, fun j b h => r.ke j b (hO j b h).2, r.bt, fun b h => ?_, r.ent, r.tab⟩, fun b z => ?_⟩
 ·by_cases hj : j = i
  ·subst hj
   rw [List.getElem?_set_self hl'] at h
   cases h
   exact ⟨.ref a, sa, Den.lst nb (.any (SqL.of ha)) (hds.fewer low)⟩
  ·rw [List.getElem?_set_ne (Ne.symm hj)] at h
   obtain ⟨w, h1, h2⟩ := r.val j d h
   exact ⟨w, h1, h2.fewer low⟩
 ·by_cases hj : j = i
  ·subst hj
   rw [List.getElem?_set_self hl'] at h; cases h
  ·rw [List.getElem?_set_ne (Ne.symm hj)] at h
   obtain ⟨b, ws, h1, h2, h3, h4⟩ := r.own j x h
   exact ⟨b, ws, by show (if j = i then none else W.O j) = _; rw [if_neg hj]; exact h1, h2, h3, h4.fewer low fun k c q => (by
    show (if vix σ.length j k = i then none else W.O (vix σ.length j k)) = _
    rw [if_neg (lQ (List.getElem?_eq_some_iff.mp sa).1)]
    exact q)⟩
 ·obtain ⟨k1, ⟨k2, k3⟩, k4⟩ := r.kn j b (hO j b h).2
  refine ⟨k1, ⟨k2, fun z => z.elim k3 fun z => ?_⟩, k4⟩
  subst z
  exact (hO j b h).1 (r.inj j i b (hO j b h).2 oa)
 ·rcases h with h | h
  ·exact r.st b h
  ·subst h; exact ⟨_, ha⟩
 ·rcases z with z | ⟨j, z⟩ | ⟨_, z⟩
  ·exact .inl z
  ·by_cases hj : j = i
   ·subst hj
    rw [oa] at z
    cases z
    exact .inr (.inr ⟨rfl, .inr rfl⟩)
   ·exact .inr (.inl ⟨j, by show (if j = i then none else W.O j) = _; rw [if_neg hj]; exact z⟩)
  ·exact .inr (.inr ⟨rfl, .inl z⟩)
variable {e : Expr} {te : DE} {tt : DT} {ta : DA}
def xq (i : Nat) (t : DE) : DE := fun ρ Q => ∃ ds, ρ[i]? = some (some (.own ds)) /\ t (ρ.set i (some (.val (.lst false ds)))) fun d => jW d = true /\ Q d
def pE (i : Nat) (t : DT) : DT := fun ρ Q => ∃ ds, ρ[i]? = some (some (.own ds)) /\ t (ρ.set i (some (.val (.lst false ds)))) Q
theorem yp (i : Nat) (h : PTD X e tt) : PTD X e (pE i tt) := by
 intro pins s σ H W ρ Q I r hw
 obtain ⟨ds, eo, hw⟩ := hw
 obtain ⟨a, oa, r', up⟩ := r.soft eo
 exact h pins s σ H _ _ _ I r' hw
end
section
variable {X : Cx} {pos : Pos}
theorem ah.take {K : PySem.W.Frag} {P : Bool -> Addr -> Prop} {H : Hp} : ∀ {ds : List D} {vs : List V} (n : Nat), ah K P H ds vs -> ah K P H (ds.take n) (vs.take n)
 | _, _, 0, _ => by simp only [List.take_zero]; exact ah.nil
 | [], _, _ + 1, h => by simp only [ah] at h; subst h; exact ah.nil
 | x :: r, _, n + 1, h => by
  simp only [ah] at h
  obtain ⟨u, w, rfl, h1, h2⟩ := h
  exact ah.cons h1 (ah.take n h2)
theorem ah.drop {K : PySem.W.Frag} {P : Bool -> Addr -> Prop} {H : Hp} : ∀ {ds : List D} {vs : List V} (n : Nat), ah K P H ds vs -> ah K P H (ds.drop n) (vs.drop n)
 | _, _, 0, h => by simpa only [List.drop_zero] using h
 | [], _, _ + 1, h => by simp only [ah] at h; subst h; exact ah.nil
 | x :: r, _, n + 1, h => by
  simp only [ah] at h
  obtain ⟨u, w, rfl, h1, h2⟩ := h
  exact ah.drop n h2
theorem ah.rev {K : PySem.W.Frag} {P : Bool -> Addr -> Prop} {H : Hp} : ∀ {ds : List D} {vs : List V}, ah K P H ds vs -> ah K P H ds.reverse vs.reverse
 | [], _, h => by simp only [ah] at h; subst h; exact ah.nil
 | x :: r, _, h => by
  simp only [ah] at h
  obtain ⟨u, w, rfl, h1, h2⟩ := h
  rw [List.reverse_cons, List.reverse_cons]
  exact (ah.rev h2).append (ah.one h1)
end
end PD
namespace PD
open PySem PySem.Spec PyProof.Rows L2
section
variable {X : Cx} {pos : Pos}
def n5 (i : Nat) (C : List D -> Prop) (f : List D -> List D) : DS := fun E ρ => ∃ ds, ρ[i]? = some (some (.own ds)) /\ C ds /\ E.nx (ρ.set i (some (.own (f ds))))
theorem vB {x name : Str} {id : String} {px apos cpos : Pos} {rm : V -> List V -> Hp -> VK -> Prop} {C : List D -> Prop} {f : List D -> List D} (g : List V -> List V) (i : Nat) (slot : Slot "list" name id) (hty : typeOf (.builtin id) = pure (.type "method_descriptor")) (hm : MtM X id rm)
  (hr : ∀ (a : Addr) (vs : List V) (ds : List D) (H : Hp) (Q : VK), H a = some (.lst vs) -> vs.length = ds.length -> C ds -> (∀ v, Q v (L2.upd H a (.lst (g vs)))) -> rm (.ref a) [] H Q) (hg : ∀ (K : PySem.W.Frag) (P : Bool -> Addr -> Prop) (H : Hp) (ds : List D) (vs : List V), ah K P H ds vs -> ah K P H (f ds) (g vs))
  (hi : X.N[i]? = some x := by rfl) (hv : Vis X.env.scope x := by first | exact Or.inl rfl | exact Or.inr (Or.inl rfl) | exact Or.inr (Or.inr rfl)) (hd : (x == ("__debug__" : Str)) = false := by decide) (hcd : (x == ("__classdict__" : Str)) = false := by decide)
  (hbase : attributeBase (.Name x px) name X.env (eval (.Name x px) X.env) = eval (.Name x px) X.env := by rfl) (hline : (apos.endLine == cpos.line) = true := by rfl)
  (hs : swapsWith (.Call (.Attribute (.Name x px) name apos) [] [] cpos) none pos.line X.env = pure false := by rfl) : PSD X (.Expr (.Call (.Attribute (.Name x px) name apos) [] [] cpos) pos) (n5 i C f) := by
 have P0 := j8 (pos := pos) (zt PySem.F.plainAttrs_list slot hty hm (gH hi hv hd hcd) hbase hline) hs
 refine PSD.of P0 fun σ H W ρ E r hl h => ?_
 obtain ⟨ds, eo, hc, h⟩ := h
 obtain ⟨a, vs, oa, sa, ha, hds⟩ := r.ownL i ds eo
 obtain ⟨r', f'⟩ := r.mut eo oa sa ha (hg _ _ _ ds vs hds)
 exact ⟨.ref a, sa, .inl ⟨rfl, _, SqL.of ha⟩, hr a vs ds H _ ha hds.len hc fun v => ⟨W, _, f', r', h⟩⟩
theorem ah.dropLast {K : PySem.W.Frag} {P : Bool -> Addr -> Prop} {H : Hp} {ds : List D} {vs : List V} (h : ah K P H ds vs) : ah K P H ds.dropLast vs.dropLast := by
 rw [List.dropLast_eq_take, List.dropLast_eq_take, h.len]
 exact h.take _
theorem zf {x : Str} {px apos cpos : Pos} (i : Nat) (hi : X.N[i]? = some x := by rfl) (hv : Vis X.env.scope x := by first | exact Or.inl rfl | exact Or.inr (Or.inl rfl) | exact Or.inr (Or.inr rfl)) (hd : (x == ("__debug__" : Str)) = false := by decide) (hcd : (x == ("__classdict__" : Str)) = false := by decide)
  (hbase : attributeBase (.Name x px) "pop" X.env (eval (.Name x px) X.env) = eval (.Name x px) X.env := by rfl) (hline : (apos.endLine == cpos.line) = true := by rfl)
  (hs : swapsWith (.Call (.Attribute (.Name x px) "pop" apos) [] [] cpos) none pos.line X.env = pure false := by rfl) : PSD X (.Expr (.Call (.Attribute (.Name x px) "pop" apos) [] [] cpos) pos) (n5 i (fun ds => 0 < ds.length) List.dropLast) :=
 vB List.dropLast i PySem.F.slot_list_pop PySem.F.type_list_pop yZ (fun a vs ds H Q ha hl hc q => by
  have hp : vs.length - 1 < vs.length := by omega
  exact ⟨a, vs, vs[vs.length - 1], rfl, rfl, ha, by simp [hp], q _⟩) (fun _ _ _ _ _ h => h.dropLast) hi hv hd hcd hbase hline hs
variable {e : Expr} {te : DE} {p : Pos}
def sV (te : DE) : DA := fun ρ Q => te ρ fun d => ∃ k ds, fJ d = some (k, ds) /\ Q ds
theorem pS {K : PySem.W.Frag} {P : Bool -> Addr -> Prop} {H : Hp} {d : D} {v : V} {k : Bool} {ds : List D} (h : Den K P H d v) (e : fJ d = some (k, ds)) : ∃ a vs, v = .ref a /\ (SqL K H a vs ∨ SqT K H a vs) /\ ah K P H ds vs := by
 cases d with
 | lst t es =>
  cases e
  obtain ⟨a, vs, e1, p, q, hd⟩ := h.lst_
  exact ⟨a, vs, e1, .inl q, hd⟩
 | tup es =>
  cases e
  obtain ⟨a, vs, e1, q, hd⟩ := h.tup_
  exact ⟨a, vs, e1, .inr q, hd⟩
 | non => cases e
 | bl _ => cases e
 | int _ => cases e
 | str _ => cases e
 | exc _ => cases e
theorem yK (hg : Gl X "list") (hm : X.mg "list" = none) (he : PED X e te) (hst : starEach [e] X.env = (false, eval e X.env) :: starEach [] X.env := by rfl) (hpl : (backTo pos (starEach [] X.env)).any (·.1) = false := by rfl) : PEF X (.Call (.Name "list" p) [e] [] pos) (sV te) := by
 refine PEF.of (nC jZ hg hm boot_list (cD he.pe gy hst) (by decide) (by decide) hst hpl) (fun σ H W ρ Q r h => ?_) fun _ _ _ _ _ _ I h => Inv.kno I h
 refine ⟨W, ρ, _, r, h, fun v H' d e1 hd q => ?_⟩
 obtain ⟨k, ds, es, q⟩ := q
 obtain ⟨a, vs, ev, hq, hds⟩ := pS hd es
 subst ev
 exact ⟨a, vs, rfl, hq, fun l hl => ⟨l, vs, ds, H', rfl, e1, hl, rfl, hds, q⟩⟩
theorem bE {K : PySem.W.Frag} {P : Bool -> Addr -> Prop} {H : Hp} : ∀ {ns : List Int} {vs : List V}, ah K P H (ns.map D.int) vs -> vs = ns.map V.int
 | [], _, h => by simpa only [List.map_nil, ah] using h
 | n :: r, _, h => by
  simp only [List.map_cons, ah] at h
  obtain ⟨v, w, rfl, h1, h2⟩ := h
  rw [h1.int_, bE h2]
  rfl
theorem ot (hc : X.calm = true) : dq X (.builtin "sum") (fun ds Q => ∃ (t : Bool) (ns : List Int), ds = [.lst t (ns.map D.int)] /\ Q (.int ns.sum)) := by
 intro pins s σ H W ds vs us Q I tr r hd q
 obtain ⟨t, ns, e, q⟩ := q
 subst e
 obtain ⟨v, rfl, h1⟩ := ko hd
 obtain ⟨a, ws, ev, _, hq, hw⟩ := h1.lst_
 subst ev
 cases r with
 | cons r1 rr =>
  cases rr
  cases r1
  obtain ⟨its, rv, pl, _⟩ := I.list hq
  rw [bE hw] at rv
  have ia := intsAre_of rv
  obtain ⟨xs, ex⟩ := ia.allInts.items
  have hl : s.heap.IsList a (intItems xs) := by rw [<- ex]; exact pl.isList
  refine sum_intListG (I.ok.hd hc) hl fun h' tk t' kp => ?_
  have es : preSum (numAt xs) xs.size = ns.sum := by
   rw [preSum_eq, List.take_of_length_le (by simp), <- nums_intItems, <- ex, show its.toArray.toList = its from rfl, ia.numsOf]
  rw [es]
  exact ⟨.int ns.sum, H, _, I.kept kp, ⟨_, rfl⟩, ar.refl H, Den.int _, q⟩
theorem Vals.rev : ∀ {xs : List V} {us : List Value}, Vals xs us -> Vals xs.reverse us.reverse
 | _, _, .nil => .nil
 | _, _, .cons r t => by
  rw [List.reverse_cons, List.reverse_cons]
  exact (Vals.rev t).append (.cons r .nil)
def cutD (xs : List D) (lo hi : Option Int) : List D := (xs.drop (HT.sIx xs.length 0 lo)).take (HT.sIx xs.length xs.length hi - HT.sIx xs.length 0 lo)
theorem ah.cut {K : PySem.W.Frag} {P : Bool -> Addr -> Prop} {H : Hp} {ds : List D} {vs : List V} (lo hi : Option Int) (h : ah K P H ds vs) : ah K P H (cutD ds lo hi) (jM vs lo hi) := by
 unfold cutD jM
 rw [h.len]
 exact (h.drop _).take _
abbrev DO := Ro -> (Option Int -> Prop) -> Prop
def PDO (X : Cx) (e : Option Expr) (t : DO) : Prop :=
 ∀ (pins : List (Addr × Obj)) (s : Shared) (σ : St) (H : Hp) (W : Own) (ρ : Ro) (Q : Option Int -> Prop), Inv X pins σ H s -> Rel X W H σ ρ -> t ρ Q →
  wpAny (model X.prog X.w) X.A (evalPart e X.env) (fun u s' => ∃ o H', Inv X pins σ H' s' /\ IsPart u o /\ ar H H' /\ Q o) X.xe s
def bP : DO := fun _ Q => Q none
def j5 (te : DE) : DO := fun ρ Q => te ρ fun d => ∃ i, d = .int i /\ Q (some i)
theorem fk : PDO X none bP := by
 intro pins s σ H W ρ Q I r h
 rw [evalPart_none]
 exact wpAny_pure ⟨none, H, I, .none, ar.refl H, h⟩
theorem gr (he : PED X e te) : PDO X (some e) (j5 te) := by
 intro pins s σ H W ρ Q I r h
 rw [evalPart_some]
 refine thn (he pins s σ H W ρ _ I r h) fun u s1 ⟨v, H1, d, I1, rv, e1, hd, i, ed, q⟩ => ?_
 subst ed
 have z := hd.int_
 subst z
 obtain ⟨t, rfl⟩ := rv
 exact ⟨some i, H1, I1, .int i t, e1, q⟩
variable {lo hi st : Option Expr} {tl th ts : DO} {p2 : Pos}
theorem k8 {Q : Value -> Shared -> Prop} {pins : List (Addr × Obj)} {s : Shared} {σ : St} {H : Hp} {W : Own} {ρ : Ro} {R : D -> Option Int -> Option Int -> Option Int -> Prop} (he : PED X e te) (hl : PDO X lo tl) (hh : PDO X hi th) (ht : PDO X st ts) (I : Inv X pins σ H s) (r : Rel X W H σ ρ)
  (h : te ρ fun d => tl ρ fun l => th ρ fun u => ts ρ fun k => R d l u k)
  (hk : ∀ (v : V) (vv vl vu vk : Value) (l u k : Option Int) (d : D) (sl : Addr) (H' : Hp) (s' : Shared), Inv X pins σ H' s' -> ar H H' -> RelV v vv -> Den X.K W.bad H' d v -> s'.heap.IsSliceOf sl vl vu vk -> IsPart vl l -> IsPart vu u -> IsPart vk k -> R d l u k →
   ∃ T id, typeLookup (.type T) "__getitem__" = pure (some (.builtin id)) /\ s'.TypeIs vv T /\ wpAny (model X.prog X.w) X.A (getItem vv (.ref sl)) Q X.xe s')
  (htail : ∀ vv sl, ∃ ops, subscripted (.Slice lo hi st p2) false vv sl = operate ops (getItem vv sl)) : wpAny (model X.prog X.w) X.A (eval (.Subscript e (.Slice lo hi st p2) pos) X.env) Q X.xe s := by
 refine Subscript_ (thn (he pins s σ H W ρ _ I r h) fun vv s1 ⟨v, H1, d, I1, rv, e1, hd, q1⟩ => ?_)
 have r1 := r.same e1
 refine wpAny_Slice (thn (hl pins s1 σ H1 W ρ _ I1 r1 q1) fun vl s2 ⟨l, H2, I2, pl, e2, q2⟩ => thn (hh pins s2 σ H2 W ρ _ I2 (r1.same e2) q2) fun vu s3 ⟨u, H3, I3, pu, e3, q3⟩ => thn (ht pins s3 σ H3 W ρ _ I3 ((r1.same e2).same e3) q3) fun vk s4 ⟨k, H4, I4, pk, e4, q4⟩ => ?_)
 have I5 : Inv X pins σ H4 { s4 with heap := s4.heap.push { cls := .type "slice", data := .fields #[vl, vu, vk] } } := I4.kept (t' := s4.toks) fun b ob q => Heap.get?_push_of_some _ q
 obtain ⟨T, id, hT, ht', hg⟩ := hk v vv vl vu vk l u k d s4.heap.objs.size H4 _ I5 (e1.trans (e2.trans (e3.trans e4))) rv (hd.same (e2.trans (e3.trans e4))) (Heap.IsSliceOf.new ..) pl pu pk q4
 show wpAny (model X.prog X.w) X.A (subscriptTail e (.Slice lo hi st p2) vv (.ref s4.heap.objs.size)) Q X.xe _
 obtain ⟨ops, ho⟩ := htail vv (.ref s4.heap.objs.size)
 exact tail_any (ops := ops) ht' hT hg ho
def vW (te : DE) (tl th : DO) : DA := fun ρ Q => te ρ fun d => tl ρ fun l => th ρ fun u => ∃ t ds, d = .lst t ds /\ Q (cutD ds l u)
def vp (te : DE) (tl th : DO) : DE := fun ρ Q => te ρ fun d => tl ρ fun l => th ρ fun u => ∃ ds, d = .tup ds /\ ¬ (HT.sIx ds.length 0 l = 0 /\ HT.sIx ds.length ds.length u = ds.length) /\ Q (.tup (cutD ds l u))
theorem kG {pins : List (Addr × Obj)} {s : Shared} {σ : St} {H H' : Hp} {W : Own} {v : V} {vv vl vu vk : Value} {l u k : Option Int} {tg : Bool} {ds : List D} {sl : Addr} (f : List V -> List V) (g : List D -> List D) (I : Inv X pins σ H' s) (r : Rel X W H' σ ρ) (sm : ar H H') (rv : RelV v vv) (hd : Den X.K W.bad H' (.lst tg ds) v) (hs : s.heap.IsSliceOf sl vl vu vk) (pl : IsPart vl l) (pu : IsPart vu u) (pk : IsPart vk k) (k0 : k ≠ some 0)
  (hp : ∀ its : List Value, ∃ g' : List Value -> List Value, slicePick its.toArray l u k = (g' its).toArray /\ ∀ vs, Vals vs its -> Vals (f vs) (g' its) /\ (f vs).length <= vs.length) (hg : ∀ vs, ah X.K W.bad H' ds vs -> ah X.K W.bad H' (g ds) (f vs)) {Q : List D -> Prop} (q : Q (g ds)) :
  ∃ T id, typeLookup (.type T) "__getitem__" = pure (some (.builtin id)) /\ s.TypeIs vv T /\ wpAny (model X.prog X.w) X.A (getItem vv (.ref sl)) (fun uu s' => ∃ a vs H'' ds, uu = .ref a /\ Inv X pins σ H'' s' /\ ar H H'' /\ H a = none /\ X.K.lookup a = none /\ H'' a = some (.lst vs) /\ ah X.K (fun t b => W.bad t b ∨ b = a) H'' ds vs /\ Q ds) X.xe s := by
 obtain ⟨a, vs, ev, _, hq, hds⟩ := hd.lst_
 subst ev
 cases rv
 obtain ⟨its, rr, ht, hz⟩ := I.list hq
 have hlen := rr.length
 refine ⟨"list", _, slot_list_getitem.lookup, ht.isList.typeIs, ?_⟩
 refine wpAny_getItem_list_slice ht.isList hs pl pu pk k0 ?_ (by rw [List.size_toArray] <;> omega)
 obtain ⟨g', e, hv⟩ := hp its
 rw [e]
 obtain ⟨rv', hl'⟩ := hv vs rr
 have hf : H' s.heap.objs.size = none := I.hok.fresh (Nat.le_refl _)
 refine ⟨s.heap.objs.size, f vs, _, g ds, rfl, I.laid (t' := s.toks) (o := .lst (f vs)) (fun b ob q => Heap.get?_push_of_some _ q) (Nat.le_refl _) ⟨Nat.le_trans hl' hz, _, 0, rv', Heap.get?_push_size _ rfl⟩, sm.trans (ar.upd hf), sm.free hf, Inv.kfresh I, aD, ah.apart hf (Inv.kfresh I) (hg vs hds), q⟩
theorem k7 (he : PED X e te) (hl : PDO X lo tl) (hh : PDO X hi th) : PEF X (.Subscript e (.Slice lo hi none p2) pos) (vW te tl th) := by
 intro pins s σ H W ρ Q I r h
 refine k8 (st := none) (ts := bP) (R := fun d l u k => k = none /\ ∃ t ds, d = .lst t ds /\ Q (cutD ds l u)) he hl hh fk I r ?_ ?_ (fun _ _ => ⟨_, rfl⟩)
 ·have e1 : (fun d => tl ρ fun l => th ρ fun u => bP ρ fun k => k = none /\ ∃ t ds, d = D.lst t ds /\ Q (cutD ds l u)) = fun d => tl ρ fun l => th ρ fun u => ∃ t ds, d = D.lst t ds /\ Q (cutD ds l u) := by
   funext d
   congr 1
   funext l
   congr 1
   funext u
   exact propext ⟨fun z => z.2, fun z => ⟨rfl, z⟩⟩
  rw [e1]
  exact h
 ·intro v vv vl vu vk l u k d sl H' s' I' sm rv hd hs pl pu pk hR
  obtain ⟨ek, t, ds, ed, q⟩ := hR
  subst ek ed
  exact kG (fun vs => jM vs l u) (fun ds => cutD ds l u) I' (r.same sm) sm rv hd hs pl pu pk (by simp) (fun its => ⟨fun its => (its.drop (HT.sIx its.length 0 l)).take (HT.sIx its.length its.length u - HT.sIx its.length 0 l), nS its l u, fun vs rr => ⟨by unfold jM; rw [rr.length]; exact (rr.drop _).take _, kD vs l u⟩⟩) (fun vs hds => hds.cut l u) q
def vE (te : DE) : DA := fun ρ Q => te ρ fun d => ∃ t ds, d = .lst t ds /\ Q ds.reverse
theorem zd {j : Nat} {pc pu : Pos} (he : PED X e te) : PEF X (.Subscript e (.Slice none none (some (.UnaryOp .USub (.Constant (.int 1) j pc) pu)) p2) pos) (vE te) := by
 intro pins s σ H W ρ Q I r h
 refine k8 (ts := j5 (mI (dC (.int 1)))) (tl := bP) (th := bP) (R := fun d l u k => l = none /\ u = none /\ k = some (-1) /\ ∃ t ds, d = .lst t ds /\ Q ds.reverse) he fk fk (gr (bM aa)) I r ?_ ?_ (fun _ _ => ⟨_, rfl⟩)
 ·have e1 : (fun d => bP ρ fun l => bP ρ fun u => j5 (mI (dC (.int 1))) ρ fun k => l = none /\ u = none /\ k = some (-1) /\ ∃ t ds, d = D.lst t ds /\ Q ds.reverse) = fun d => ∃ t ds, d = D.lst t ds /\ Q ds.reverse := by
   funext d
   apply propext
   simp only [bP, j5, mI, dC, true_and]
   constructor
   ·rintro ⟨i, e1, i', e2, e3, z⟩
    exact z
   ·intro z
    exact ⟨1, rfl, -1, rfl, rfl, z⟩
  rw [e1]
  exact h
 ·intro v vv vl vu vk l u k d sl H' s' I' sm rv hd hs pl pu pk hR
  obtain ⟨e1, e2, e3, t, ds, ed, q⟩ := hR
  subst e1 e2 e3 ed
  exact kG List.reverse List.reverse I' (r.same sm) sm rv hd hs pl pu pk (by decide) (fun its => ⟨List.reverse, PySem.W.krv_pick its.toArray, fun vs rr => ⟨Vals.rev rr, by rw [List.length_reverse]; exact Nat.le_refl _⟩⟩) (fun vs hds => hds.rev) q
end
end PD
namespace PD
open PySem PySem.Spec PyProof.Rows L2
section
variable {prog : Program} {w : World} {A : Around} {E : Value -> Shared -> Prop} {s : Shared} {p q : Addr} {us ws : List Value} {Q : Value -> Shared -> Prop}
theorem AJ (hp : s.heap.IsList p us.toArray) (hq : s.heap.IsList q ws.toArray) (hz : us.length + ws.length <= sizeLine)
  (h : Q (.ref s.heap.objs.size) { s with heap := s.heap.push { cls := .type "list", data := .seq (us ++ ws).toArray } }) : wpAny (model prog w) A (binaryOp .Add (.ref p) (.ref q)) Q E s := by
 obtain ⟨⟨c1, k1, x1, y1⟩, g1, g2, n1, g3⟩ := id hp
 obtain ⟨⟨c2, k2, x2, y2⟩, f1, f2, n2, f3⟩ := id hq
 simp only at g2 g3 f2 f3
 subst g2 g3 f2 f3
 refine concat_meets ⟨_, g1, rfl⟩ ⟨_, f1, rfl⟩ noFill_list_add seq_list_add PySem.F.slot_list_add PySem.F.entry_list_add (PySem.F.args_list_add_2 _ _) (list_addW p q us.toArray ws.toArray n1 n2 k1 k2 y1 y2 (by simpa using hz)) ⟨g1, f1, ?_⟩
 rw [show us.toArray ++ ws.toArray = (us ++ ws).toArray by simp]
 exact h
theorem AK (hp : IsTup s.heap p us.toArray) (hq : IsTup s.heap q ws.toArray) (hz : us.length + ws.length <= sizeLine) (h0 : us = [] -> Q (.ref q) s) (h1 : ws = [] -> Q (.ref p) s)
  (h : Q (.ref s.heap.objs.size) { s with heap := s.heap.push { cls := .type "tuple", data := .seq (us ++ ws).toArray } }) : wpAny (model prog w) A (binaryOp .Add (.ref p) (.ref q)) Q E s := by
 obtain ⟨⟨c1, k1, x1, y1⟩, g1, g2, n1, g3⟩ := id hp
 obtain ⟨⟨c2, k2, x2, y2⟩, f1, f2, n2, f3⟩ := id hq
 simp only at g2 g3 f2 f3
 subst g2 g3 f2 f3
 by_cases hv : us = []
 ·exact concat_meets ⟨_, g1, rfl⟩ ⟨_, f1, rfl⟩ noFill_tuple_add seq_tuple_add PySem.F.slot_tuple_add PySem.F.entry_tuple_add (PySem.F.args_tuple_add_2 _ _) (tuple_addW0 p q us.toArray ws.toArray n1 n2 k1 k2 y1 y2 (by simp [hv])) ⟨g1, f1, h0 hv⟩
 ·by_cases hw : ws = []
  ·exact concat_meets ⟨_, g1, rfl⟩ ⟨_, f1, rfl⟩ noFill_tuple_add seq_tuple_add PySem.F.slot_tuple_add PySem.F.entry_tuple_add (PySem.F.args_tuple_add_2 _ _) (tuple_addW1 p q us.toArray ws.toArray n1 n2 k1 k2 y1 y2 (by simpa using hv) (by simp [hw])) ⟨g1, f1, h1 hw⟩
  ·refine concat_meets ⟨_, g1, rfl⟩ ⟨_, f1, rfl⟩ noFill_tuple_add seq_tuple_add PySem.F.slot_tuple_add PySem.F.entry_tuple_add (PySem.F.args_tuple_add_2 _ _) (tuple_addW2 p q us.toArray ws.toArray n1 n2 k1 k2 y1 y2 (by simpa using hv) (by simpa using hw) (by simpa using hz)) ⟨g1, f1, ?_⟩
   rw [show us.toArray ++ ws.toArray = (us ++ ws).toArray by simp]
   exact h
end
section
variable {X : Cx} {pos : Pos}
def n8 : RD2 := fun x y Q => match x, y with
 | .int i, .int j => Q (.int (i + j))
 | .tup xs, .tup ys => xs.length + ys.length <= sizeLine /\ Q (.tup (xs ++ ys))
 | .lst _ xs, .lst _ ys => xs.length + ys.length <= sizeLine /\ Q (.lst true (xs ++ ys))
 | _, _ => False
theorem oE (i j : Int) (Q : D -> Prop) : n8 (.int i) (.int j) Q = Q (.int (i + j)) := rfl
theorem uk (t u : Bool) (xs ys : List D) (Q : D -> Prop) : n8 (.lst t xs) (.lst u ys) Q = (xs.length + ys.length <= sizeLine /\ Q (.lst true (xs ++ ys))) := rfl
theorem yb {W : Own} {H : Hp} {t : Bool} {a : Addr} (tr : ∀ t a, W.bad t a -> ∃ o, H a = some o) (h : H a = none) : ¬ W.bad t a := fun z => by
 obtain ⟨o, q⟩ := tr _ _ z
 rw [h] at q
 cases q
theorem aK : OpD X (binaryOp .Add) n8 := by
 intro pins s σ H W x y v u vv uu Q I tr rv ru hx hy q
 cases x <;> cases y <;> first | exact q.elim | skip
 ·exact zB pins s σ H W _ _ v u vv uu Q I tr rv ru hx hy ⟨_, _, rfl, rfl, q⟩
 ·rename_i xs ys
  obtain ⟨p, vs, e1, hq1, hd1⟩ := hx.tup_
  obtain ⟨p', vs', e2, hq2, hd2⟩ := hy.tup_
  subst e1 e2
  cases rv
  cases ru
  obtain ⟨its, r1, t1, _⟩ := I.tuple hq1
  obtain ⟨its', r2, t2, _⟩ := I.tuple hq2
  obtain ⟨hz, q⟩ := q
  have l1 := hd1.len
  have l2 := hd2.len
  have m1 := r1.length
  have m2 := r2.length
  have hz' : its.length + its'.length <= sizeLine := by omega
  have hf : H s.heap.objs.size = none := I.hok.fresh (Nat.le_refl _)
  refine AK t1 t2 hz' (fun e => ?_) (fun e => ?_) ?_
  ·subst e
   have : vs = [] := List.eq_nil_of_length_eq_zero (by simpa using m1)
   subst this
   have : xs = [] := List.eq_nil_of_length_eq_zero (by simpa using l1.symm)
   subst this
   exact ⟨.ref p', H, _, I, rfl, ar.refl H, hy, q⟩
  ·subst e
   have : vs' = [] := List.eq_nil_of_length_eq_zero (by simpa using m2)
   subst this
   have : ys = [] := List.eq_nil_of_length_eq_zero (by simpa using l2.symm)
   subst this
   rw [List.append_nil] at q
   exact ⟨.ref p, H, _, I, rfl, ar.refl H, hx, q⟩
  ·exact ⟨.ref s.heap.objs.size, L2.upd H s.heap.objs.size (.tup (vs ++ vs')), _, I.laid (t' := s.toks) (fun b u e => Heap.get?_push_of_some _ e) (Nat.le_refl _) ⟨by rw [List.length_append]; omega, its ++ its', r1.append r2, ⟨_, Heap.get?_push_size _ rfl, rfl, _, rfl⟩⟩, rfl, ar.upd hf, Den.tup (SqT.of aD) ((hd1.append hd2).same (ar.upd hf)), q⟩
 ·obtain ⟨p, vs, e1, _, hq1, hd1⟩ := hx.lst_
  obtain ⟨p', vs', e2, _, hq2, hd2⟩ := hy.lst_
  subst e1 e2
  cases rv
  cases ru
  obtain ⟨its, r1, t1, _⟩ := I.list hq1
  obtain ⟨its', r2, t2, _⟩ := I.list hq2
  obtain ⟨hz, q⟩ := q
  have l1 := hd1.len
  have l2 := hd2.len
  have m1 := r1.length
  have m2 := r2.length
  have hf : H s.heap.objs.size = none := I.hok.fresh (Nat.le_refl _)
  refine AJ t1.isList t2.isList (by omega) ?_
  exact ⟨.ref s.heap.objs.size, L2.upd H s.heap.objs.size (.lst (vs ++ vs')), _, I.laid (t' := s.toks) (fun b u e => Heap.get?_push_of_some _ e) (Nat.le_refl _) ⟨by rw [List.length_append]; omega, its ++ its', 0, r1.append r2, Heap.get?_push_size _ rfl⟩, rfl, ar.upd hf, Den.lst (yb tr hf) (.new aD (Inv.kfresh I)) ((hd1.append hd2).same (ar.upd hf)), q⟩
def okI (x : D) : Prop := okD x /\ (pyD x).depth < 64
end
def PKD (X : Cx) (kws : List Keyword) (t : DA) : Prop :=
 ∀ (pos : Pos) (pins : List (Addr × Obj)) (s : Shared) (σ : St) (H : Hp) (W : Own) (ρ : Ro) (Q : List D -> Prop), Inv X pins σ H s -> Rel X W H σ ρ -> t ρ Q →
  wpAny (model X.prog X.w) X.A (evalAll ((backToKw pos (keywordEach kws X.env)).map (·.2))) (DAP X pins σ W H Q) X.xe s
section
variable {X : Cx} {k : Nat} {ps : List Str} {kn : Str} {sp : DSp} {x : Str} {p pos kpos : Pos} {e : Expr} {es : List Expr} {t tk : DA} {te : DE} {nm : Option Str} {kws : List Keyword}
def tS (sp : DSp) (t : DA) : DA := fun ρ Q => t ρ fun ds => sp (aW ds) (fun d => ∃ ys, d = .lst true ys /\ cW ys = true /\ Q ys) fun _ => False
end
end PD
namespace PD
open PySem PySem.Spec PyProof.Rows L2
section
variable {κ : Type} [DecidableEq κ] {K : PySem.W.Frag} {P : Bool -> Addr -> Prop} {H : Hp}
end
def PPD (X : Cx) (pos : Pos) (keys : List (Option Expr)) (values : List Expr) (t : Ro -> (List (D × D) -> Prop) -> Prop) : Prop :=
 ∀ (pins : List (Addr × Obj)) (s : Shared) (σ : St) (H : Hp) (W : Own) (ρ : Ro) (Q : List (D × D) -> Prop), Inv X pins σ H s -> Rel X W H σ ρ -> t ρ Q →
  wpAny (model X.prog X.w) X.A (evalPairs (pairTrees keys values X.env pos)) (fun vs s' => ∃ ps H' ds, Inv X pins σ H' s' /\ VV ps vs /\ ar H H' /\ ah X.K W.bad H' (ds.map (·.1)) (ps.map (·.1)) /\ ah X.K W.bad H' (ds.map (·.2)) (ps.map (·.2)) /\ Q ds) X.xe s
section
variable {X : Cx} {pos : Pos}
end
end PD
namespace PD
open PySem PySem.Spec PyProof.Rows L2
theorem tP (kvs : List (Key × D)) (r : Ro) (R : List (Key × D) -> Prop) : (∃ ys, (some (Sl.ob (.dk kvs)) :: r)[0]? = some (some (Sl.ob (.dk ys))) /\ R ys) = R kvs := by
 apply propext
 constructor
 ·rintro ⟨_, e, q⟩
  have e' : some (some (Sl.ob (.dk kvs))) = some (some (Sl.ob (.dk _))) := e
  cases e'
  exact q
 ·intro q; exact ⟨kvs, rfl, q⟩
theorem u9 (n : Nat) (x : Option Sl) (r : Ro) (R : List (Key × D) -> Prop) : (∃ ys, (x :: r)[n + 1]? = some (some (Sl.ob (.dk ys))) /\ R ys) = (∃ ys, r[n]? = some (some (Sl.ob (.dk ys))) /\ R ys) := rfl
theorem rg (t : Bool) (xs : List D) (R : List D -> Prop) : (∃ k ds, fJ (.lst t xs) = some (k, ds) /\ R ds) = R xs := by
 apply propext
 constructor
 ·rintro ⟨_, _, e, q⟩; cases e; exact q
 ·intro q; exact ⟨_, _, rfl, q⟩
theorem xG {a b : D} {k1 k2 : Bool} {xs ys : List D} (h1 : fJ a = some (k1, xs)) (h2 : fJ b = some (k2, ys)) (R : List D -> Prop) : (∃ d1 d2 k1 k2 us vs, [a, b] = [d1, d2] /\ fJ d1 = some (k1, us) /\ fJ d2 = some (k2, vs) /\ R (List.zipWith (fun x y => D.tup [x, y]) us vs)) = R (List.zipWith (fun x y => D.tup [x, y]) xs ys) := by
 apply propext
 constructor
 ·rintro ⟨_, _, _, _, _, _, e, e1, e2, q⟩
  cases e
  rw [h1] at e1
  rw [h2] at e2
  cases e1
  cases e2
  exact q
 ·intro q; exact ⟨_, _, _, _, _, _, rfl, h1, h2, q⟩
theorem uX (t u : Bool) (xs ys : List D) (R : List D -> Prop) : (∃ d1 d2 k1 k2 us vs, [D.lst t xs, D.lst u ys] = [d1, d2] /\ fJ d1 = some (k1, us) /\ fJ d2 = some (k2, vs) /\ R (List.zipWith (fun x y => D.tup [x, y]) us vs)) = R (List.zipWith (fun x y => D.tup [x, y]) xs ys) := xG rfl rfl R
theorem rN (b : Bool) : jW (.bl b) = true := by rw [jW] <;> (intros; contradiction)
theorem oC (b : Int) : jW (.int b) = true := by rw [jW] <;> (intros; contradiction)
theorem qj : jW .non = true := by rw [jW] <;> (intros; contradiction)
theorem pO {ds : List D} {k : Int} {Q : D -> Prop} (h0 : 0 <= k) (h1 : k < ds.length) (h : ∀ d ∈ ds, Q d) : ∃ d, atI ds k = some d /\ Q d := by
 have e : k = ((k.toNat : Nat) : Int) := by omega
 have hl : k.toNat < ds.length := by omega
 refine ⟨ds[k.toNat], ?_, h _ (List.getElem_mem hl)⟩
 have q : atI ds ((k.toNat : Nat) : Int) = some ds[k.toNat] := bA (by simp)
 rw [<- e] at q
 exact q
theorem comp_map {α : Type} {wi : DA} {js : List Nat} {tc : DT} {te : DE} {ρ : Ro} {Q : D -> Prop} (xs : List α) (f : α -> D) (c : α -> Bool) (g : α -> D) (hw : ∀ R : List D -> Prop, R (xs.map f) -> wi ρ R) (hz : xs.length <= sizeLine)
  (hc : ∀ x ∈ xs, ∀ K : Bool -> Prop, K (c x) -> tc (some (.val (f x)) :: js.map (bc ρ)) K) (he : ∀ x ∈ xs, c x = true -> ∀ K : D -> Prop, K (g x) -> te (some (.val (f x)) :: js.map (bc ρ)) K) (q : Q (.lst true ((xs.filter c).map g))) : ir wi js tc te ρ Q := by
 refine hw _ ⟨by rw [List.length_map]; exact hz, fun j out => out = ((xs.take j).filter c).map g, by simp, fun j d out hd ho => ?_, fun out ho => ?_⟩
 ·rw [List.getElem?_map] at hd
  cases ex : xs[j]? with
  | none => rw [ex] at hd; cases hd
  | some x =>
   rw [ex] at hd
   cases hd
   have hm : x ∈ xs := List.mem_of_getElem? ex
   have ht : xs.take (j + 1) = xs.take j ++ [x] := by rw [List.take_succ, ex]; rfl
   refine hc x hm _ ?_
   by_cases z : c x = true
   ·rw [if_pos z]
    refine he x hm z _ ?_
    show _ = List.map g (List.filter c (List.take (j + 1) xs))
    rw [ht, ho, List.filter_append, List.map_append]
    simp [z]
   ·rw [if_neg z]
    show _ = List.map g (List.filter c (List.take (j + 1) xs))
    rw [ht, ho, List.filter_append]
    simp [z]
 ·rw [List.length_map, List.take_of_length_le (Nat.le_refl _)] at ho
  rw [ho]; exact q
theorem rJ {α : Type} {wi : DA} {g : DG} {tb : DS} {E : gc} {ρ : Ro} (xs : List α) (f : α -> D) (Pv : List α -> Ro -> Prop) (hw : ∀ R : List D -> Prop, R (xs.map f) -> wi ρ R) (p0 : Pv [] ρ)
  (turn : ∀ (done : List α) (x : α) (ρ' : Ro), x ∈ xs -> done.length < xs.length -> Pv done ρ' -> g (f x) ρ' fun ρ2 => tb { E with nx := Pv (done ++ [x]), ct := Pv (done ++ [x]), bk := E.nx } ρ2) (fin : ∀ ρ', Pv xs ρ' -> E.nx ρ') : sW wi g tb E ρ := by
 refine hw _ ⟨fun j => Pv (xs.take j), by simpa using p0, fun j d ρ' hd hp => ?_, fun ρ' hp => fin ρ' (by rw [List.length_map, List.take_of_length_le (Nat.le_refl _)] at hp; exact hp)⟩
 rw [List.getElem?_map] at hd
 cases ex : xs[j]? with
 | none => rw [ex] at hd; cases hd
 | some x =>
  rw [ex] at hd
  cases hd
  have hj := (List.getElem?_eq_some_iff.mp ex).1
  have ht : xs.take (j + 1) = xs.take j ++ [x] := by rw [List.take_succ, ex]; rfl
  show g (f x) ρ' fun ρ2 => tb { E with nx := Pv (xs.take (j + 1)), ct := Pv (xs.take (j + 1)), bk := E.nx } ρ2
  rw [ht]
  exact turn (xs.take j) x ρ' (List.mem_of_getElem? ex) (by rw [List.length_take]; omega) hp
end PD
namespace PD
open PySem PySem.Spec PyProof.Rows L2
structure OkN (n : Nat) (d : D) : Prop where
 pl : plD d = true
 lay : (pyD d).canLay0 = true
 dp : (pyD d).depth <= n
structure gA (n : Nat) (ds : List D) : Prop where
 pl : jd ds = true
 lay : PyData.canLayAll0 (cG ds) = true
 dp : PyData.depthAll (cG ds) <= n
theorem OkN.ok {n : Nat} {d : D} (h : OkN n d) (hn : n <= 64 := by decide) : okD d := ⟨h.pl, by
 unfold SeqAt.shaped
 rw [h.lay, decide_eq_true (Nat.le_trans h.dp hn)]
 rfl⟩
theorem OkN.int (n : Nat) (i : Int) : OkN n (.int i) := ⟨by rw [plD] <;> (intros; contradiction), by rw [pyD, PyData.canLay0], by rw [pyD, PyData.depth]; exact Nat.zero_le _⟩
theorem gA.nil (n : Nat) : gA n [] := ⟨by rw [jd], by rw [cG, PyData.canLayAll0], by rw [cG, PyData.depthAll]; exact Nat.zero_le _⟩
theorem gA.cons {n : Nat} {d : D} {ds : List D} (h : OkN n d) (h' : gA n ds) : gA n (d :: ds) := ⟨by rw [jd, h.pl, h'.pl]; rfl, by rw [cG, PyData.canLayAll0, h.lay, h'.lay]; rfl, by
 rw [cG, PyData.depthAll]
 exact Nat.max_le.mpr ⟨h.dp, h'.dp⟩⟩
theorem gA.of {n : Nat} : ∀ {ds : List D}, (∀ d ∈ ds, OkN n d) -> gA n ds
 | [], _ => .nil n
 | d :: r, h => .cons (h d List.mem_cons_self) (gA.of fun x hx => h x (List.mem_cons_of_mem _ hx))
theorem OkN.tup {n : Nat} {ds : List D} (h : gA n ds) : OkN (n + 1) (.tup ds) := ⟨by rw [plD]; exact h.pl, by rw [pyD, PyData.canLay0]; exact h.lay, by rw [pyD, PyData.depth]; exact Nat.succ_le_succ h.dp⟩
theorem OkN.lst {n : Nat} {t : Bool} {ds : List D} (h : gA n ds) : OkN (n + 1) (.lst t ds) := ⟨by rw [plD]; exact h.pl, by rw [pyD, PyData.canLay0]; exact h.lay, by rw [pyD, PyData.depth]; exact Nat.succ_le_succ h.dp⟩
theorem OkN.map {α : Type} {n : Nat} {t : Bool} {f : α -> D} {xs : List α} (h : ∀ x, OkN n (f x)) : OkN (n + 1) (.lst t (xs.map f)) := OkN.lst (gA.of fun d hd => by
 obtain ⟨x, _, rfl⟩ := List.mem_map.mp hd
 exact h x)
def iw (xs ys : List D) : Bool := PyData.eqvAll (cG xs) (cG ys)
theorem qQ (t u : Bool) (xs ys : List D) : eqD (.lst t xs) (.lst u ys) = iw xs ys := by unfold eqD iw; rw [pyD, pyD, PyData.eqv]
theorem rK (xs ys : List D) : eqD (.tup xs) (.tup ys) = iw xs ys := by unfold eqD iw; rw [pyD, pyD, PyData.eqv]
theorem pD : iw [] [] = true := by unfold iw; rw [cG, PyData.eqvAll]
theorem ij (x y : D) (xs ys : List D) : iw (x :: xs) (y :: ys) = (eqD x y && iw xs ys) := by unfold iw eqD; rw [cG, cG, PyData.eqvAll]
theorem qF (x y : Str) : eqD (.str x) (.str y) = (x == y) := by unfold eqD; rw [pyD, pyD, PyData.eqv]
theorem xZ : eqD .non .non = true := by unfold eqD; rw [pyD, PyData.eqv]
mutual
theorem cM : ∀ d : D, eqD d d = true
 | .non => xZ
 | .bl b => by rw [pW]; simp
 | .int i => by rw [gv]; simp
 | .str x => by rw [qF]; simp
 | .exc _ => by unfold eqD; rw [pyD, PyData.eqv]
 | .tup ds => by rw [rK]; exact iq ds
 | .lst t ds => by rw [qQ]; exact iq ds
theorem iq : ∀ ds : List D, iw ds ds = true
 | [] => pD
 | d :: r => by rw [ij, cM d, iq r]; rfl
end
theorem d8 (t u : Bool) (xs : List D) : eqD (.lst t xs) (.lst u xs) = true := by rw [qQ]; exact iq xs
end PD
namespace PD
open PySem PySem.Spec PyProof.Rows L2
section
variable {X : Cx} {a b c : Expr} {ta tb tc : DE} {pos : Pos}
def oo (ti : DE) : DA := fun ρ R => ti ρ fun d => ∃ ds, d = .tup ds /\ R ds
theorem qf {tg iter : Expr} {ti : DE} (h : PED X iter ti) : PID X tg iter (oo ti) := by
 refine PID.of (zT h.pe) fun σ H W ρ R r hw => ⟨W, ρ, _, r, hw, fun v H1 d e1 hd q => ?_⟩
 obtain ⟨ds, rfl, q⟩ := q
 obtain ⟨p, vs, rfl, hq, hds⟩ := hd.tup_
 refine ⟨p, rfl, ⟨vs, hq⟩, e1, ds, ?_, q⟩
 intro P' H' hT hL hX i
 have hq' := hT p vs hq
 have hl := hds.len
 refine ⟨fun hi => ?_, fun x H3 y hi => ?_, fun hi => ⟨vs, hq', by omega⟩⟩
 ·obtain ⟨v, hv, _⟩ := hds.get (i := i) (d := ds[i]) (by simp [hi])
  exact ⟨vs, v, hq', hv⟩
 ·obtain ⟨e3, y⟩ := y
  subst e3
  obtain ⟨d, h1, h2⟩ := hds.bc (y vs hq')
  exact ⟨ar.refl _, d, h1, Den.map hT hL hX d _ h2⟩
theorem uj (xs : List D) (R : List D -> Prop) : (∃ ds, D.tup xs = .tup ds /\ R ds) = R xs := by
 apply propext
 constructor
 ·rintro ⟨_, e, q⟩; cases e; exact q
 ·intro q; exact ⟨xs, rfl, q⟩
variable {e : Expr} {te : DE} {lo hi : Option Expr} {tl th : DO} {p2 : Pos}
theorem y8 (he : PED X e te) (hl : PDO X lo tl) (hh : PDO X hi th) : PED X (.Subscript e (.Slice lo hi none p2) pos) (vp te tl th) := by
 intro pins s σ H W ρ Q I r h
 refine k8 (st := none) (ts := bP) (R := fun d l u k => k = none /\ ∃ ds, d = .tup ds /\ ¬ (HT.sIx ds.length 0 l = 0 /\ HT.sIx ds.length ds.length u = ds.length) /\ Q (.tup (PD.cutD ds l u))) he hl hh fk I r ?_ ?_ (fun _ _ => ⟨_, rfl⟩)
 ·have e1 : (fun d => tl ρ fun l => th ρ fun u => bP ρ fun k => k = none /\ ∃ ds, d = D.tup ds /\ ¬ (HT.sIx ds.length 0 l = 0 /\ HT.sIx ds.length ds.length u = ds.length) /\ Q (.tup (PD.cutD ds l u))) = fun d => tl ρ fun l => th ρ fun u => ∃ ds, d = D.tup ds /\ ¬ (HT.sIx ds.length 0 l = 0 /\ HT.sIx ds.length ds.length u = ds.length) /\ Q (.tup (PD.cutD ds l u)) := by
   funext d
   congr 1
   funext l
   congr 1
   funext u
   exact propext ⟨fun z => z.2, fun z => ⟨rfl, z⟩⟩
  rw [e1]
  exact h
 ·intro v vv vl vu vk l u k d sl H' s' I' sm rv hd hs pl pu pk hR
  obtain ⟨ek, ds, ed, hw, q⟩ := hR
  subst ek ed
  cases pk
  obtain ⟨p, vs, ev, hq, hds⟩ := hd.tup_
  subst ev
  obtain ⟨T, id, h1, h2, h3⟩ := Aa pins s' σ H' (.ref p) vv vl vu l u sl (fun v' H'' => ar H' H'' /\ ∃ d', Den X.K W.bad H'' d' v' /\ Q d') I' rv hs pl pu ⟨p, vs, rfl, hq, by rw [hds.len]; exact hw, fun q' hp => ⟨ar.upd hp, _, Den.tup (SqT.of aD) ((hds.cut l u).same (ar.upd hp)), q⟩⟩
  exact ⟨T, id, h1, h2, thn h3 fun _ s2 ⟨w', H2, I2, r2, e2, d', hd', q'⟩ => ⟨w', H2, d', I2, r2, sm.trans e2, hd', q'⟩⟩
end
section
variable {X : Cx} {pos : Pos}
end
end PD
namespace PD
open PySem PySem.Spec PyProof.Rows L2
section
variable {K : PySem.W.Frag} {P : Bool -> Addr -> Prop} {H : Hp} {B : Nat -> Option Addr}
end
section
variable {X : Cx} {pos : Pos}
def PFL (X : Cx) (i : Nat) (es : List Expr) (t : Ro -> (List (List D) -> Prop) -> Prop) : Prop :=
 ∀ (pos : Pos) (pins : List (Addr × Obj)) (s : Shared) (σ : St) (H : Hp) (W : Own) (ρ : Ro) (k : Nat) (Q : List (List D) -> Prop), Inv X pins σ H s -> Rel X W H σ ρ -> i < σ.length -> ρ[i]? = some none -> t ρ Q →
  wpAny (model X.prog X.w) X.A (spliced (backTo pos (starEach es X.env))) (fun us s' => ∃ vs H' W' xss, Inv X pins σ H' s' /\ Vals vs us /\ ar H H' /\ Rel X W' H' σ ρ /\ Fwd W H W' H' /\ dD X.K W'.bad H' (W'.sub σ.length i) k (xss.map LI.own) vs /\ (∀ l, l < k -> W'.sub σ.length i l = W.sub σ.length i l) /\ Q xss) X.xe s
variable {e : Expr} {te : DE} {tt : DT} {ta : DA}
end
end PD
namespace PD
open PySem PySem.Spec PyProof.Rows L2
section
variable {X : Cx} {pins : List (Addr × Obj)} {σ : St} {H : Hp} {s : Shared} {sc : Scope} {ns : List Str} {js : List Nat} {x : Str}
end
section
variable {X : Cx} {pins : List (Addr × Obj)} {σ : St} {H : Hp}
structure A3 (X : Cx) (pins : List (Addr × Obj)) (H : Hp) (s : Shared) (l f S I : Addr) (fo : Obj) (j : Nat) (vb : Value) (k : Int) : Prop where
 fo : s.heap.get? f = some fo
 ff : dF X pins H f
 so : ∃ tb n, s.heap.get? S = some (seqObj "list" #[vb, .int k tb] n)
 sf : dF X pins H S
 io : s.heap.IsListIter I l j
 jf : dF X pins H I
 fS : f ≠ S
 fI : f ≠ I
 SI : S ≠ I
 lI : l ≠ I
end
section
variable {X : Cx} {sc : Scope} {ns : List Str} {js : List Nat} {x : Str} {pos : Pos}
end
end PD
namespace PD
open PySem PySem.Spec PyProof.Rows L2
section
variable {X : Cx} {pos : Pos}
def mB (i : Nat) (te : DE) : DS := fun E ρ => ∃ ds, ρ[i]? = some (some (.own ds)) /\ te ρ fun d => ∃ xs, d = .lst true xs /\ ds.length + xs.length <= sizeLine /\ E.nx (ρ.set i (some (.own (ds ++ xs))))
theorem tN {x : Str} {e : Expr} {te : DE} {px apos cpos : Pos} (i : Nat) (he : PED X e te) (hi : X.N[i]? = some x := by rfl) (hv : Vis X.env.scope x := by first | exact Or.inl rfl | exact Or.inr (Or.inl rfl) | exact Or.inr (Or.inr rfl))
  (hd : (x == ("__debug__" : Str)) = false := by decide) (hcd : (x == ("__classdict__" : Str)) = false := by decide)
  (hbase : attributeBase (.Name x px) "extend" X.env (eval (.Name x px) X.env) = eval (.Name x px) X.env := by rfl)
  (hfew : ((backTo cpos (starEach [e] X.env)).all (fun x => !x.1) && (backToKw cpos (keywordEach [] X.env)).all (fun x => x.1.isSome) && decide ([e].length + ([] : List Keyword).length + (if ([] : List Keyword).isEmpty then 0 else 1) < 30)) = true := by rfl)
  (hline : (apos.endLine == cpos.line) = true := by rfl) (hst : starEach [e] X.env = (false, eval e X.env) :: starEach [] X.env := by rfl) (hplain : (backTo cpos (starEach [] X.env)).any (·.1) = false := by rfl)
  (hs : swapsWith (.Call (.Attribute (.Name x px) "extend" apos) [e] [] cpos) none pos.line X.env = pure false := by rfl) :
  PSD X (.Expr (.Call (.Attribute (.Name x px) "extend" apos) [e] [] cpos) pos) (mB i te) := by
 have P0 := j8 (pos := pos) (rR PySem.F.plainAttrs_list PySem.F.slot_list_extend PySem.F.type_list_extend uI (gH hi hv hd hcd) (cD he.pe gy hst) hbase hfew hline hst hplain) hs
 refine PSD.of P0 fun σ H W ρ E r hl h => ?_
 obtain ⟨ds, eo, h⟩ := h
 obtain ⟨a, vs, oa, sa, ha, hds⟩ := r.ownL i ds eo
 refine ⟨.ref a, sa, .inl ⟨rfl, _, SqL.of ha⟩, W, ρ, _, r, h, fun v H' d e1 hd' q => ?_⟩
 obtain ⟨xs, rfl, z, q⟩ := q
 obtain ⟨b, us, rfl, _, hb, hxs⟩ : ∃ b us, v = .ref b /\ ¬ W.bad true b /\ SqG X.K H' true b us /\ ah X.K W.bad H' xs us := by simpa only [Den] using hd'
 have ha' := e1 _ _ ha
 have r' := r.same e1
 have hds' := hds.same e1
 refine ⟨a, b, vs, us, rfl, rfl, ha', (hb.2 rfl).1, by rw [hds'.len, hxs.len]; exact z, ?_⟩
 obtain ⟨r2, f2⟩ := r'.mut (vs' := vs ++ us) eo oa sa ha' (hds'.append hxs)
 exact ⟨W, _, (Fwd.same e1).trans f2, r2, q⟩
end
section
variable {prog : Program} {w : World} {A : Around} {E : Value -> Shared -> Prop} {s : Shared}
end
section
variable {X : Cx} {pos : Pos}
def PEK (X : Cx) (e : Expr) (t : DE) : Prop :=
 ∀ (pins : List (Addr × Obj)) (s : Shared) (σ : St) (H : Hp) (W : Own) (ρ : Ro) (Q : D -> Prop), Inv X pins σ H s -> Rel X W H σ ρ -> t ρ Q →
  wpAny (model X.prog X.w) X.A (eval e X.env) (fun u s' => ∃ b vs H' ds, u = .ref b /\ Inv X pins σ H' s' /\ ar H H' /\ H' b = some (.tup vs) /\ ah X.K W.bad H' ds vs /\ Q (.tup ds)) X.xe s
end
theorem xh (ys : List D) (R : List D -> Prop) : (∃ xs, D.lst true ys = .lst true xs /\ R xs) = R ys := by
 apply propext
 constructor
 ·rintro ⟨xs, e, q⟩
  cases e
  exact q
 ·intro q; exact ⟨ys, rfl, q⟩
theorem bN {α : Type} {wi : DA} {g : DG} {tb : DS} {E : gc} {ρ : Ro} (xs : List α) (f : α -> D) (Pv : Nat -> Ro -> Prop) (hw : ∀ R : List D -> Prop, R (xs.map f) -> wi ρ R) (p0 : Pv 0 ρ)
  (turn : ∀ (j : Nat) (x : α) (ρ' : Ro), xs[j]? = some x -> Pv j ρ' -> g (f x) ρ' fun ρ2 => tb { E with nx := Pv (j + 1), ct := Pv (j + 1), bk := E.nx } ρ2) (fin : ∀ ρ', Pv xs.length ρ' -> E.nx ρ') : sW wi g tb E ρ := by
 refine hw _ ⟨Pv, p0, fun j d ρ' hd hp => ?_, fun ρ' hp => fin ρ' (by rw [List.length_map] at hp; exact hp)⟩
 rw [List.getElem?_map] at hd
 cases ex : xs[j]? with
 | none => rw [ex] at hd; cases hd
 | some x =>
  rw [ex] at hd
  cases hd
  exact turn j x ρ' ex hp
end PD
namespace PD
open PySem PySem.Spec PyProof.Rows L2
section
variable {prog : Program} {w : World} {A : Around} {E : Value -> Shared -> Prop} {s : Shared} {d v it : Addr} {us : List Value} {ep i : Nat}
end
end PD
namespace PD
open PySem PySem.Spec PyProof.Rows L2
section
variable {X : Cx} {pos : Pos}
end
section
variable {X : Cx} {pos : Pos}
end
end PD
namespace PD
open PySem PySem.Spec PyProof.Rows L2
inductive KPs (K : PySem.W.Frag) (P : Bool -> Addr -> Prop) (H : Hp) : List (List D × D) -> List (Value × Value) -> Prop
 | nil : KPs K P H [] []
 | cons {b : Addr} {vs : List V} {ks : List D} {d : D} {x : V} {u : Value} {ds : List (List D × D)} {ws : List (Value × Value)} (hb : H b = some (.tup vs)) (hk : ah K P H ks vs) (hd : Den K P H d x) (r : RelV x u) (t : KPs K P H ds ws) : KPs K P H ((ks, d) :: ds) ((.ref b, u) :: ws)
def PPK (X : Cx) (pos : Pos) (keys : List (Option Expr)) (values : List Expr) (t : Ro -> (List (List D × D) -> Prop) -> Prop) : Prop :=
 ∀ (pins : List (Addr × Obj)) (s : Shared) (σ : St) (H : Hp) (W : Own) (ρ : Ro) (Q : List (List D × D) -> Prop), Inv X pins σ H s -> Rel X W H σ ρ -> t ρ Q →
  wpAny (model X.prog X.w) X.A (evalPairs (pairTrees keys values X.env pos)) (fun ws s' => ∃ H' ds, Inv X pins σ H' s' /\ ar H H' /\ KPs X.K W.bad H' ds ws /\ Q ds) X.xe s
section
variable {X : Cx} {pos : Pos}
inductive KPi (H : Hp) : List (List Key × Int) -> List (Value × Value) -> Prop
 | nil : KPi H [] []
 | cons {b : Addr} {k : List Key} {n : Int} {u : Value} {ds : List (List Key × Int)} {ws : List (Value × Value)} (hb : H b = some (.tup (k.map kV))) (r : RelV (.int n) u) (t : KPi H ds ws) : KPi H ((k, n) :: ds) ((.ref b, u) :: ws)
end
section
variable {X : Cx} {pos : Pos}
theorem qL (hc : X.calm = true) : dq X (.builtin "max") (fun ds Q => (∃ i j : Int, ds = [.int i, .int j] /\ Q (.int (max i j))) ∨ ∃ (t : Bool) (ns : List Int), ds = [.lst t (ns.map D.int)] /\ 0 < ns.length /\ ∀ m, m ∈ ns -> (∀ n ∈ ns, n <= m) -> Q (.int m)) := by
 intro pins s σ H W ds vs us Q I tr r hd q
 rcases q with ⟨i, j, e, q⟩ | ⟨t, ns, e, hne, q⟩
 ·exact zr hc pins s σ H W ds vs us Q I tr r hd ⟨i, j, e, q⟩
 subst e
 obtain ⟨v, rfl, h1⟩ := ko hd
 obtain ⟨a, ws, ev, _, hq, hw⟩ := h1.lst_
 subst ev
 cases r with
 | cons r1 rr =>
  cases rr
  cases r1
  obtain ⟨its, rv, pl, _⟩ := I.list hq
  rw [bE hw] at rv
  have ia := intsAre_of rv
  obtain ⟨xs, ex⟩ := ia.allInts.items
  have hl : s.heap.IsList a (intItems xs) := by rw [<- ex]; exact pl.isList
  have hns : ns = xs.toList.map (·.1) := by rw [<- ia.numsOf, <- nums_intItems, <- ex]
  have hsz : 0 < xs.size := by rw [hns, List.length_map, Array.length_toList] at hne; exact hne
  refine max_intList (I.ok.hd hc) hl hsz fun y h' tk hy kp => ?_
  obtain ⟨tt, rfl⟩ := intItems_at hy
  obtain ⟨g1, g2⟩ := argBest_gt (numAt xs) (xs.size - 1)
  have at_ : ∀ j, j < xs.size -> xs.toList.map (·.1) ≠ [] -> numAt xs j ∈ ns := fun j hj _ => by
   rw [hns, numAt_eq]
   have : (xs.toList.map (·.1))[j]? = some ((xs.toList.map (·.1)).getD j 0) := by simp [hj]
   exact List.mem_of_getElem? this
  refine ⟨.int _, H, _, I.kept kp, ⟨_, rfl⟩, ar.refl H, Den.int _, q _ (at_ _ (by omega) (by rw [<- hns]; exact List.ne_nil_of_length_pos hne)) fun n hn => ?_⟩
  rw [hns] at hn
  obtain ⟨j, hj, ej⟩ := List.getElem_of_mem hn
  have : numAt xs j = n := by rw [numAt_eq, <- ej]; simp only [List.getD_eq_getElem?_getD, List.getElem?_eq_getElem hj, Option.getD_some]
  rw [<- this]
  rw [List.length_map, Array.length_toList] at hj
  exact g2 j (by omega)
end
end PD
namespace PD
open PySem PySem.Spec PyProof.Rows L2
section
variable {X : Cx} {pos : Pos}
end
end PD
namespace PZ
open PySem PySem.Spec PyProof.Rows
abbrev xk (h : Heap) (T : Addr) (a b c : Value) : Prop := h.get? T = some { cls := .type "tuple", data := .seq #[a, b, c] }
structure Ap3 (z TI TO i1 i2 i3 : Addr) : Prop where
 a1 : TI ≠ z
 a2 : TO ≠ z
 a3 : i1 ≠ z
 a4 : i2 ≠ z
 a5 : i3 ≠ z
 b1 : TI ≠ TO
 b2 : TI ≠ i1
 b3 : TI ≠ i2
 b4 : TI ≠ i3
 c1 : TO ≠ i1
 c2 : TO ≠ i2
 c3 : TO ≠ i3
 d1 : i1 ≠ i2
 d2 : i1 ≠ i3
 d3 : i2 ≠ i3
structure A6 (z TO i1 i2 i3 l : Addr) : Prop where
 c1 : l ≠ z
 c2 : l ≠ TO
 c3 : l ≠ i1
 c4 : l ≠ i2
 c5 : l ≠ i3
structure A5 (z TI TO i1 i2 i3 l1 l2 l3 : Addr) (i : Nat) (h : Heap) : Prop where
 z : IsZip h z TI TO .none
 ti : xk h TI (.ref i1) (.ref i2) (.ref i3)
 to : ∃ a b c, xk h TO a b c
 s1 : SIt true h i1 l1 i
 s2 : SIt true h i2 l2 i
 s3 : SIt true h i3 l3 i
section
variable {prog : Program} {w : World} {A : Around} {E : Value -> Shared -> Prop} {s : Shared} {z TI TO i1 i2 i3 l1 l2 l3 : Addr} {i : Nat} {xs ys zs : Array Value}
end
section
variable {prog : Program} {w : World} {A : Around} {E : Value -> Shared -> Prop} {s : Shared} {l1 l2 l3 : Addr} {xs ys zs : Array Value}
end
end PZ
namespace PD
open PySem PySem.Spec PyProof.Rows L2 PZ
section
variable {X : Cx}
def tri (xs ys zs : List D) : List D := List.zipWith (fun f z => f z) (List.zipWith (fun x y z => D.tup [x, y, z]) xs ys) zs
end
end PD
namespace PD
open PySem PySem.Spec PyProof.Rows L2
section
variable {X : Cx} {pos : Pos}
end
end PD
namespace ST
open PySem PySem.SetTable
def S : Nat -> Nat
 | 0 => 0
 | n + 1 => 5 * S n + 1
theorem lO : ∀ n, 5 ^ n = 4 * S n + 1
 | 0 => rfl
 | n + 1 => by rw [Nat.pow_succ, lO n]; show _ = 4 * (5 * S n + 1) + 1; omega
theorem tj (m : Nat) : ∀ n, S (n + m) = 5 ^ m * S n + S m
 | 0 => by simp [S]
 | n + 1 => by
  rw [show n + 1 + m = (n + m) + 1 by omega]
  show 5 * S (n + m) + 1 = 5 ^ m * (5 * S n + 1) + S m
  rw [tj m n, lO m]
  grind
theorem w8 : ∀ k, ∃ o, S (2 ^ k) = 2 ^ k * (2 * o + 1)
 | 0 => ⟨0, rfl⟩
 | k + 1 => by
  obtain ⟨o, e⟩ := w8 k
  refine ⟨o + (2 * o + 1) * (2 ^ k * (2 * o + 1)), ?_⟩
  rw [show 2 ^ (k + 1) = 2 ^ k + 2 ^ k by rw [Nat.pow_succ]; omega, tj, lO, e]
  grind
theorem round : ∀ (k x e : Nat), e < 2 ^ k -> ∃ n, n < 2 ^ k /\ (5 ^ n * x + S n) % 2 ^ k = e
 | 0, x, e, h => ⟨0, by decide, by omega⟩
 | k + 1, x, e, h => by
  obtain ⟨n, hn, q⟩ := round k x (e % 2 ^ k) (Nat.mod_lt _ (Nat.two_pow_pos k))
  obtain ⟨o, eo⟩ := w8 k
  have hp := Nat.two_pow_pos k
  have h2 : 2 ^ (k + 1) = 2 * 2 ^ k := by rw [Nat.pow_succ]; omega
  generalize hv : 5 ^ n * x + S n = v at q
  have nxt : 5 ^ (n + 2 ^ k) * x + S (n + 2 ^ k) = v + 2 ^ k + 2 ^ (k + 1) * (o + 2 * (2 * o + 1) * v) := by
   rw [tj, Nat.pow_add, lO (2 ^ k), eo, h2, <- hv]
   grind
  generalize 2 ^ k = p at *
  rw [h2] at h ⊢
  by_cases z : v % (2 * p) = e
  ·exact ⟨n, by omega, by rw [hv]; exact z⟩
  ·refine ⟨n + p, by omega, ?_⟩
   rw [nxt, h2, Nat.add_mul_mod_self_left]
   have a1 : v % (2 * p) % p = v % p := Nat.mod_mul_left_mod v 2 p
   have l1 : v % (2 * p) < 2 * p := Nat.mod_lt _ (by omega)
   rw [Nat.add_mod, Nat.mod_eq_of_lt (show p < 2 * p by omega)]
   generalize v % (2 * p) = u at *
   have eu : u = u % p ∨ u = u % p + p := by
    by_cases c : u < p
    ·left; rw [Nat.mod_eq_of_lt c]
    ·right
     have : u % p = u - p := by rw [Nat.mod_eq_sub_mod (by omega), Nat.mod_eq_of_lt (by omega)]
     omega
   have ee : e = e % p ∨ e = e % p + p := by
    by_cases c : e < p
    ·left; rw [Nat.mod_eq_of_lt c]
    ·right
     have : e % p = e - p := by rw [Nat.mod_eq_sub_mod (by omega), Nat.mod_eq_of_lt (by omega)]
     omega
   have lt : e % p < p := Nat.mod_lt _ hp
   rcases eu with eu | eu <;> rcases ee with ee | ee
   ·omega
   ·rw [Nat.mod_eq_of_lt (by omega)]; omega
   ·rw [Nat.mod_eq_sub_mod (by omega), Nat.mod_eq_of_lt (by omega)]; omega
   ·omega
def runs (mask : Nat) : Nat -> Nat -> Nat -> List Nat
 | 0, _, _ => []
 | c + 1, i, pt => List.range' i (runEnd mask i + 1 - i) ++ runs mask c (leap mask i pt).1 (leap mask i pt).2
theorem jR (mask c i pt : Nat) : runs mask (c + 1) i pt = List.range' i (runEnd mask i + 1 - i) ++ runs mask c (leap mask i pt).1 (leap mask i pt).2 := rfl
def br (mask : Nat) (h : Int) : List Nat := runs mask (turns mask) (bits h % (mask + 1)) (bits h)
theorem fD {mask i : Nat} (h : i <= mask) : i <= runEnd mask i /\ runEnd mask i <= mask /\ runEnd mask i <= i + 9 := by unfold runEnd; split <;> omega
theorem kj (mask i pt : Nat) : (leap mask i pt).1 <= mask := by
 have : (leap mask i pt).1 < mask + 1 := Nat.mod_lt _ (Nat.succ_pos _)
 omega
theorem qV {mask : Nat} : ∀ {c i pt : Nat}, i <= mask -> ∀ x ∈ runs mask c i pt, x <= mask
 | 0, _, _, _, x, h => by cases h
 | c + 1, i, pt, hi, x, h => by
  rcases List.mem_append.mp h with z | z
  ·rw [List.mem_range'_1] at z
   have := fD hi
   omega
  ·exact qV (kj _ _ _) x z
theorem pZ {mask : Nat} : ∀ {c i pt : Nat}, i <= mask -> (runs mask c i pt).length <= 10 * c
 | 0, _, _, _ => Nat.le_refl _
 | c + 1, i, pt, hi => by
  have ih := pZ (c := c) (pt := (leap mask i pt).2) (kj mask i pt)
  have := fD hi
  unfold runs
  rw [List.length_append, List.length_range']
  omega
def bY (mask : Nat) : Nat -> Nat × Nat -> Nat × Nat
 | 0, p => p
 | n + 1, p => bY mask n (leap mask p.1 p.2)
theorem lV {mask : Nat} : ∀ {n c i pt : Nat}, ∀ x ∈ runs mask c (bY mask n (i, pt)).1 (bY mask n (i, pt)).2, x ∈ runs mask (n + c) i pt
 | 0, c, i, pt, x, h => by rw [Nat.zero_add]; exact h
 | n + 1, c, i, pt, x, h => by
  have := lV (n := n) (c := c) (i := (leap mask i pt).1) (pt := (leap mask i pt).2) x h
  rw [show n + 1 + c = (n + c) + 1 by omega]
  exact List.mem_append_right _ this
theorem uW {mask c i pt : Nat} (h : i <= mask) : i ∈ runs mask (c + 1) i pt := by
 refine List.mem_append_left _ ?_
 rw [List.mem_range'_1]
 have := fD h
 omega
theorem oh (mask : Nat) : ∀ (n : Nat) (p : Nat × Nat), (bY mask n p).2 = p.2 / 32 ^ n
 | 0, p => by simp [bY]
 | n + 1, p => by
  show (bY mask n (leap mask p.1 p.2)).2 = _
  rw [oh mask n]
  show p.2 / 32 / 32 ^ n = _
  rw [Nat.div_div_eq_div_mul, Nat.pow_succ, Nat.mul_comm]
theorem lS {mask k : Nat} (hk : mask + 1 = 2 ^ k) : ∀ (n i : Nat), i <= mask -> (bY mask n (i, 0)).1 = (5 ^ n * i + S n) % 2 ^ k
 | 0, i, h => by
  show i = _
  rw [Nat.pow_zero, Nat.one_mul]
  show i = (i + 0) % 2 ^ k
  rw [Nat.add_zero, Nat.mod_eq_of_lt (by omega)]
 | n + 1, i, h => by
  have e : leap mask i 0 = ((i * 5 + 1) % (mask + 1), 0) := by unfold leap; simp
  show (bY mask n (leap mask i 0)).1 = _
  rw [e, lS hk n _ (by have := Nat.mod_lt (i * 5 + 1) (show 0 < mask + 1 by omega); omega), hk]
  have a : (5 ^ n * ((i * 5 + 1) % 2 ^ k) + S n) % 2 ^ k = (5 ^ n * (i * 5 + 1) + S n) % 2 ^ k := by
   rw [Nat.add_mod, Nat.mul_mod, Nat.mod_mod, <- Nat.mul_mod, <- Nat.add_mod]
  rw [a, Nat.pow_succ]
  congr 1
  show _ = 5 ^ n * 5 * i + (5 * S n + 1)
  have := lO n
  rw [this]
  grind
theorem nH (mask : Nat) : ∀ (m n : Nat) (p : Nat × Nat), bY mask (m + n) p = bY mask n (bY mask m p)
 | 0, n, p => by rw [Nat.zero_add]; rfl
 | m + 1, n, p => by
  rw [show m + 1 + n = (m + n) + 1 by omega]
  exact nH mask m n _
theorem oV (mask : Nat) : ∀ (n : Nat) (p : Nat × Nat), p.1 <= mask -> (bY mask n p).1 <= mask
 | 0, _, h => h
 | n + 1, p, _ => oV mask n _ (kj _ _ _)
theorem cover {mask k : Nat} (hk : mask + 1 = 2 ^ k) (h : Int) {e : Nat} (he : e <= mask) : e ∈ br mask h := by
 have hb : bits h < 2 ^ 64 := by
  unfold bits
  have := Int.emod_lt_of_pos h (show (0 : Int) < 2 ^ 64 by decide)
  have := Int.emod_nonneg h (show (2 ^ 64 : Int) ≠ 0 by decide)
  omega
 have hi : bits h % (mask + 1) <= mask := by have := Nat.mod_lt (bits h) (show 0 < mask + 1 by omega); omega
 generalize hp : (bits h % (mask + 1), bits h) = p
 have p1 : p.1 <= mask := by rw [<- hp]; exact hi
 have z : (bY mask 13 p).2 = 0 := by
  rw [oh, <- hp]
  exact Nat.div_eq_of_lt (Nat.lt_of_lt_of_le hb (by decide))
 have q1 := oV mask 13 p p1
 obtain ⟨n, hn, en⟩ := round k (bY mask 13 p).1 e (by omega)
 have ee : (bY mask (13 + n) p).1 = e := by
  rw [nH]
  have : bY mask 13 p = ((bY mask 13 p).1, 0) := Prod.ext rfl z
  rw [this, lS hk n _ q1]
  exact en
 have := lV (mask := mask) (n := 13 + n) (c := (mask - n) + 2) (i := bits h % (mask + 1)) (pt := bits h) e (by
  have hp' : (bits h % (mask + 1), bits h) = p := hp
  rw [hp', ee]
  exact uW he)
 unfold br turns
 rw [show mask + 15 = 13 + n + (mask - n + 2) by omega]
 exact this
def fU (xs : Array Nat) : Prop := ∀ a b : Nat, a < b -> b < xs.size -> xs.getD a 0 < xs.getD b 0
theorem kR {xs : Array Nat} {j : Nat} (hr : fU xs) : ∀ (fuel lo hi : Nat), lo <= hi -> hi <= xs.size -> hi - lo <= fuel -> (∀ a, a < lo -> xs.getD a 0 < j) -> (∀ a, hi <= a -> a < xs.size -> j <= xs.getD a 0) →
  (below.go xs j fuel lo hi <= xs.size) /\ (∀ a, a < below.go xs j fuel lo hi -> xs.getD a 0 < j) /\ ∀ a, below.go xs j fuel lo hi <= a -> a < xs.size -> j <= xs.getD a 0
 | 0, lo, hi, h1, h2, h3, h4, h5 => by
  have : lo = hi := by omega
  subst this
  exact ⟨h2, h4, h5⟩
 | fuel + 1, lo, hi, h1, h2, h3, h4, h5 => by
  unfold below.go
  by_cases hlt : lo < hi
  ·rw [if_pos hlt]
   have hm : (lo + hi) / 2 < hi /\ lo <= (lo + hi) / 2 := by omega
   have hg : xs.getD ((lo + hi) / 2) j = xs.getD ((lo + hi) / 2) 0 := by
    have : (lo + hi) / 2 < xs.size := by omega
    simp [Array.getD, this]
   simp only [hg]
   split
   ·rename_i z
    refine kR hr fuel _ hi (by omega) h2 (by omega) (fun a ha => ?_) h5
    by_cases e : a = (lo + hi) / 2
    ·rw [e]; exact z
    ·exact Nat.lt_trans (hr a ((lo + hi) / 2) (by omega) (by omega)) z
   ·rename_i z
    refine kR hr fuel lo _ (by omega) (by omega) (by omega) h4 fun a ha hs => ?_
    by_cases e : a = (lo + hi) / 2
    ·rw [e]; omega
    ·have := hr ((lo + hi) / 2) a (by omega) hs
     omega
  ·rw [if_neg hlt]
   have : lo = hi := by omega
   subst this
   exact ⟨h2, h4, h5⟩
theorem fY {xs : Array Nat} (hr : fU xs) (j : Nat) : below xs j <= xs.size /\ (∀ a, a < below xs j -> xs.getD a 0 < j) /\ ∀ a, below xs j <= a -> a < xs.size -> j <= xs.getD a 0 :=
 kR hr xs.size 0 xs.size (Nat.zero_le _) (Nat.le_refl _) (by omega) (fun a h => absurd h (Nat.not_lt_zero _)) fun a h h' => by omega
theorem cE {xs : Array Nat} {a x : Nat} (h : xs[a]? = some x) : xs.getD a 0 = x /\ a < xs.size := by
 obtain ⟨l, e⟩ := Array.getElem?_eq_some_iff.mp h
 exact ⟨by simp [Array.getD, l, e], l⟩
theorem lH {xs : Array Nat} {a : Nat} (h : a < xs.size) : xs[a]? = some (xs.getD a 0) := by simp [Array.getD, h]
theorem below_at {xs : Array Nat} (hr : fU xs) {a j : Nat} (h : xs[a]? = some j) : below xs j = a := by
 obtain ⟨e, l⟩ := cE h
 obtain ⟨b1, b2, b3⟩ := fY hr j
 have h1 : ¬ a < below xs j := fun z => by have := b2 a z; omega
 have h2 : ¬ below xs j < a := fun z => by
  have := b3 (below xs j) (Nat.le_refl _) (by omega)
  have := hr _ a z l
  omega
 omega
theorem mW {t : SetTable} (hr : fU t.place) {a j : Nat} (h : t.place[a]? = some j) : t.slot j = .live a := by
 unfold SetTable.slot
 rw [below_at hr h]
 simp [h]
theorem sS {t : SetTable} (hr : fU t.place) (hd : t.dummies = #[]) {j : Nat} (h : j ∉ t.place.toList) : t.slot j = .empty := by
 have n : ¬ ((t.place[below t.place j]? == some j) = true) := fun z => by
  have e : t.place[below t.place j]? = some j := by simpa using z
  exact h (by
   obtain ⟨l, q⟩ := Array.getElem?_eq_some_iff.mp e
   rw [<- q]
   exact Array.getElem_mem_toList l)
 unfold SetTable.slot
 simp only [n, hd]
 have : has #[] j = false := by unfold has; simp
 simp [this]
def ahead (mask : Nat) (c : Nat) (p : Probe) : List Nat := List.range' p.j (p.more + 1) ++ runs mask c (leap mask p.i p.perturb).1 (leap mask p.i p.perturb).2
theorem kJ (t : SetTable) (h : Int) : ∃ c, br t.mask h = ahead t.mask c (t.probeStart h) := by
 refine ⟨t.mask + 14, ?_⟩
 unfold br ahead turns probeStart
 show runs t.mask ((t.mask + 14) + 1) _ _ = _
 rw [jR]
 have hi : bits h % (t.mask + 1) <= t.mask := by have := Nat.mod_lt (bits h) (show 0 < t.mask + 1 by omega); omega
 have := fD hi
 simp only
 rw [show runEnd t.mask (bits h % (t.mask + 1)) + 1 - bits h % (t.mask + 1) = runEnd t.mask (bits h % (t.mask + 1)) - bits h % (t.mask + 1) + 1 by omega]
theorem se (t : SetTable) {c : Nat} {p : Probe} {x : Nat} {r : List Nat} (e : ahead t.mask c p = x :: r) : p.j = x /\ (r = [] ∨ ∃ c', r = ahead t.mask c' (t.advance p)) := by
 unfold ahead at e
 rw [List.range'_succ, List.cons_append] at e
 obtain ⟨e1, e2⟩ := List.cons.inj e
 refine ⟨e1, ?_⟩
 unfold SetTable.advance
 by_cases hm : p.more > 0
 ·right
  refine ⟨c, ?_⟩
  rw [if_pos hm, <- e2]
  unfold ahead
  simp only
  rw [show p.more - 1 + 1 = p.more by omega]
 ·have m0 : p.more = 0 := by omega
  rw [m0] at e2
  simp only [List.range'_zero, List.nil_append] at e2
  cases c with
  | zero => left; rw [<- e2]; rfl
  | succ c =>
   right
   refine ⟨c, ?_⟩
   rw [if_neg hm, <- e2]
   have hl := kj t.mask p.i p.perturb
   have := fD hl
   unfold ahead
   rw [jR]
   simp only
   rw [show runEnd t.mask (leap t.mask p.i p.perturb).1 + 1 - (leap t.mask p.i p.perturb).1 = runEnd t.mask (leap t.mask p.i p.perturb).1 - (leap t.mask p.i p.perturb).1 + 1 by omega]
theorem kX {t : SetTable} (hr : fU t.place) (hd : t.dummies = #[]) (hashAt : Nat -> Int) (h : Int) : ∀ (l : List Nat) (fuel c : Nat) (p : Probe), ahead t.mask c p = l -> l.length <= fuel -> (∃ x ∈ l, x ∉ t.place.toList) -> p.dummy = none →
  (∃ pre j post, l = pre ++ j :: post /\ (∀ x ∈ pre, ∃ a, t.place[a]? = some x /\ hashAt a ≠ h) /\ j ∉ t.place.toList /\ probe.go t hashAt h fuel p = some (.empty j none)) ∨
  ∃ pre j post a q c', l = pre ++ j :: post /\ (∀ x ∈ pre, ∃ a, t.place[a]? = some x /\ hashAt a ≠ h) /\ t.place[a]? = some j /\ hashAt a = h /\ post = ahead t.mask c' q /\ q.dummy = none /\ probe.go t hashAt h fuel p = some (.candidate j a q)
 | [], _, _, _, _, _, hx, _ => by obtain ⟨x, hx, _⟩ := hx; cases hx
 | x :: r, 0, _, _, _, hl, _, _ => by simp at hl
 | x :: r, fuel + 1, c, p, e, hl, hx, hdm => by
  obtain ⟨ej, er⟩ := se t e
  subst ej
  unfold probe.go
  by_cases hin : p.j ∈ t.place.toList
  ·obtain ⟨a, hla, ea⟩ := List.getElem_of_mem hin
   have ha : t.place[a]? = some p.j := by
    rw [<- Array.getElem?_toList, List.getElem?_eq_getElem hla, ea]
   rw [mW hr ha]
   have hx' : ∃ x ∈ r, x ∉ t.place.toList := by
    obtain ⟨y, hy, ny⟩ := hx
    rcases List.mem_cons.mp hy with z | z
    ·subst z; exact absurd hin ny
    ·exact ⟨y, z, ny⟩
   have er' : ∃ c', r = ahead t.mask c' (t.advance p) := by
    rcases er with z | z
    ·obtain ⟨y, hy, _⟩ := hx'; rw [z] at hy; cases hy
    ·exact z
   have hda : (t.advance p).dummy = none := by unfold SetTable.advance; split <;> exact hdm
   obtain ⟨c', ec⟩ := er'
   simp only
   by_cases hh : hashAt a = h
   ·right
    rw [if_pos (by simpa using hh)]
    exact ⟨[], p.j, r, a, t.advance p, c', rfl, by simp, ha, hh, ec, hda, rfl⟩
   ·rw [if_neg (by simpa using hh)]
    have good : ∃ a, t.place[a]? = some p.j /\ hashAt a ≠ h := ⟨a, ha, hh⟩
    rcases kX hr hd hashAt h r fuel c' (t.advance p) ec.symm (by simp at hl; omega) hx' hda with ⟨pre, j, post, e1, e2, e3, e4⟩ | ⟨pre, j, post, b, q, c2, e1, e2, e3, e4, e5, e6, e7⟩
    ·left
     refine ⟨p.j :: pre, j, post, by rw [e1]; rfl, fun y hy => ?_, e3, e4⟩
     rcases List.mem_cons.mp hy with z | z
     ·rw [z]; exact good
     ·exact e2 y z
    ·right
     refine ⟨p.j :: pre, j, post, b, q, c2, by rw [e1]; rfl, fun y hy => ?_, e3, e4, e5, e6, e7⟩
     rcases List.mem_cons.mp hy with z | z
     ·rw [z]; exact good
     ·exact e2 y z
  ·left
   rw [sS hr hd hin]
   exact ⟨[], p.j, r, rfl, by simp, hin, by simp [hdm]⟩
structure Tab (t : SetTable) (hs : List Int) : Prop where
 k : ∃ k, t.mask + 1 = 2 ^ (k + 1)
 rise : fU t.place
 le : ∀ x ∈ t.place.toList, x <= t.mask
 dum : t.dummies = #[]
 len : t.place.size = hs.length
 room : t.place.size <= t.mask
 reach : ∀ (a x : Nat) (h : Int), t.place[a]? = some x -> hs[a]? = some h -> ∃ pre post, br t.mask h = pre ++ x :: post /\ ∀ y ∈ pre, y ∈ t.place.toList
theorem Tab.fits {t : SetTable} {hs : List Int} (T : Tab t hs) : t.fits hs.length = true := by
 unfold SetTable.fits SetTable.fill
 rw [T.dum]
 simp [T.len]
 have := T.len
 have := T.room
 omega
theorem Tab.stays {t : SetTable} {hs : List Int} (T : Tab t hs) : t.gaveWay = false := by
 obtain ⟨k, e⟩ := T.k
 unfold SetTable.gaveWay
 rw [Nat.pow_succ] at e
 have : t.mask % 2 = 1 := by omega
 rw [this]
 rfl
theorem vR {xs : Array Nat} (hr : fU xs) {a b x y : Nat} (ha : xs[a]? = some x) (hb : xs[b]? = some y) (h : x < y) : a < b := by
 obtain ⟨e1, l1⟩ := cE ha
 obtain ⟨e2, l2⟩ := cE hb
 rcases Nat.lt_trichotomy a b with z | z | z
 ·exact z
 ·subst z; omega
 ·have := hr b a z l1
  omega
theorem qZ {xs : Array Nat} {x : Nat} (h : x ∈ xs.toList) : ∃ a : Nat, xs[a]? = some x := by
 obtain ⟨a, hla, ea⟩ := List.getElem_of_mem h
 exact ⟨a, by rw [<- Array.getElem?_toList, List.getElem?_eq_getElem hla, ea]⟩
theorem get_mem {xs : Array Nat} {a x : Nat} (h : xs[a]? = some x) : x ∈ xs.toList := by
 obtain ⟨l, q⟩ := Array.getElem?_eq_some_iff.mp h
 rw [<- q]
 exact Array.getElem_mem_toList l
theorem xO {xs : Array Nat} (hr : fU xs) {mask : Nat} (hs : xs.size <= mask) : ∃ e, e <= mask /\ e ∉ xs.toList := by
 refine Classical.byContradiction fun no => ?_
 have all : ∀ e, e <= mask -> e ∈ xs.toList := fun e he => Classical.byContradiction fun n => no ⟨e, he, n⟩
 have up : ∀ j, j <= mask -> ∃ a, xs[a]? = some j /\ j <= a := by
  intro j
  induction j with
  | zero => intro h; obtain ⟨a, ha⟩ := qZ (all 0 h); exact ⟨a, ha, Nat.zero_le _⟩
  | succ j ih =>
   intro h
   obtain ⟨a, ha, hja⟩ := ih (by omega)
   obtain ⟨b, hb⟩ := qZ (all (j + 1) h)
   have := vR hr ha hb (by omega)
   exact ⟨b, hb, by omega⟩
 obtain ⟨a, ha, hm⟩ := up mask (Nat.le_refl _)
 have := (cE ha).2
 omega
theorem Tab.empty {t : SetTable} {hs : List Int} (T : Tab t hs) (h : Int) : ∃ x ∈ br t.mask h, x ∉ t.place.toList := by
 obtain ⟨e, he, ne⟩ := xO T.rise T.room
 obtain ⟨k, hk⟩ := T.k
 exact ⟨e, cover hk h he, ne⟩
theorem i5 (mask : Nat) (h : Int) : (br mask h).length <= 10 * turns mask := pZ (by have := Nat.mod_lt (bits h) (show 0 < mask + 1 by omega); omega)
theorem jV (mask : Nat) (h : Int) : ∀ x ∈ br mask h, x <= mask := qV (by have := Nat.mod_lt (bits h) (show 0 < mask + 1 by omega); omega)
theorem gO {α : Type} (xs : Array α) (p : Nat) (x : α) : (insertAt xs p x).toList = xs.toList.take p ++ x :: xs.toList.drop p := by
 unfold insertAt
 simp
 exact List.take_of_length_le (by rw [List.length_drop, Array.length_toList]; exact Nat.le_refl _)
theorem get_ins {α : Type} {l : List α} {p : Nat} (hp : p <= l.length) (x : α) (a : Nat) : (l.take p ++ x :: l.drop p)[a]? = if a < p then l[a]? else if a = p then some x else l[a - 1]? := by
 by_cases h : a < p
 ·rw [if_pos h, List.getElem?_append_left (by rw [List.length_take]; omega), List.getElem?_take, if_pos h]
 ·rw [if_neg h, List.getElem?_append_right (by rw [List.length_take]; omega), List.length_take, Nat.min_eq_left hp]
  by_cases e : a = p
  ·rw [if_pos e, e, Nat.sub_self]; rfl
  ·rw [if_neg e, show a - p = (a - p - 1) + 1 by omega, List.getElem?_cons_succ, List.getElem?_drop, show p + (a - p - 1) = a - 1 by omega]
theorem Tab.put {t : SetTable} {hs : List Int} (T : Tab t hs) {h : Int} {j : Nat} {pre post : List Nat} (hj : j ∉ t.place.toList) (hv : br t.mask h = pre ++ j :: post) (hp : ∀ y ∈ pre, y ∈ t.place.toList) (hroom : t.place.size + 1 <= t.mask) :
  Tab (t.put j).1 (hs.take (t.put j).2 ++ h :: hs.drop (t.put j).2) /\ (t.put j).2 <= hs.length /\ (t.put j).1.mask = t.mask /\ (t.put j).1.place.size = t.place.size + 1 := by
 have e1 : (t.put j).1.place = insertAt t.place (below t.place j) j := rfl
 have e2 : (t.put j).2 = below t.place j := rfl
 have e3 : (t.put j).1.mask = t.mask := rfl
 have e4 : (t.put j).1.dummies = #[] := by
  show (if has t.dummies j then _ else t.dummies) = _
  rw [T.dum]
  have : has #[] j = false := by unfold has; simp
  rw [this]
  rfl
 obtain ⟨b1, b2, b3⟩ := fY T.rise j
 have bp : below t.place j <= t.place.toList.length := by rw [Array.length_toList]; exact b1
 have bh : below t.place j <= hs.length := by rw [<- T.len]; exact b1
 have gl : ∀ a, (t.put j).1.place[a]? = if a < below t.place j then t.place[a]? else if a = below t.place j then some j else t.place[a - 1]? := fun a => by
  rw [e1, <- Array.getElem?_toList, gO, get_ins bp, Array.getElem?_toList, Array.getElem?_toList]
 have sz : (t.put j).1.place.size = t.place.size + 1 := by
  rw [e1, <- Array.length_toList, gO, List.length_append, List.length_take, List.length_cons, List.length_drop, Array.length_toList]
  omega
 have mem : ∀ x, x ∈ (t.put j).1.place.toList ↔ x = j ∨ x ∈ t.place.toList := fun x => by
  rw [e1, gO, List.mem_append, List.mem_cons]
  constructor
  ·rintro (z | z | z)
   ·exact .inr (List.mem_of_mem_take z)
   ·exact .inl z
   ·exact .inr (List.mem_of_mem_drop z)
  ·rintro (z | z)
   ·exact .inr (.inl z)
   ·rw [<- List.take_append_drop (below t.place j) t.place.toList] at z
    rcases List.mem_append.mp z with q | q
    ·exact .inl q
    ·exact .inr (.inr q)
 refine ⟨⟨T.k, ?_, ?_, e4, ?_, by rw [sz]; exact hroom, ?_⟩, bh, e3, sz⟩
 ·intro a b hab hb
  rw [sz] at hb
  have ga := lH (xs := (t.put j).1.place) (a := a) (by rw [sz]; omega)
  have gb := lH (xs := (t.put j).1.place) (a := b) (by rw [sz]; exact hb)
  rw [gl a] at ga
  rw [gl b] at gb
  have jn : ∀ c, c < t.place.size -> t.place.getD c 0 ≠ j := fun c hc e => hj (by rw [<- e]; exact get_mem (lH hc))
  by_cases a1 : a < below t.place j
  ·rw [if_pos a1] at ga
   obtain ⟨ea, la⟩ := cE ga
   have := b2 a a1
   by_cases c1 : b < below t.place j
   ·rw [if_pos c1] at gb
    obtain ⟨eb, lb⟩ := cE gb
    have := T.rise a b hab lb
    omega
   ·rw [if_neg c1] at gb
    by_cases c2 : b = below t.place j
    ·rw [if_pos c2] at gb
     have := Option.some.inj gb
     omega
    ·rw [if_neg c2] at gb
     obtain ⟨eb, lb⟩ := cE gb
     have := T.rise a (b - 1) (by omega) lb
     omega
  ·rw [if_neg a1] at ga
   have c1 : ¬ b < below t.place j := by omega
   have c2 : ¬ b = below t.place j := by omega
   rw [if_neg c1, if_neg c2] at gb
   obtain ⟨eb, lb⟩ := cE gb
   by_cases a2 : a = below t.place j
   ·rw [if_pos a2] at ga
    have := Option.some.inj ga
    have := b3 (b - 1) (by omega) lb
    have := jn (b - 1) lb
    omega
   ·rw [if_neg a2] at ga
    obtain ⟨ea, la⟩ := cE ga
    have := T.rise (a - 1) (b - 1) (by omega) lb
    omega
 ·intro x hx
  rcases (mem x).mp hx with z | z
  ·subst z
   exact jV t.mask h x (by rw [hv]; simp)
  ·exact T.le x z
 ·rw [sz, e2, List.length_append, List.length_take, List.length_cons, List.length_drop, <- T.len]
  omega
 ·intro a x h' hx hh
  rw [gl a] at hx
  rw [e2, get_ins bh] at hh
  have up : ∀ {l : List Nat}, (∀ y ∈ l, y ∈ t.place.toList) -> ∀ y ∈ l, y ∈ (t.put j).1.place.toList := fun hl y hy => (mem y).mpr (.inr (hl y hy))
  by_cases a1 : a < below t.place j
  ·rw [if_pos a1] at hx hh
   obtain ⟨p1, p2, q1, q2⟩ := T.reach a x h' hx hh
   exact ⟨p1, p2, q1, up q2⟩
  ·rw [if_neg a1] at hx hh
   by_cases a2 : a = below t.place j
   ·rw [if_pos a2] at hx hh
    cases hx
    cases hh
    exact ⟨pre, post, hv, up hp⟩
   ·rw [if_neg a2] at hx hh
    obtain ⟨p1, p2, q1, q2⟩ := T.reach (a - 1) x h' hx hh
    exact ⟨p1, p2, q1, up q2⟩
theorem nE (mask : Nat) (owner : Array (Option Nat)) : ∀ (fuel i pt : Nat), layClean.free mask owner fuel i pt = (runs mask fuel i pt).find? fun y => (owner.getD y (some 0)).isNone
 | 0, _, _ => rfl
 | fuel + 1, i, pt => by
  rw [jR, List.find?_append, List.range'_eq_map_range, List.find?_map]
  unfold layClean.free
  have ih := nE mask owner fuel (leap mask i pt).1 (leap mask i pt).2
  have ef : ((fun y => (owner.getD y (some 0)).isNone) ∘ fun x => i + x) = fun k => (owner.getD (i + k) (some 0)).isNone := rfl
  rw [ef]
  cases (List.range (runEnd mask i + 1 - i)).find? fun k => (owner.getD (i + k) (some 0)).isNone with
  | some k => rfl
  | none => exact ih
structure Ow (mask : Nat) (hs : List Int) (owner : Array (Option Nat)) : Prop where
 size : owner.size = mask + 1
 cnt : (owner.toList.filter Option.isSome).length = hs.length
 at_ : ∀ (i : Nat) (h : Int), hs[i]? = some h -> ∃ j : Nat, owner[j]? = some (some i) /\ ∃ pre post, br mask h = pre ++ j :: post /\ ∀ y ∈ pre, ∃ q, owner[y]? = some (some q)
 lt : ∀ j i : Nat, owner[j]? = some (some i) -> i < hs.length
 inj : ∀ j j' i : Nat, owner[j]? = some (some i) -> owner[j']? = some (some i) -> j = j'
theorem l8 {α : Type} {p : α -> Bool} : ∀ {l : List α} {x : α}, l.find? p = some x -> ∃ pre post, l = pre ++ x :: post /\ p x = true /\ ∀ y ∈ pre, p y = false
 | [], _, h => by cases h
 | a :: r, x, h => by
  rw [List.find?_cons] at h
  cases pa : p a with
  | true => rw [pa] at h; cases h; exact ⟨[], r, rfl, pa, by simp⟩
  | false =>
   rw [pa] at h
   obtain ⟨pre, post, e, q1, q2⟩ := l8 h
   refine ⟨a :: pre, post, by rw [e]; rfl, q1, fun y hy => ?_⟩
   rcases List.mem_cons.mp hy with z | z
   ·rw [z]; exact pa
   ·exact q2 y z
theorem lR {α : Type} {p : α -> Bool} : ∀ {l : List α} {j : Nat} {a b : α}, l[j]? = some a -> p a = false -> p b = true -> ((l.set j b).filter p).length = (l.filter p).length + 1
 | [], _, _, _, h, _, _ => by simp at h
 | x :: r, 0, a, b, h, ha, hb => by
  simp at h
  subst h
  rw [List.set_cons_zero, List.filter_cons_of_pos hb, List.filter_cons_of_neg (by simp [ha]), List.length_cons]
 | x :: r, j + 1, a, b, h, ha, hb => by
  have ih := lR (l := r) (j := j) (by simpa using h) ha hb
  rw [List.set_cons_succ]
  by_cases c : p x = true
  ·rw [List.filter_cons_of_pos c, List.filter_cons_of_pos c, List.length_cons, List.length_cons, ih]
  ·rw [List.filter_cons_of_neg c, List.filter_cons_of_neg c, ih]
theorem Ow.step {mask k : Nat} (hk : mask + 1 = 2 ^ k) {hs : List Int} {owner : Array (Option Nat)} (O : Ow mask hs owner) (hn : hs.length <= mask) (h : Int) :
  ∃ j, layClean.free mask owner (turns mask) (bits h % (mask + 1)) (bits h) = some j /\ Ow mask (hs ++ [h]) (owner.setIfInBounds j (some hs.length)) := by
 have ex : ∃ e : Nat, e <= mask /\ owner[e]? = some none := by
  refine Classical.byContradiction fun no => ?_
  have all : ∀ x ∈ owner.toList, Option.isSome x = true := fun x hx => by
   obtain ⟨e, le, ee⟩ := List.getElem_of_mem hx
   rw [Array.length_toList, O.size] at le
   cases x with
   | some _ => rfl
   | none => exact absurd ⟨e, by omega, by rw [<- Array.getElem?_toList, List.getElem?_eq_getElem (by rw [Array.length_toList, O.size]; exact le), ee]⟩ no
  have := O.cnt
  rw [List.filter_eq_self.mpr all, Array.length_toList, O.size] at this
  omega
 have emp : ∀ y, y <= mask -> ((owner.getD y (some 0)).isNone = true ↔ owner[y]? = some none) := fun y hy => by
  have l : y < owner.size := by rw [O.size]; omega
  rw [Array.getElem?_eq_getElem l]
  simp [Array.getD, l]
 obtain ⟨e, he, ee⟩ := ex
 have fs : ((br mask h).find? fun y => (owner.getD y (some 0)).isNone).isSome = true := by
  rw [List.find?_isSome]
  exact ⟨e, cover hk h he, (emp e he).mpr ee⟩
 obtain ⟨j, fj⟩ := Option.isSome_iff_exists.mp fs
 obtain ⟨pre, post, ev, pj, pp⟩ := l8 fj
 have jm : j <= mask := jV mask h j (by rw [ev]; simp)
 have oj := (emp j jm).mp pj
 have jl : j < owner.size := by rw [O.size]; omega
 refine ⟨j, by rw [nE]; exact fj, ?_⟩
 have gs : ∀ y : Nat, (owner.setIfInBounds j (some hs.length))[y]? = if j = y then some (some hs.length) else owner[y]? := fun y => by
  rw [Array.getElem?_setIfInBounds]
  by_cases c : j = y
  ·rw [if_pos c, if_pos c, if_pos jl]
  ·rw [if_neg c, if_neg c]
 have keep : ∀ (y q : Nat), owner[y]? = some (some q) -> (owner.setIfInBounds j (some hs.length))[y]? = some (some q) := fun y q hy => by
  rw [gs, if_neg (fun c => by subst c; rw [oj] at hy; cases hy)]
  exact hy
 refine ⟨by rw [Array.size_setIfInBounds]; exact O.size, ?_, ?_, ?_, ?_⟩
 ·rw [Array.toList_setIfInBounds, lR (a := none) (by rw [Array.getElem?_toList]; exact oj) rfl rfl, O.cnt, List.length_append]
  rfl
 ·intro i h' hi
  by_cases c : i < hs.length
  ·rw [List.getElem?_append_left c] at hi
   obtain ⟨j', o', p1, p2, q1, q2⟩ := O.at_ i h' hi
   exact ⟨j', keep _ _ o', p1, p2, q1, fun y hy => let ⟨q, z⟩ := q2 y hy; ⟨q, keep _ _ z⟩⟩
  ·rw [List.getElem?_append_right (by omega)] at hi
   have ei : i = hs.length := by
    have := (List.getElem?_eq_some_iff.mp hi).1
    simp at this
    omega
   subst ei
   simp at hi
   subst hi
   refine ⟨j, by rw [gs, if_pos rfl], pre, post, ev, fun y hy => ?_⟩
   have ym : y <= mask := jV mask h y (by rw [ev]; simp [hy])
   have ny := pp y hy
   have yl : y < owner.size := by rw [O.size]; omega
   cases oy : owner[y] with
   | none =>
    have := (emp y ym).mpr (by rw [Array.getElem?_eq_getElem yl, oy])
    rw [this] at ny
    cases ny
   | some q => exact ⟨q, keep y q (by rw [Array.getElem?_eq_getElem yl, oy])⟩
 ·intro y i hy
  rw [gs] at hy
  rw [List.length_append]
  by_cases c : j = y
  ·rw [if_pos c] at hy
   cases hy
   simp
  ·rw [if_neg c] at hy
   have := O.lt y i hy
   simp
   omega
 ·intro y y' i hy hy'
  rw [gs] at hy hy'
  by_cases c : j = y <;> by_cases c' : j = y'
  ·omega
  ·rw [if_pos c] at hy
   rw [if_neg c'] at hy'
   cases hy
   have := O.lt y' _ hy'
   omega
  ·rw [if_neg c] at hy
   rw [if_pos c'] at hy'
   cases hy'
   have := O.lt y _ hy
   omega
  ·rw [if_neg c] at hy
   rw [if_neg c'] at hy'
   exact O.inj y y' i hy hy'
theorem pI {mask k : Nat} (hk : mask + 1 = 2 ^ k) : ∀ (rest hs : List Int) (owner : Array (Option Nat)), Ow mask hs owner -> hs.length + rest.length <= mask + 1 →
  ∃ owner', rest.foldl (fun (acc : Option (Array (Option Nat) × Nat)) h => do
   let (owner, k) ← acc
   let j ← layClean.free mask owner (turns mask) (bits h % (mask + 1)) (bits h)
   pure (owner.setIfInBounds j (some k), k + 1)) (some (owner, hs.length)) = some (owner', (hs ++ rest).length) /\ Ow mask (hs ++ rest) owner'
 | [], hs, owner, O, _ => ⟨owner, by simp, by rw [List.append_nil]; exact O⟩
 | h :: r, hs, owner, O, hl => by
  rw [List.length_cons] at hl
  obtain ⟨j, fj, O'⟩ := O.step hk (by omega) h
  obtain ⟨o', e', Q⟩ := pI hk r (hs ++ [h]) _ O' (by rw [List.length_append]; simp; omega)
  refine ⟨o', ?_, by rw [List.append_assoc] at Q; exact Q⟩
  rw [List.foldl_cons]
  have : (do
   let (owner, k) ← (some (owner, hs.length) : Option (Array (Option Nat) × Nat))
   let j ← layClean.free mask owner (turns mask) (bits h % (mask + 1)) (bits h)
   pure (owner.setIfInBounds j (some k), k + 1)) = some (owner.setIfInBounds j (some hs.length), (hs ++ [h]).length) := by
   show (layClean.free mask owner (turns mask) (bits h % (mask + 1)) (bits h) >>= _) = _
   rw [fj]
   simp
  rw [this, e']
  simp
theorem qt {mask k : Nat} (hk : mask + 1 = 2 ^ k) (hashes : Array Int) (hl : hashes.size <= mask + 1) : ∃ owner, layClean mask hashes = some owner /\ Ow mask hashes.toList owner := by
 have O : Ow mask [] (Array.replicate (mask + 1) none) := by
  refine ⟨by simp, by simp, by simp, fun j i h => ?_, fun j j' i h _ => ?_⟩
  ·rw [Array.getElem?_replicate] at h
   split at h <;> cases h
  ·rw [Array.getElem?_replicate] at h
   split at h <;> cases h
 obtain ⟨o, e, Q⟩ := pI hk hashes.toList [] _ O (by rw [Array.length_toList]; simp; omega)
 refine ⟨o, ?_, by simpa using Q⟩
 unfold layClean
 rw [<- Array.foldl_toList]
 show Option.map _ (List.foldl _ (some (Array.replicate (mask + 1) none, ([] : List Int).length)) _) = _
 rw [e]
 rfl
def live (mask : Nat) (owner : Array (Option Nat)) : List (Nat × Nat) := (List.range (mask + 1)).filterMap fun j => (owner.getD j none).map (j, ·)
theorem fh {mask : Nat} {hs : List Int} {owner : Array (Option Nat)} (O : Ow mask hs owner) {j i : Nat} : (j, i) ∈ live mask owner ↔ owner[j]? = some (some i) := by
 unfold live
 rw [List.mem_filterMap]
 constructor
 ·rintro ⟨y, hy, e⟩
  rw [List.mem_range] at hy
  obtain ⟨q, e1, e2⟩ := Option.map_eq_some_iff.mp e
  cases e2
  have l : j < owner.size := by rw [O.size]; exact hy
  rw [Array.getElem?_eq_getElem l, <- e1]
  simp [Array.getD, l]
 ·intro h
  obtain ⟨l, e⟩ := Array.getElem?_eq_some_iff.mp h
  refine ⟨j, by rw [List.mem_range, <- O.size]; exact l, ?_⟩
  rw [show owner.getD j none = some i by simp [Array.getD, l, e]]
  rfl
theorem kU (mask : Nat) (owner : Array (Option Nat)) : (live mask owner).map (·.1) = (List.range (mask + 1)).filter fun j => (owner.getD j none).isSome := by
 unfold live
 induction List.range (mask + 1) with
 | nil => rfl
 | cons a r ih =>
  cases e : owner.getD a none with
  | none => rw [List.filterMap_cons_none (by rw [e]; rfl), List.filter_cons_of_neg (by simp [e]), ih]
  | some q => rw [List.filterMap_cons_some (by rw [e]; rfl), List.filter_cons_of_pos (by simp [e]), List.map_cons, ih]
theorem vL {mask : Nat} {hs : List Int} {owner : Array (Option Nat)} (O : Ow mask hs owner) : (live mask owner).length = hs.length := by
 have e1 : (live mask owner).length = ((live mask owner).map (·.1)).length := by simp
 have e2 : owner.toList = (List.range (mask + 1)).map fun j => owner.getD j none := by
  apply List.ext_getElem?
  intro j
  rw [List.getElem?_map, Array.getElem?_toList]
  by_cases c : j < mask + 1
  ·have l : j < owner.size := by rw [O.size]; exact c
   rw [List.getElem?_range c, Array.getElem?_eq_getElem l]
   simp [Array.getD, l]
  ·rw [List.getElem?_eq_none (by rw [List.length_range]; omega), Array.getElem?_eq_none (by rw [O.size]; omega)]
   rfl
 rw [e1, kU, <- O.cnt, e2, List.filter_map, List.length_map]
 rfl
theorem mZ (mask : Nat) (owner : Array (Option Nat)) : ((live mask owner).map (·.1)).Pairwise (· < ·) := by
 rw [kU]
 exact List.Pairwise.filter _ List.pairwise_lt_range
theorem yh {l : List Nat} (h : l.Pairwise (· < ·)) : fU l.toArray := by
 intro a b hab hb
 have hb' : b < l.length := by simpa using hb
 have := List.pairwise_iff_getElem.mp h a b (by omega) hb' hab
 simp [Array.getD, show a < l.length by omega, hb']
 exact this
theorem xF {mask k : Nat} (hk : mask + 1 = 2 ^ (k + 1)) (finger moves : Nat) (led plain : Bool) {V : Type} (es : Array (Int × V)) (hl : es.size <= mask) :
  ∃ t order, laid mask finger moves led plain (es.map (·.1)) = some (t, order) /\ t.mask = mask /\ t.led = led /\ t.plain = plain ∧
   ∃ es' : List (Int × V), (order.filterMap (es[·]?)).toList = es' /\ es'.length = es.size /\ Tab t (es'.map (·.1)) /\ t.place.size = es.size ∧
    (∀ (a : Nat) (e : Int × V), es'[a]? = some e -> ∃ i : Nat, order[a]? = some i /\ es[i]? = some e) /\ (∀ i : Nat, i < es.size -> ∃ a : Nat, order[a]? = some i) /\ ∀ (a b i : Nat), order[a]? = some i -> order[b]? = some i -> a = b := by
 obtain ⟨owner, eo, O⟩ := qt hk (es.map (·.1)) (by rw [Array.size_map]; omega)
 have hsl : (es.map (·.1)).toList.length = es.size := by simp
 refine ⟨{ mask, place := ((live mask owner).map (·.1)).toArray, dummies := #[], finger, led, moves, plain }, ((live mask owner).map (·.2)).toArray, by unfold laid; rw [eo]; rfl, rfl, rfl, rfl, ?_⟩
 have ll := vL O
 rw [hsl] at ll
 have lt : ∀ p ∈ live mask owner, p.2 < es.size := fun p hp => by
  have := O.lt p.1 p.2 ((fh O).mp hp)
  rw [hsl] at this
  exact this
 have els : ∀ l : List (Nat × Nat), (∀ p ∈ l, p.2 < es.size) -> (((l.map (·.2)).filterMap fun i => es[i]?).map some) = l.map fun p => es[p.2]? := fun l hl => by
  induction l with
  | nil => rfl
  | cons p r ih =>
   have lp := hl p (by simp)
   rw [List.map_cons, List.filterMap_cons_some (Array.getElem?_eq_getElem lp), List.map_cons, List.map_cons, ih fun q hq => hl q (by simp [hq]), Array.getElem?_eq_getElem lp]
 have ge : ∀ a : Nat, ((((live mask owner).map (·.2)).filterMap fun i => es[i]?)[a]?).map some = ((live mask owner)[a]?).map fun p => es[p.2]? := fun a => by
  have := congrArg (fun l => l[a]?) (els _ lt)
  simp only [List.getElem?_map] at this
  exact this
 refine ⟨((live mask owner).map (·.2)).filterMap fun i => es[i]?, by simp, ?_, ?_, ?_, ?_, ?_, ?_⟩
 ·have := congrArg List.length (els _ lt)
  rw [List.length_map, List.length_map] at this
  rw [this, ll]
 ·refine ⟨⟨k, hk⟩, yh (mZ mask owner), ?_, rfl, ?_, ?_, ?_⟩
  ·intro x hx
   have hx' : x ∈ (live mask owner).map (·.1) := by simpa using hx
   rw [kU, List.mem_filter, List.mem_range] at hx'
   show x <= mask
   omega
  ·have := congrArg List.length (els _ lt)
   rw [List.length_map, List.length_map] at this
   show ((live mask owner).map (·.1)).toArray.size = _
   rw [List.size_toArray, List.length_map, List.length_map, this]
  ·show ((live mask owner).map (·.1)).toArray.size <= mask
   rw [List.size_toArray, List.length_map, ll]
   exact hl
  ·intro a x h hx hh
   have hx' : ((live mask owner).map (·.1))[a]? = some x := by simpa using hx
   rw [List.getElem?_map] at hx'
   obtain ⟨p, ep, e1⟩ := Option.map_eq_some_iff.mp hx'
   have g := ge a
   rw [ep] at g
   have lp := lt p (List.mem_of_getElem? ep)
   rw [List.getElem?_map] at hh
   obtain ⟨e, ee, eh⟩ := Option.map_eq_some_iff.mp hh
   rw [ee, Option.map_some, Option.map_some, Array.getElem?_eq_getElem lp] at g
   have ge' := Option.some.inj (Option.some.inj g)
   obtain ⟨j', o', pre, post, ev, q⟩ := O.at_ p.2 h (by
    rw [<- eh, ge', <- Array.getElem?_toList] at *
    rw [Array.getElem?_toList, Array.getElem?_map, Array.getElem?_eq_getElem lp]
    rfl)
   have oj := (fh O).mp (show (p.1, p.2) ∈ live mask owner from List.mem_of_getElem? ep)
   have := O.inj j' p.1 p.2 o' oj
   subst this
   subst e1
   refine ⟨pre, post, ev, fun y hy => ?_⟩
   obtain ⟨z, hz⟩ := q y hy
   show y ∈ ((live mask owner).map (·.1)).toArray.toList
   simp only [List.mem_map]
   exact ⟨(y, z), (fh O).mpr hz, rfl⟩
 ·show ((live mask owner).map (·.1)).toArray.size = _
  rw [List.size_toArray, List.length_map, ll]
 ·intro a e he
  have g := ge a
  rw [he] at g
  cases ep : (live mask owner)[a]? with
  | none => rw [ep] at g; cases g
  | some p =>
   rw [ep] at g
   exact ⟨p.2, by simp [ep], (Option.some.inj g).symm⟩
 ·intro i hi
  obtain ⟨h, hh⟩ : ∃ h, (es.map (·.1)).toList[i]? = some h := ⟨_, List.getElem?_eq_getElem (by rw [hsl]; exact hi)⟩
  obtain ⟨j, oj, _⟩ := O.at_ i h hh
  obtain ⟨a, la, ea⟩ := List.getElem_of_mem ((fh O).mpr oj)
  exact ⟨a, by simp [List.getElem?_eq_getElem la, ea]⟩
 ·intro a b i ha hb
  have ha' : ((live mask owner).map (·.2))[a]? = some i := by simpa using ha
  have hb' : ((live mask owner).map (·.2))[b]? = some i := by simpa using hb
  rw [List.getElem?_map] at ha' hb'
  obtain ⟨p, ep, e1⟩ := Option.map_eq_some_iff.mp ha'
  obtain ⟨q, eq, e2⟩ := Option.map_eq_some_iff.mp hb'
  have o1 := (fh O).mp (show (p.1, p.2) ∈ live mask owner from List.mem_of_getElem? ep)
  have o2 := (fh O).mp (show (q.1, q.2) ∈ live mask owner from List.mem_of_getElem? eq)
  have ej := O.inj p.1 q.1 i (by rw [<- e1]; exact o1) (by rw [<- e2]; exact o2)
  have r := mZ mask owner
  have la := (List.getElem?_eq_some_iff.mp ep)
  have lb := (List.getElem?_eq_some_iff.mp eq)
  obtain ⟨la1, la2⟩ := la
  obtain ⟨lb1, lb2⟩ := lb
  rcases Nat.lt_trichotomy a b with z | z | z
  ·have := List.pairwise_iff_getElem.mp r a b (by rw [List.length_map]; exact la1) (by rw [List.length_map]; exact lb1) z
   rw [List.getElem_map, List.getElem_map, la2, lb2] at this
   omega
  ·exact z
  ·have := List.pairwise_iff_getElem.mp r b a (by rw [List.length_map]; exact lb1) (by rw [List.length_map]; exact la1) z
   rw [List.getElem_map, List.getElem_map, la2, lb2] at this
   omega
theorem pF : ∀ (fuel size n : Nat), n < size * 2 ^ fuel -> ∃ m, sizeAbove.go n fuel size = size * 2 ^ m /\ n < size * 2 ^ m
 | 0, size, n, h => ⟨0, by simp [sizeAbove.go], h⟩
 | fuel + 1, size, n, h => by
  unfold sizeAbove.go
  by_cases c : size <= n
  ·rw [if_pos c]
   obtain ⟨m, e1, e2⟩ := pF fuel (size * 2) n (by rw [Nat.pow_succ] at h; rw [Nat.mul_assoc, Nat.mul_comm 2]; exact h)
   refine ⟨m + 1, ?_, ?_⟩
   ·rw [e1, Nat.pow_succ, Nat.mul_assoc, Nat.mul_comm 2]
   ·rw [Nat.pow_succ, Nat.mul_comm (2 ^ m), <- Nat.mul_assoc]; exact e2
  ·rw [if_neg c]
   exact ⟨0, by simp, by simp; omega⟩
theorem above {n : Nat} (h : n < 2 ^ 60) : ∃ k, sizeAbove n - 1 + 1 = 2 ^ (k + 1) /\ n <= sizeAbove n - 1 := by
 obtain ⟨m, e1, e2⟩ := pF 64 8 n (Nat.lt_of_lt_of_le h (by decide))
 have e : sizeAbove n = 8 * 2 ^ m := e1
 have hp := Nat.two_pow_pos m
 refine ⟨m + 2, ?_, by omega⟩
 rw [e, show 2 ^ (m + 2 + 1) = 8 * 2 ^ m by rw [Nat.pow_succ, Nat.pow_succ, Nat.pow_succ]; omega]
 omega
end ST
namespace SW
open PySem PySem.SetTable ST
section
variable {prog : Program} {w : World} {A : Around} {E : Value -> Shared -> Prop} {s : Shared}
abbrev TK (prog : Program) (w : World) : HeapKind prog w (List Int) := tupleKind (intKind prog w)
theorem items_int : ∀ {ks : List Int} {vs : List Value}, ItemsAre (intKind prog w) ks vs -> ∀ v ∈ vs, ∃ n t, v = Value.int n t
 | _, _, .nil, v, h => by cases h
 | _, _, .cons h t, v, hv => by
  rcases List.mem_cons.mp hv with z | z
  ·subst z
   obtain ⟨t, e⟩ := Value.isInt_shape h
   exact ⟨_, t, e⟩
  ·exact items_int t v z
theorem xy (d : Nat) (n : Int) (t : Tok) : ofAClassStatement d (.int n t) = pure false := by cases d <;> rfl
theorem ng {k : List Int} {b : Addr} {Q : Bool -> Shared -> Prop} (hk : (TK prog w).is s.heap k b) (hQ : Q false s) : wpAny (model prog w) A (ofAClassStatement 8 (.ref b)) Q E s := by
 obtain ⟨o, items, n, ho, hc, hd, hi⟩ := hk
 unfold ofAClassStatement
 refine wpAny_bind (wpAny_typeOf (T := "tuple") ⟨o, ho, hc⟩ ?_)
 dsimp only
 rw [if_pos (by decide)]
 refine wpAny_bind (wpAny_pure ?_)
 rw [if_neg (by decide)]
 refine wpAny_bind (wpAny_seqItems ho hd ?_)
 dsimp only
 refine wpAny_bind ?_
 rw [<- Array.forIn_toList]
 refine wpAny_forIn_list _ (fun rest r s' => r.1 = none /\ s' = s /\ ∀ v ∈ rest, ∃ n t, v = Value.int n t) _ ?_ ?_ _ _ ⟨rfl, rfl, items_int hi⟩
 ·rintro v rest r s' ⟨hr, rfl, hall⟩
  obtain ⟨m, t, rfl⟩ := hall v List.mem_cons_self
  rw [xy]
  refine wpAny_bind (wpAny_pure ?_)
  simp only [Bool.false_eq_true, if_false]
  exact wpAny_pure ⟨rfl, rfl, fun u hu' => hall u (List.mem_cons_of_mem _ hu')⟩
 ·rintro ⟨r1, r2⟩ s' ⟨hr, rfl, _⟩
  simp only at hr
  subst hr
  exact wpAny_pure hQ
theorem rG (d : Nat) (n : Int) (t : Tok) : hashByValue d (.int n t) = pure true := by cases d <;> rfl
theorem uw {k : List Int} {b : Addr} {Q : Bool -> Shared -> Prop} (hk : (TK prog w).is s.heap k b) (hQ : Q true s) : wpAny (model prog w) A (hashByValue 8 (.ref b)) Q E s := by
 obtain ⟨o, items, n, ho, hc, hd, hi⟩ := hk
 unfold hashByValue
 refine wpAny_bind (wpAny_specialOf (T := "tuple") ⟨o, ho, hc⟩ F.slot_tuple_hash.lookup ?_)
 show wpAny _ _ (seqItems? (.ref b) >>= _) _ _ s
 refine wpAny_bind (wpAny_seqItems ho hd ?_)
 dsimp only [Option.getD_some]
 refine wpAny_bind ?_
 rw [<- Array.forIn_toList]
 refine wpAny_forIn_list _ (fun rest r s' => r.1 = none /\ s' = s /\ ∀ v ∈ rest, ∃ n t, v = Value.int n t) _ ?_ ?_ _ _ ⟨rfl, rfl, items_int hi⟩
 ·rintro v rest r s' ⟨hr, rfl, hall⟩
  obtain ⟨m, t, rfl⟩ := hall v List.mem_cons_self
  rw [rG]
  refine wpAny_bind (wpAny_pure ?_)
  simp only [Bool.not_true, Bool.false_eq_true, if_false]
  exact wpAny_pure ⟨rfl, rfl, fun u hu' => hall u (List.mem_cons_of_mem _ hu')⟩
 ·rintro ⟨r1, r2⟩ s' ⟨hr, rfl, _⟩
  simp only at hr
  subst hr
  exact wpAny_pure hQ
theorem sv {k : List Int} {b : Addr} {vs : List Value} {Q : Bool -> Shared -> Prop} (hk : (TK prog w).is s.heap k b) (hv : ∀ v ∈ vs, ∃ k' c, v = Value.ref c /\ (TK prog w).is s.heap k' c) (hQ : Q false s) :
  wpAny (model prog w) A (searchCouldBeSeen (.ref b) vs) Q E s := by
 unfold searchCouldBeSeen
 refine wpAny_bind (wpAny_forIn_list _ (fun rest r s' => r.1 = none /\ s' = s /\ ∀ v ∈ rest, ∃ k' c, v = Value.ref c /\ (TK prog w).is s.heap k' c) _ ?_ ?_ _ _ ⟨rfl, rfl, hv⟩)
 ·rintro v rest r s' ⟨hr, rfl, hall⟩
  have rest' : ∀ u ∈ rest, ∃ k' c, u = Value.ref c /\ (TK prog w).is s'.heap k' c := fun u hu => hall u (List.mem_cons_of_mem _ hu)
  obtain ⟨k', c, rfl, hc⟩ := hall v List.mem_cons_self
  dsimp only
  by_cases very : ((b == c) || (carriedByValue (.ref b) && carriedByValue (.ref c))) = true
  ·rw [if_pos very]
   exact wpAny_pure ⟨rfl, rfl, rest'⟩
  ·rw [if_neg very]
   refine wpAny_bind ((TK prog w).quiet hk ?_)
   simp only [Bool.not_true, Bool.false_eq_true, if_false]
   refine wpAny_bind ((TK prog w).quiet hc ?_)
   simp only [Bool.not_true, Bool.false_eq_true, if_false]
   refine wpAny_bind (ng hk ?_)
   simp only [Bool.false_eq_true, if_false]
   refine wpAny_bind (ng hc ?_)
   simp only [Bool.false_eq_true, if_false]
   exact wpAny_pure ⟨rfl, rfl, rest'⟩
 ·rintro ⟨r1, r2⟩ s' ⟨hr, rfl, _⟩
  simp only at hr
  subst hr
  exact wpAny_pure hQ
theorem kF {a b : Addr} {k : List Int} {o : Obj} {es : Array (Int × Value)} {ep : Nat} {t : SetTable} {xs : List (List Int × Addr)} {Q : SetFound -> Shared -> Prop} (hu : A.units < cLine) (hk : (TK prog w).is s.heap k b)
  (ho : s.heap.get? a = some o) (hd : o.data = .set es ep t) (he : es.toList = xs.map fun x => ((TK prog w).hash x.1, Value.ref x.2)) (his : ∀ x ∈ xs, (TK prog w).is s.heap x.1 x.2) (T : Tab t (xs.map fun x => (TK prog w).hash x.1))
  (hin : k ∈ xs.map (·.1) -> Q (.there none) s) (hno : k ∉ xs.map (·.1) -> ∀ j pre post, br t.mask ((TK prog w).hash k) = pre ++ j :: post -> (∀ y ∈ pre, y ∈ t.place.toList) -> j ∉ t.place.toList -> Q (.free j false) s) :
  ∀ (fuel : Nat) (l done : List Nat) (c : Nat) (st : Option Probe), ahead t.mask c (st.getD (t.probeStart ((TK prog w).hash k))) = l -> br t.mask ((TK prog w).hash k) = done ++ l →
   (∀ y ∈ done, ∃ (i : Nat) (x : List Int × Addr), t.place[i]? = some y /\ xs[i]? = some x /\ x.1 ≠ k) -> l.length < fuel -> (st.getD (t.probeStart ((TK prog w).hash k))).dummy = none -> wpAny (model prog w) A (setSearchFrom a (.ref b) ((TK prog w).hash k) true fuel st) Q E s
 | 0, _, _, _, _, _, _, _, hf, _ => absurd hf (Nat.not_lt_zero _)
 | fuel + 1, l, done, c, st, e1, e2, hdn, hf, hdm => by
  have sz : es.size = xs.length := by rw [<- Array.length_toList, he, List.length_map]
  have fits : t.fits es.size = true := by have := T.fits; rw [List.length_map] at this; rw [sz]; exact this
  have psz : t.place.size = xs.length := by have := T.len; rw [List.length_map] at this; exact this
  have entry : ∀ (i : Nat) (x : List Int × Addr), xs[i]? = some x -> es[i]? = some ((TK prog w).hash x.1, Value.ref x.2) := fun i x hx => by
   rw [<- Array.getElem?_toList, he, List.getElem?_map, hx]
   rfl
  have ofPlace : ∀ i y : Nat, t.place[i]? = some y -> ∃ x, xs[i]? = some x := fun i y hy => by
   have := (cE hy).2
   exact ⟨xs[i]'(by omega), List.getElem?_eq_getElem (by omega)⟩
  have hat : ∀ (i : Nat) (x : List Int × Addr), xs[i]? = some x -> (es[i]?.map (·.1)).getD 0 = (TK prog w).hash x.1 := fun i x hx => by rw [entry i x hx]; rfl
  have dpl : ∀ y ∈ done, y ∈ t.place.toList := fun y hy => let ⟨i, _, h1, _⟩ := hdn y hy; get_mem h1
  have emp : ∃ x ∈ l, x ∉ t.place.toList := by
   obtain ⟨x, hx, nx⟩ := T.empty ((TK prog w).hash k)
   rw [e2] at hx
   rcases List.mem_append.mp hx with z | z
   ·exact absurd (dpl x z) nx
   ·exact ⟨x, z, nx⟩
  have ll : l.length <= 10 * turns t.mask := by
   have := i5 t.mask ((TK prog w).hash k)
   rw [e2, List.length_append] at this
   omega
  unfold setSearchFrom
  refine wpAny_bind (wpAny_setState_of ho hd fits ?_)
  dsimp only
  rw [T.stays]
  simp only [Bool.false_eq_true, if_false]
  generalize hm : t.probe _ ((TK prog w).hash k) (st.getD (t.probeStart ((TK prog w).hash k))) = m
  rcases kX T.rise T.dum (fun i => (es[i]?.map (·.1)).getD 0) ((TK prog w).hash k) l (10 * turns t.mask) c _ e1 ll emp hdm with ⟨pre, j, post, q1, q2, q3, q4⟩ | ⟨pre, j, post, i, q, c', q1, q2, q3, q4, q5, q6, q7⟩
  ·have em : m = some (.empty j none) := hm.symm.trans q4
   subst em
   dsimp only
   have hv : br t.mask ((TK prog w).hash k) = (done ++ pre) ++ j :: post := by rw [e2, q1, List.append_assoc]
   have hpp : ∀ y ∈ done ++ pre, y ∈ t.place.toList := fun y hy => by
    rcases List.mem_append.mp hy with z | z
    ·exact dpl y z
    ·obtain ⟨i, h1, _⟩ := q2 y z
     exact get_mem h1
   refine wpAny_pure (hno (fun hin' => ?_) j _ post hv hpp q3)
   obtain ⟨x, hx, ek⟩ := List.mem_map.mp hin'
   obtain ⟨i0, li, ei⟩ := List.getElem_of_mem hx
   have gx : xs[i0]? = some x := by rw [List.getElem?_eq_getElem li, ei]
   have gp0 := lH (xs := t.place) (a := i0) (by omega)
   obtain ⟨pre0, post0, v0, p0⟩ := T.reach i0 _ ((TK prog w).hash k) gp0 (by rw [List.getElem?_map, gx, <- ek]; rfl)
   have x0 : t.place.getD i0 0 ∈ done ++ pre := by
    have hz : pre0.length < (done ++ pre).length := by
     refine Classical.byContradiction fun nl => ?_
     have g1 : (br t.mask ((TK prog w).hash k))[(done ++ pre).length]? = some j := by rw [hv, List.getElem?_append_right (Nat.le_refl _), Nat.sub_self]; rfl
     rw [v0] at g1
     by_cases c1 : (done ++ pre).length < pre0.length
     ·rw [List.getElem?_append_left c1] at g1
      exact q3 (p0 j (List.mem_of_getElem? g1))
     ·have c2 : (done ++ pre).length = pre0.length := by omega
      rw [c2, List.getElem?_append_right (Nat.le_refl _), Nat.sub_self] at g1
      have : t.place.getD i0 0 = j := Option.some.inj g1
      exact q3 (by rw [<- this]; exact get_mem gp0)
    have g2 : (br t.mask ((TK prog w).hash k))[pre0.length]? = some (t.place.getD i0 0) := by rw [v0, List.getElem?_append_right (Nat.le_refl _), Nat.sub_self]; rfl
    rw [hv, List.getElem?_append_left hz] at g2
    exact List.mem_of_getElem? g2
   have same : ∀ i' : Nat, t.place[i']? = some (t.place.getD i0 0) -> i' = i0 := fun i' h' => (below_at T.rise h').symm.trans (below_at T.rise gp0)
   rcases List.mem_append.mp x0 with z | z
   ·obtain ⟨i', x', h1, h2, h3⟩ := hdn _ z
    have := same i' h1
    subst this
    rw [gx] at h2
    cases h2
    exact h3 ek
   ·obtain ⟨i', h1, h2⟩ := q2 _ z
    have := same i' h1
    subst this
    exact h2 (by rw [hat i' x gx, ek])
  ·have em : m = some (.candidate j i q) := hm.symm.trans q7
   subst em
   dsimp only
   obtain ⟨x, gx⟩ := ofPlace i j q3
   have hx := his x (List.mem_of_getElem? gx)
   have stored : ∀ v ∈ (es.filter (·.1 == (TK prog w).hash k)).toList.map (·.2), ∃ k' c, v = Value.ref c /\ (TK prog w).is s.heap k' c := fun v hv => by
    obtain ⟨e, he', rfl⟩ := List.mem_map.mp hv
    have he2 : e ∈ es.toList := by
     have := Array.mem_toList_iff.mp he'
     exact Array.mem_toList_iff.mpr (Array.mem_filter.mp this).1
    rw [he] at he2
    obtain ⟨y, hy, rfl⟩ := List.mem_map.mp he2
    exact ⟨y.1, y.2, rfl, his y hy⟩
   have go : wpAny (model prog w) A (do
     let some (_, y) := es[i]? | unsupported "internal:set-entry"
     let equal ← holding [y] (eqBool y (.ref b))
     let (es', _, t') ← setState a
     if true && equal then return SetFound.there none
     let some same := t'.sameMemory t.moves t.mask | unsupported "set.changed-during-lookup:is-the-new-block-at-the-old-address"
     let still ← match (if same then t'.slot j else .empty) with
      | .live i' => match es'[i']? with
       | some (_, y') => do pure (if ← isSame y' y then some i' else none)
       | none => pure none
      | _ => pure none
     match still with
     | none => rule "set.search.anew"; setSearchFrom a (.ref b) ((TK prog w).hash k) true fuel none
     | some i' => if equal then return .there (some i') else setSearchFrom a (.ref b) ((TK prog w).hash k) true fuel (some q)) Q E s := by
    rw [entry i x gx]
    dsimp only
    refine wpAny_bind (wpAny_holding ((TK prog w).eqBool hu hx hk ?_))
    refine wpAny_bind (wpAny_setState_of ho hd fits ?_)
    dsimp only
    by_cases ek : x.1 = k
    ·rw [if_pos (by simp [ek])]
     exact wpAny_pure (hin (List.mem_map.mpr ⟨x, List.mem_of_getElem? gx, ek⟩))
    ·rw [if_neg (by simp [ek])]
     have sm : t.sameMemory t.moves t.mask = some true := by unfold SetTable.sameMemory; simp
     rw [sm]
     dsimp only
     rw [if_pos rfl, mW T.rise q3]
     dsimp only
     rw [entry i x gx]
     dsimp only
     refine wpAny_bind (wpAny_isSame_ref_self ?_)
     simp only [if_true]
     refine wpAny_bind (wpAny_pure ?_)
     dsimp only
     rw [if_neg (by simp [ek])]
     refine kF hu hk ho hd he his T hin hno fuel post (done ++ pre ++ [j]) c' (some q) q5.symm (by rw [e2, q1]; simp) (fun y hy => ?_) (by rw [q1, List.length_append, List.length_cons] at hf; omega) q6
     rcases List.mem_append.mp hy with z | z
     ·rcases List.mem_append.mp z with z | z
      ·exact hdn y z
      ·obtain ⟨i', h1, h2⟩ := q2 y z
       obtain ⟨x', gx'⟩ := ofPlace i' y h1
       exact ⟨i', x', h1, gx', fun ek' => h2 (by rw [hat i' x' gx', ek'])⟩
     ·simp at z
      subst z
      exact ⟨i, x, q3, gx, ek⟩
   by_cases hled : t.led = true
   ·rw [if_neg (by simp [hled])]
    exact go
   ·rw [if_pos (by simp [hled])]
    refine wpAny_bind (sv hk stored ?_)
    simp only [Bool.false_eq_true, if_false]
    exact go
theorem oP : ∀ (fuel size n : Nat), sizeAbove.go n fuel size <= max size (2 * n)
 | 0, size, n => by unfold sizeAbove.go; omega
 | fuel + 1, size, n => by
  unfold sizeAbove.go
  split
  ·have := oP fuel (size * 2) n
   omega
  ·omega
structure fK (prog : Program) (w : World) (h : Heap) (a : Addr) (xs : List (List Int × Addr)) : Prop where
 ex : ∃ o es ep t, h.get? a = some o /\ o.ExactSet /\ o.data = .set es ep t /\ es.toList = xs.map (fun x => ((TK prog w).hash x.1, Value.ref x.2)) /\ Tab t (xs.map fun x => (TK prog w).hash x.1) /\ (t.plain = true /\ t.led = !w.params.followText "set-order") /\ t.place.size * 5 < t.mask * 3 /\ t.mask <= 8191
 is_ : ∀ x ∈ xs, (TK prog w).is h x.1 x.2
 nd : (xs.map (·.1)).Nodup
theorem ie {h h' : Heap} {a b : Addr} {k : List Int} {o : Obj} (hk : (TK prog w).is h k b) (ho : h.get? a = some o) (hc : o.cls = .type "set") (hs : Heap.SameBut a h h') : (TK prog w).is h' k b := by
 obtain ⟨o', items, n, ho', hc', hd, hi⟩ := hk
 have ne : b ≠ a := fun e => by
  subst e
  rw [ho] at ho'
  cases ho'
  rw [hc] at hc'
  injection hc' with z
  exact absurd z (by decide)
 exact ⟨o', items, n, hs.extBut b o' ne ho', hc', hd, hi⟩
theorem vG {a : Addr} {xs : List (List Int × Addr)} {o : Obj} {es : Array (Int × Value)} {ep wanted : Nat} {t : SetTable} {Q : Unit -> Shared -> Prop} (ho : s.heap.get? a = some o) (hex : o.ExactSet) (hd : o.data = .set es ep t) (he : es.toList = xs.map fun x => ((TK prog w).hash x.1, Value.ref x.2))
  (T : Tab t (xs.map fun x => (TK prog w).hash x.1)) (hpl : t.plain = true /\ t.led = !w.params.followText "set-order") (his : ∀ x ∈ xs, (TK prog w).is s.heap x.1 x.2) (nd : (xs.map (·.1)).Nodup) (hw : wanted = 4 * xs.length) (hn : 0 < xs.length) (hl : xs.length <= 1000)
  (hQ : ∀ h' ys, Heap.SameBut a s.heap h' -> fK prog w h' a ys -> ys.length = xs.length -> (∀ y, y ∈ ys ↔ y ∈ xs) -> Q () { s with heap := h' }) : wpAny (model prog w) A (setRelay a wanted) Q E s := by
 have sz : es.size = xs.length := by rw [<- Array.length_toList, he, List.length_map]
 have fits : t.fits es.size = true := by have := T.fits; rw [List.length_map] at this; rw [sz]; exact this
 obtain ⟨k, ek, eb⟩ := above (n := wanted) (by omega)
 have up : sizeAbove wanted <= max 8 (2 * wanted) := oP 64 8 wanted
 generalize hzs : (xs.map fun x => ((TK prog w).hash x.1, x)).toArray = zs
 have zz : zs.size = xs.length := by rw [<- hzs]; simp
 have zg : ∀ i : Nat, zs[i]? = xs[i]?.map fun x => ((TK prog w).hash x.1, x) := fun i => by rw [<- hzs]; simp
 have eg : ∀ i : Nat, es[i]? = xs[i]?.map fun x => ((TK prog w).hash x.1, Value.ref x.2) := fun i => by rw [<- Array.getElem?_toList, he, List.getElem?_map]
 have em : es.map (·.1) = zs.map (·.1) := by
  apply Array.ext_getElem?
  intro i
  rw [Array.getElem?_map, Array.getElem?_map, zg, eg]
  cases xs[i]? <;> rfl
 obtain ⟨t', order, el, m1, m2, m3, es', f1, f2, T', f3, f4, f5, f6⟩ := xF ek t.finger (t.movedTo (sizeAbove wanted - 1)) t.led t.plain zs (by omega)
 have er : t.relaid (es.map (·.1)) wanted = some (t', order) := by unfold SetTable.relaid; rw [em]; exact el
 generalize hys : es'.map (·.2) = ys
 have fo : ∀ l : List Nat, (l.filterMap fun i => es[i]?) = (l.filterMap fun i => zs[i]?).map fun z => (z.1, Value.ref z.2.2) := fun l => by
  induction l with
  | nil => rfl
  | cons i r ih =>
   cases e : xs[i]? with
   | none => rw [List.filterMap_cons_none (by rw [eg, e]; rfl), List.filterMap_cons_none (by rw [zg, e]; rfl), ih]
   | some x => rw [List.filterMap_cons_some (by rw [eg, e]; rfl), List.filterMap_cons_some (by rw [zg, e]; rfl), List.map_cons, ih]
 have f1' : order.toList.filterMap (fun i => zs[i]?) = es' := by rw [<- f1]; simp
 have zform : ∀ z ∈ es', z = ((TK prog w).hash z.2.1, z.2) /\ z.2 ∈ xs := fun z hz => by
  obtain ⟨q, lq, eq⟩ := List.getElem_of_mem hz
  obtain ⟨i, _, hi⟩ := f4 q z (by rw [List.getElem?_eq_getElem lq, eq])
  rw [zg] at hi
  obtain ⟨x, ex, e⟩ := Option.map_eq_some_iff.mp hi
  subst e
  exact ⟨rfl, List.mem_of_getElem? ex⟩
 have new : (order.filterMap fun i => es[i]?).toList = ys.map fun x => ((TK prog w).hash x.1, Value.ref x.2) := by
  have : (order.filterMap fun i => es[i]?).toList = order.toList.filterMap fun i => es[i]? := by simp
  rw [this, fo, f1', <- hys, List.map_map]
  apply List.map_congr_left
  intro z hz
  obtain ⟨e, _⟩ := zform z hz
  show (z.1, Value.ref z.2.2) = ((TK prog w).hash z.2.1, Value.ref z.2.2)
  rw [show z.1 = (TK prog w).hash z.2.1 from congrArg (·.1) e]
 have hsh : es'.map (·.1) = ys.map fun x => (TK prog w).hash x.1 := by
  rw [<- hys, List.map_map]
  apply List.map_congr_left
  intro z hz
  obtain ⟨e, _⟩ := zform z hz
  exact congrArg (·.1) e
 have yl : ys.length = xs.length := by rw [<- hys, List.length_map, f2, zz]
 have ym : ∀ y, y ∈ ys ↔ y ∈ xs := fun y => by
  rw [<- hys]
  constructor
  ·intro hy
   obtain ⟨z, hz, rfl⟩ := List.mem_map.mp hy
   exact (zform z hz).2
  ·intro hy
   obtain ⟨i, li, ei⟩ := List.getElem_of_mem hy
   obtain ⟨q, hq⟩ := f5 i (by rw [zz]; exact li)
   have hz : ((TK prog w).hash y.1, y) ∈ es' := by
    rw [<- f1', List.mem_filterMap]
    refine ⟨i, ?_, by rw [zg, List.getElem?_eq_getElem li, ei]; rfl⟩
    rw [<- Array.getElem?_toList] at hq
    exact List.mem_of_getElem? hq
   exact List.mem_map.mpr ⟨_, hz, rfl⟩
 have ynd : (ys.map (·.1)).Nodup := by
  rw [<- hys, List.map_map]
  refine List.pairwise_iff_getElem.mpr fun p q lp lq hpq e => ?_
  rw [List.length_map] at lp lq
  simp only [List.getElem_map, Function.comp] at e
  obtain ⟨i, oi, gi⟩ := f4 p es'[p] (List.getElem?_eq_getElem lp)
  obtain ⟨i', oi', gi'⟩ := f4 q es'[q] (List.getElem?_eq_getElem lq)
  rw [zg] at gi gi'
  obtain ⟨x, ex, e1⟩ := Option.map_eq_some_iff.mp gi
  obtain ⟨x', ex', e1'⟩ := Option.map_eq_some_iff.mp gi'
  rw [<- e1, <- e1'] at e
  have e2 : x.1 = x'.1 := e
  obtain ⟨l1, l2⟩ := List.getElem?_eq_some_iff.mp ex
  obtain ⟨l1', l2'⟩ := List.getElem?_eq_some_iff.mp ex'
  have ii : i = i' := by
   rcases Nat.lt_trichotomy i i' with z | z | z
   ·have := List.pairwise_iff_getElem.mp nd i i' (by rw [List.length_map]; exact l1) (by rw [List.length_map]; exact l1') z
    rw [List.getElem_map, List.getElem_map, l2, l2'] at this
    exact absurd e2 this
   ·exact z
   ·have := List.pairwise_iff_getElem.mp nd i' i (by rw [List.length_map]; exact l1') (by rw [List.length_map]; exact l1) z
    rw [List.getElem_map, List.getElem_map, l2, l2'] at this
    exact absurd e2.symm this
  subst ii
  have := f6 p q i oi oi'
  omega
 unfold setRelay
 refine wpAny_bind (wpAny_setState_of ho hd fits ?_)
 dsimp only
 rw [if_neg (by rw [sizeLine_eq]; omega), er]
 have nsz : (order.filterMap fun i => es[i]?).size = es.size := by rw [<- Array.length_toList, new, List.length_map, yl, sz]
 refine wpAny_bind ?_
 show wpAny _ _ (if ((order.filterMap fun i => es[i]?).size != es.size) = true then _ else pure (order.filterMap (fun i => es[i]?), t')) _ _ _
 rw [if_neg (by rw [nsz]; simp)]
 refine wpAny_pure ?_
 refine wpAny_storeSet_of ho hd ?_ (by rw [nsz, sz, sizeLine_eq]; omega)
 have hg : (s.heap.update a (Obj.putSet (order.filterMap fun i => es[i]?) t')).get? a = some { o with data := .set (order.filterMap fun i => es[i]?) (ep + 1) t' } := by
  have := Heap.get?_update_self (Obj.putSet (order.filterMap fun i => es[i]?) t') ho (by rw [putSet_of _ _ hd]; rfl)
  rw [putSet_of _ _ hd] at this
  exact this
 rw [hsh] at T'
 refine hQ _ ys (Heap.SameBut.update ..) ⟨⟨_, _, ep + 1, t', hg, hex, rfl, new, T', ⟨by rw [m3]; exact hpl.1, by rw [m2]; exact hpl.2⟩, by rw [m1, f3, zz]; omega, by rw [m1]; omega⟩, fun y hy => ie (his y ((ym y).mp hy)) ho hex.1 (Heap.SameBut.update ..), ynd⟩ yl ym
theorem zC {a b : Addr} {k : List Int} {xs : List (List Int × Addr)} {Q : Bool -> Shared -> Prop} (hu : A.units < cLine) (S : fK prog w s.heap a xs) (hk : (TK prog w).is s.heap k b) (hl : xs.length < 1000)
  (hQ : ∀ h' ys b', Heap.SameBut a s.heap h' -> fK prog w h' a ys -> ys.length <= xs.length + 1 -> (∀ k', k' ∈ ys.map (·.1) ↔ k' ∈ xs.map (·.1) ∨ k' = k) -> (∀ y ∈ ys, y ∈ xs ∨ y = (k, b)) -> Q b' { s with heap := h', toks := s.toks + (TK prog w).draws k }) :
  wpAny (model prog w) A (setAdd a (.ref b)) Q E s := by
 unfold setAdd
 refine wpAny_holding (wpAny_bind ((TK prog w).pyHash hu hk ?_))
 generalize hs' : ({ s with toks := s.toks + (TK prog w).draws k } : Shared) = s'
 have hh : s'.heap = s.heap := by rw [<- hs']
 obtain ⟨⟨o, es, ep, t, ho, hex, hd, he, T, hpl, hlo, hma⟩, his, nd⟩ := S
 rw [<- hh] at ho hk
 have his' : ∀ x ∈ xs, (TK prog w).is s'.heap x.1 x.2 := by rw [hh]; exact his
 have sz : es.size = xs.length := by rw [<- Array.length_toList, he, List.length_map]
 have fits : t.fits es.size = true := by have := T.fits; rw [List.length_map] at this; rw [sz]; exact this
 have psz : t.place.size = xs.length := by have := T.len; rw [List.length_map] at this; exact this
 have back : ∀ (h' : Heap) (b' : Bool), Q b' { s with heap := h', toks := s.toks + (TK prog w).draws k } -> Q b' { s' with heap := h' } := fun h' b' q => by rw [<- hs']; exact q
 unfold setAddHashed
 refine wpAny_holding ?_
 unfold setAddHashedIn
 refine wpAny_bind (wpAny_setState_of ho hd fits ?_)
 dsimp only
 rw [if_neg (by unfold byScan; simp [Value.scannable])]
 obtain ⟨c, ec⟩ := kJ t ((TK prog w).hash k)
 have vl := i5 t.mask ((TK prog w).hash k)
 unfold setSearch
 refine wpAny_bind (kF hu hk ho hd he his' T (fun hin => ?_) (fun hno j pre post hv hp hj => ?_) 100000 _ [] c none ec.symm (by simp) (by simp) (by unfold turns at vl; omega) rfl)
 ·dsimp only
  refine wpAny_pure ?_
  have e : s' = { s' with heap := s'.heap } := by cases s'; rfl
  rw [e]
  refine back _ _ (hQ s'.heap xs _ (by rw [hh]; exact Heap.SameBut.refl a s.heap) ⟨⟨o, es, ep, t, ho, hex, hd, he, T, hpl, hlo, hma⟩, his', nd⟩ (by omega) (fun k' => ⟨.inl, fun z => z.elim id fun z => by subst z; exact hin⟩) fun y hy => .inl hy)
 ·dsimp only
  refine wpAny_bind (wpAny_setState_of ho hd fits ?_)
  dsimp only
  obtain ⟨T', pl, pm, ps⟩ := T.put hj hv hp (by omega)
  rw [List.length_map] at pl
  have hpp : (t.put j).1.plain = true := hpl.1
  have hpq : (t.put j).1.plain = true /\ (t.put j).1.led = !w.params.followText "set-order" := hpl
  rw [hpp]
  simp only [if_true]
  refine wpAny_bind (uw hk ?_)
  simp only [if_true]
  generalize hp2 : (t.put j).2 = p at *
  generalize ht2 : (t.put j).1 = t2 at *
  have isz : (insertAt es p ((TK prog w).hash k, Value.ref b)).toList = (xs.take p ++ (k, b) :: xs.drop p).map fun x => ((TK prog w).hash x.1, Value.ref x.2) := by
   rw [gO, he, List.map_append, List.map_cons, List.map_take, List.map_drop]
  have hlen : (xs.take p ++ (k, b) :: xs.drop p).length = xs.length + 1 := by
   rw [List.length_append, List.length_take, List.length_cons, List.length_drop]
   omega
  have isz2 : (insertAt es p ((TK prog w).hash k, Value.ref b)).size = xs.length + 1 := by rw [<- Array.length_toList, isz, List.length_map, hlen]
  have mem : ∀ y, y ∈ xs.take p ++ (k, b) :: xs.drop p ↔ y = (k, b) ∨ y ∈ xs := fun y => by
   rw [List.mem_append, List.mem_cons]
   constructor
   ·rintro (z | z | z)
    ·exact .inr (List.mem_of_mem_take z)
    ·exact .inl z
    ·exact .inr (List.mem_of_mem_drop z)
   ·rintro (z | z)
    ·exact .inr (.inl z)
    ·rw [<- List.take_append_drop p xs] at z
     rcases List.mem_append.mp z with q | q
     ·exact .inl q
     ·exact .inr (.inr q)
  have nd2 : ((xs.take p ++ (k, b) :: xs.drop p).map (·.1)).Nodup := by
   rw [List.map_append, List.map_cons]
   have n0 := nd
   have h0 := hno
   rw [<- List.take_append_drop p xs, List.map_append] at n0 h0
   rw [List.nodup_append] at n0 ⊢
   obtain ⟨n1, n2, n3⟩ := n0
   rw [List.mem_append, not_or] at h0
   refine ⟨n1, List.nodup_cons.mpr ⟨h0.2, n2⟩, fun x hx y hy => ?_⟩
   rcases List.mem_cons.mp hy with z | z
   ·intro e; subst e; subst z; exact h0.1 hx
   ·exact n3 x hx y z
  have keyiff : ∀ zs : List (List Int × Addr), (∀ y, y ∈ zs ↔ y ∈ xs.take p ++ (k, b) :: xs.drop p) -> ∀ k', k' ∈ zs.map (·.1) ↔ k' ∈ xs.map (·.1) ∨ k' = k := fun zs hz k' => by
   constructor
   ·intro h1
    obtain ⟨y, hy, e⟩ := List.mem_map.mp h1
    rcases (mem y).mp ((hz y).mp hy) with q | q
    ·subst q; exact .inr e.symm
    ·exact .inl (List.mem_map.mpr ⟨y, q, e⟩)
   ·rintro (h1 | h1)
    ·obtain ⟨y, hy, e⟩ := List.mem_map.mp h1
     exact List.mem_map.mpr ⟨y, (hz y).mpr ((mem y).mpr (.inr hy)), e⟩
    ·subst h1
     exact List.mem_map.mpr ⟨(k', b), (hz _).mpr ((mem _).mpr (.inl rfl)), rfl⟩
  refine wpAny_bind (wpAny_storeSet_of ho hd ?_ (by rw [isz2, sizeLine_eq]; omega))
  have hg : (s'.heap.update a (Obj.putSet (insertAt es p ((TK prog w).hash k, Value.ref b)) t2)).get? a = some { o with data := .set (insertAt es p ((TK prog w).hash k, Value.ref b)) (ep + 1) t2 } := by
   have := Heap.get?_update_self (Obj.putSet (insertAt es p ((TK prog w).hash k, Value.ref b)) t2) ho (by rw [putSet_of _ _ hd]; rfl)
   rw [putSet_of _ _ hd] at this
   exact this
  have sb := Heap.SameBut.update s'.heap a (Obj.putSet (insertAt es p ((TK prog w).hash k, Value.ref b)) t2)
  generalize hh2 : s'.heap.update a (Obj.putSet (insertAt es p ((TK prog w).hash k, Value.ref b)) t2) = h2 at hg sb ⊢
  have T2 : Tab t2 ((xs.take p ++ (k, b) :: xs.drop p).map fun x => (TK prog w).hash x.1) := by
   rw [List.map_append, List.map_cons, List.map_take, List.map_drop]
   exact T'
  have is2 : ∀ x ∈ xs.take p ++ (k, b) :: xs.drop p, (TK prog w).is h2 x.1 x.2 := fun x hx => by
   rcases (mem x).mp hx with z | z
   ·subst z; exact ie hk ho hex.1 sb
   ·exact ie (his' x z) ho hex.1 sb
  by_cases tf : t2.tooFull = true
  ·rw [if_pos (by simp [tf])]
   refine wpAny_bind (vG (s := { s' with heap := h2 }) (xs := xs.take p ++ (k, b) :: xs.drop p) hg hex rfl isz T2 hpq is2 nd2 ?_ (by omega) (by omega) fun h3 ys sb3 S3 yl ym => ?_)
   ·rw [hlen, sz]
    unfold SetTable.grown
    rw [if_neg (by omega)]
    omega
   ·refine wpAny_pure (back h3 true (hQ h3 ys true (by rw [<- hh]; exact sb.trans sb3) S3 ?_ (keyiff ys ym) fun y hy => ?_))
    ·omega
    ·rcases (mem y).mp ((ym y).mp hy) with q | q
     ·exact .inr q
     ·exact .inl q
  ·rw [if_neg (by simp [tf])]
   refine wpAny_pure (back h2 true (hQ h2 _ true (by rw [<- hh]; exact sb) ⟨⟨_, _, ep + 1, t2, hg, hex, rfl, isz, T2, hpq, ?_, by rw [pm]; exact hma⟩, is2, nd2⟩ (by omega) (keyiff _ fun _ => Iff.rfl) fun y hy => ?_))
   ·have tf' : t2.tooFull = false := by simpa using tf
    unfold SetTable.tooFull SetTable.fill at tf'
    rw [T2.dum] at tf'
    simp at tf'
    omega
   ·rcases (mem y).mp hy with q | q
    ·exact .inr q
    ·exact .inl q
end
end SW
namespace SW
open PySem PySem.SetTable ST
theorem ic : entryFor table "set.update.loop" = some Builtin.«set.update.loop» := entryFor_of_tree (by kernel_rfl)
theorem dQ : plainId "set.update.loop" = true := by decide +kernel
section
variable {prog : Program} {w : World} {A : Around} {E : Value -> Shared -> Prop} {s : Shared}
theorem iW {h h' : Heap} {b : Addr} {k : List Int} (hk : (TK prog w).is h k b) (e : ∀ o, h.get? b = some o -> h'.get? b = some o) : (TK prog w).is h' k b := by
 obtain ⟨o', items, n, ho', r⟩ := hk
 exact ⟨o', items, n, e o' ho', r⟩
theorem key_ne {h : Heap} {a b : Addr} {k : List Int} {o : Obj} {T : String} (hk : (TK prog w).is h k b) (ho : h.get? a = some o) (hc : o.cls = .type T) (hT : T ≠ "tuple") : b ≠ a := fun e => by
 subst e
 obtain ⟨o', items, n, ho', hc', _⟩ := hk
 rw [ho] at ho'
 cases ho'
 rw [hc] at hc'
 injection hc' with z
 exact hT z
theorem fK.ext {h h' : Heap} {a : Addr} {xs : List (List Int × Addr)} (S : fK prog w h a xs) (e : ∀ o, h.get? a = some o -> h'.get? a = some o) (hk : ∀ x ∈ xs, (TK prog w).is h' x.1 x.2) : fK prog w h' a xs := by
 obtain ⟨⟨o, es, ep, t, ho, r⟩, _, nd⟩ := S
 exact ⟨⟨o, es, ep, t, e o ho, r⟩, hk, nd⟩
theorem xM {a I l : Addr} {items : Array Value} {R : Result -> Shared -> Prop} (hh : A.handled = none) (hu : A.in1.units < cLine) (haI : a ≠ I) (hal : a ≠ l) (hlI : l ≠ I) (hn : items.size <= 900) (ks : Nat -> List Int) :
  ∀ (m i : Nat) (s : Shared) (xs : List (List Int × Addr)), items.size - i = m -> i <= items.size -> (s.heap.IsListIter I l i /\ s.heap.IsList l items) -> fK prog w s.heap a xs -> xs.length <= i →
   (∀ (j : Nat) (v : Value), items[j]? = some v -> ∃ c, v = .ref c /\ (TK prog w).is s.heap (ks j) c) -> (∀ k, k ∈ xs.map (·.1) ↔ ∃ j, j < i /\ k = ks j) -> (∀ x ∈ xs, ∃ j, j < i /\ items[j]? = some (.ref x.2)) →
   (∀ h' tk ys, (∀ b o, b ≠ a -> b ≠ I -> s.heap.get? b = some o -> h'.get? b = some o) -> fK prog w h' a ys -> ys.length <= items.size -> (∀ k, k ∈ ys.map (·.1) ↔ ∃ j, j < items.size /\ k = ks j) -> (∀ x ∈ ys, ∃ j, j < items.size /\ items[j]? = some (.ref x.2)) →
    R (.ok (.ret .none)) { s with heap := h', toks := tk }) -> codeAny (model prog w) A (.builtin "set.update.loop" ⟨[.ref a, .ref I], []⟩) R s := by
 have W := Walks.list (prog := prog) (w := w) (A := A.in1) (show A.in1.handled = none from hh) I l hlI items
 intro m
 induction m with
 | zero =>
  intro i s xs hm hi st S hx hk hks hxi hR
  have e : i = items.size := by omega
  subst e
  refine codeAny_builtin ic ?_
  rw [Around.under_plainId dQ _]
  show wpAny _ A.in1 (pyNext (.ref I) >>= _) _ _ s
  refine wpAny_bind (W.done s _ _ st fun h' tk kp => ?_)
  obtain ⟨⟨o, ho, hc, _⟩, _⟩ := st
  have kp' : ∀ b o, b ≠ I -> s.heap.get? b = some o -> h'.get? b = some o := fun b o hb e => kp b o (by simpa using hb) e
  refine wpAny_pure (hR h' tk xs (fun b o _ hb e => kp' b o hb e) (S.ext (fun o e => kp' a o haI e) fun x hx' => ?_) hx hks hxi)
  exact iW (S.is_ x hx') fun o' e => kp' _ o' (key_ne (S.is_ x hx') ho hc (by decide)) e
 | succ m ih =>
  intro i s xs hm hi st S hx hk hks hxi hR
  have hlt : i < items.size := by omega
  refine codeAny_builtin ic ?_
  rw [Around.under_plainId dQ _]
  show wpAny _ A.in1 (pyNext (.ref I) >>= _) _ _ s
  refine wpAny_bind (W.item i s _ _ hlt st fun v h' tk hv st' kp => ?_)
  obtain ⟨⟨o, ho, hc, _⟩, _⟩ := id st
  have kp' : ∀ b o, b ≠ I -> s.heap.get? b = some o -> h'.get? b = some o := fun b o hb e => kp b o (by simpa using hb) e
  have up : ∀ {k : List Int} {c : Addr}, (TK prog w).is s.heap k c -> (TK prog w).is h' k c := fun q => iW q fun o' e => kp' _ o' (key_ne q ho hc (by decide)) e
  have S' : fK prog w h' a xs := S.ext (fun o e => kp' a o haI e) fun x hx' => up (S.is_ x hx')
  obtain ⟨c, rfl, hkc⟩ := hk i v hv
  show wpAny _ A.in1 (holding [.ref c] (setAdd a (.ref c)) >>= _) _ _ _
  refine wpAny_bind (wpAny_holding (zC (s := { s with heap := h', toks := tk }) hu S' (up hkc) (by omega) fun h2 ys b' sb S2 yl km ym => ?_))
  obtain ⟨⟨o2, _, _, _, ho2, hex2, _⟩, _, _⟩ := id S'
  have up2 : ∀ {k : List Int} {c : Addr}, (TK prog w).is h' k c -> (TK prog w).is h2 k c := fun q => ie q ho2 hex2.1 sb
  have st2 : h2.IsListIter I l (i + 1) /\ h2.IsList l items := W.frame _ _ _ st' fun b hb o e => by
   refine sb.extBut b o (fun q => ?_) e
   subst q
   simp only [List.mem_cons, List.not_mem_nil, or_false] at hb
   rcases hb with z | z
   ·exact haI z
   ·exact hal z
  refine wpAny_pure ⟨plainId_quiet dQ _, ih (i + 1) _ ys (by omega) hlt st2 S2 (by omega) (fun j v hj => ?_) (fun k => ?_) (fun x hx' => ?_) fun h3 tk3 zs kp3 S3 zl zk zi => ?_⟩
  ·obtain ⟨c', e, q⟩ := hk j v hj
   exact ⟨c', e, up2 (up q)⟩
  ·rw [km k, hks k]
   constructor
   ·rintro (⟨j, hj, e⟩ | e)
    ·exact ⟨j, by omega, e⟩
    ·exact ⟨i, by omega, e⟩
   ·rintro ⟨j, hj, e⟩
    by_cases z : j < i
    ·exact .inl ⟨j, z, e⟩
    ·have : j = i := by omega
     subst this
     exact .inr e
  ·rcases ym x hx' with z | z
   ·obtain ⟨j, hj, e⟩ := hxi x z
    exact ⟨j, by omega, e⟩
   ·subst z
    exact ⟨i, by omega, hv⟩
  ·exact hR h3 tk3 zs (fun b o h1 h2' e => kp3 b o h1 h2' (sb.extBut b o h1 (kp' b o h2' e))) S3 zl zk zi
end
end SW
namespace SW
open PySem PySem.SetTable ST
theorem nU (a : Value) : checkTypeCall "set" ⟨[a], []⟩ = pure () := by kernel_rfl
theorem oA (a : Value) : checkBuiltinCall "set.__new__" ⟨[.type "set", a], []⟩ = pure () := by kernel_rfl
section
variable {prog : Program} {w : World} {A : Around} {E : Value -> Shared -> Prop} {s : Shared}
theorem nQ (a : Value) {Q₁ : Value -> Shared -> Prop}
  (h : ∀ led : Bool, led = (!w.params.followText "set-order") -> Q₁ (.ref s.heap.objs.size) { s with heap := s.heap.push { cls := .type "set", dict := none, data := .set #[] 0 (.fresh 0 0 led) } }) :
  codeAny (model prog w) A (.call (.builtin "set.__new__") ⟨[.type "set", a], []⟩) (wants Q₁ E) s := by
 refine codeAny_of_tree ?_
 show wpAny _ A.in1 (do checkBuiltinCall "set.__new__" ⟨[.type "set", a], []⟩; again (.builtin "set.__new__" ⟨[.type "set", a], []⟩)) _ _ s
 refine wpAny_bind (wpAny_of_eq (oA a) (wpAny_pure ⟨plainId_quiet F.plain_set_new _, codeAny_builtin F.entry_set_new ?_⟩)); rw [Around.under_plainId F.plain_set_new _]
 unfold Builtin.«set.__new__» Builtin.Frozenset.newClass; have hsub := sub_set_self; obtain ⟨hp, g, d, tk, os⟩ := s
 dsimp only; wp_walk; refine wpAny_askSetting (wpAny_pure ?_); dsimp only; simp only [newObj]; refine wpAny_bind (wpAny_alloc (wpAny_pure ?_))
 exact wpAny_pure (h _ rfl)
theorem qz {M : Model} {self x : Value} {Q : Unit -> Shared -> Prop} (hT : s.TypeIs self "set") (hQ : Q () s) : wpAny M A (checkBuiltinCall "set.__init__" ⟨[self, x], []⟩) Q E s := by
 simp only [checkBuiltinCall, kind_set_init, split_set_init, sig_set_init]; refine wpAny_bind (wpAny_isInstance hT sub_set_self ?_)
 simp only [Bool.not_true, Bool.false_eq_true, if_false]; unfold Bind.checkArgs; dsimp only
 refine wpAny_bind (m := Bind.printed "set" true _ _) (PyProof.Rows.printed_name (by decide) ?_); refine wpAny_bind (m := Bind.printed "*" false _ _) (PyProof.Rows.printed_star (self := self) rfl hT fun short => ?_)
 have hrn : (Manifest.Receiver.self == Manifest.Receiver.none) = false := by decide
 rw [show (if (Manifest.Receiver.self == Manifest.Receiver.none) = true then [self, x].length else [self, x].length - 1) = 1 by simp [hrn]]
 simp only [List.map_nil]
 rw [show Bind.check ⟨.positional, "set", "*", .self, [⟨"iterable", .posOnly, false⟩]⟩ "set" short 1 [] = pure () by (simp [Bind.check, Bind.checkCount, Bind.isPositional]; intro z; exact absurd z (by decide))]
 exact wpAny_pure hQ
set_option maxHeartbeats 1000000 in
theorem m7 {x : Value} {Q : Value -> Shared -> Prop} (h : ∀ led : Bool, led = (!w.params.followText "set-order") -> wpAny (model prog w) A.in1.in1 (Builtin.«set.__init__» ⟨[.ref s.heap.objs.size, x], []⟩)
   (fun fin s' => match fin with | .done f => wants (fun r s₂ => r = .none /\ Q (.ref s.heap.objs.size) s₂) E (.ok f) s' | .again c' => c'.quiet = true /\ codeAny (model prog w) A.in1 c' (wants (fun r s₂ => r = .none /\ Q (.ref s.heap.objs.size) s₂) E) s')
   (fun e s' => wants (fun r s₂ => r = .none /\ Q (.ref s.heap.objs.size) s₂) E (.error e) s') { s with heap := s.heap.push { cls := .type "set", dict := none, data := .set #[] 0 (.fresh 0 0 led) } }) :
  wpAny (model prog w) A (call (.type "set") [x]) Q E s := by
 obtain ⟨c, tl, hmro⟩ := F.called_set.mro; have hmade := F.called_set.made; have hsub := F.called_set.sub
 refine wpAny_call (codeAny_of_tree ?_); show wpAny _ _ (callAny (.type "set") _) _ _ _
 refine wpAny_pure ⟨Code.quiet_builtin _ (by decide +kernel), codeAny_builtin F.entry_type_call ?_⟩; rw [Around.under_plain (weight_type_call_type "set" [x] []) rfl]
 have h1 := F.called_set.notType; have h2 := F.called_set.canCreate; have hct := nU x
 repeat (any_goals (first | assumption | wp_step))
 refine codeAny_mono (nQ (E := E) x (Q₁ := fun obj s₁ => ∃ led : Bool, led = (!w.params.followText "set-order") /\ obj = .ref s.heap.objs.size /\ s₁ = { s with heap := s.heap.push { cls := .type "set", dict := none, data := .set #[] 0 (.fresh 0 0 led) } }) fun led hle => ⟨led, hle, rfl, rfl⟩) fun r s₁ hr => ?_
 cases r with
 | error e => exact hr
 | ok fl =>
  cases fl with
  | ret obj =>
   obtain ⟨led, hle, rfl, rfl⟩ := hr
   have hT : Shared.TypeIs { s with heap := s.heap.push { cls := .type "set", dict := none, data := .set #[] 0 (.fresh 0 0 led) } } (.ref s.heap.objs.size) "set" := ⟨_, Heap.get?_push_size _ rfl, rfl⟩
   have hli := F.called_set.init.lookup; have hbi := F.called_set.init.bind (.ref s.heap.objs.size)
   repeat (any_goals (first | assumption | wp_step))
   refine codeAny_mono (codeAny_call_builtin (R := wants (fun r s₂ => r = .none /\ Q (.ref s.heap.objs.size) s₂) E) F.called_set.init.plain F.entry_set_init (qz hT (h led hle))) fun r₂ s₂ hr₂ => ?_
   cases r₂ with
   | error e => exact hr₂
   | ok fl₂ =>
    cases fl₂ with
    | ret r =>
     obtain ⟨rfl, hq⟩ := hr₂
     repeat (any_goals (first | assumption | wp_step))
    | _ => exact hr₂.elim
  | _ => exact hr.elim
theorem qK (led : Bool) (hle : led = !w.params.followText "set-order") : fK prog w (s.heap.push { cls := .type "set", dict := none, data := .set #[] 0 (.fresh 0 0 led) }) s.heap.objs.size [] := by
 refine ⟨⟨_, #[], 0, _, Heap.get?_push_size _ rfl, ⟨rfl, rfl, rfl⟩, rfl, rfl, ?_, ⟨rfl, hle⟩, by show 0 * 5 < 7 * 3; decide, by show 7 <= 8191; decide⟩, by simp, by simp⟩
 refine ⟨⟨2, rfl⟩, fun a b _ hb => absurd hb (Nat.not_lt_zero _), (fun x hx => by cases hx), rfl, rfl, Nat.zero_le _, fun a x h hx => ?_⟩
 have : (#[] : Array Nat)[a]? = some x := hx
 simp at this
theorem tW : isSubtype (.type "list") (.type "set") = pure false := by rw [isSubtype_type]; kernel_rfl
theorem uz : isSubtype (.type "list") (.type "frozenset") = pure false := by rw [isSubtype_type]; kernel_rfl
theorem call_set_list {l : Addr} {items : Array Value} {Q : Value -> Shared -> Prop} (hh : A.handled = none) (hu : A.in1.in1.in1.units < cLine) (hl : s.heap.IsList l items) (hn : items.size <= 900) (ks : Nat -> List Int)
  (hk : ∀ (j : Nat) (v : Value), items[j]? = some v -> ∃ c, v = .ref c /\ (TK prog w).is s.heap (ks j) c)
  (hQ : ∀ h' tk ys, (∀ b o, s.heap.get? b = some o -> h'.get? b = some o) -> fK prog w h' s.heap.objs.size ys -> ys.length <= items.size -> (∀ k, k ∈ ys.map (·.1) ↔ ∃ j, j < items.size /\ k = ks j) -> (∀ x ∈ ys, ∃ j, j < items.size /\ items[j]? = some (.ref x.2)) →
   Q (.ref s.heap.objs.size) { s with heap := h', toks := tk }) : wpAny (model prog w) A (call (.type "set") [.ref l]) Q E s := by
 refine m7 fun led hle => ?_
 have hS : (s.heap.push { cls := .type "set", dict := none, data := .set #[] 0 (.fresh 0 0 led) }).get? s.heap.objs.size = some { cls := .type "set", dict := none, data := .set #[] 0 (.fresh 0 0 led) } := Heap.get?_push_size _ rfl
 have hT : Shared.TypeIs { s with heap := s.heap.push { cls := .type "set", dict := none, data := .set #[] 0 (.fresh 0 0 led) } } (.ref s.heap.objs.size) "set" := ⟨_, hS, rfl⟩
 have ll : l < s.heap.objs.size := by obtain ⟨o, ho, _⟩ := hl; exact Heap.lt_size ho
 have hT2 : Shared.TypeIs { s with heap := s.heap.push { cls := .type "set", dict := none, data := .set #[] 0 (.fresh 0 0 led) } } (.ref l) "list" := by
  obtain ⟨o, ho, hc, _⟩ := hl
  exact ⟨o, Heap.get?_push_of_some _ ho, hc⟩
 have S0 := qK (prog := prog) (w := w) (s := s) led hle
 have hl1 : (s.heap.push { cls := .type "set", dict := none, data := .set #[] 0 (.fresh 0 0 led) }).IsList l items := hl.push _
 have sz1 : (s.heap.push { cls := .type "set", dict := none, data := .set #[] 0 (.fresh 0 0 led) }).objs.size = s.heap.objs.size + 1 := Heap.size_push ..
 have kp1 : ∀ b o, s.heap.get? b = some o -> (s.heap.push { cls := .type "set", dict := none, data := .set #[] 0 (.fresh 0 0 led) }).get? b = some o := fun b o e => Heap.get?_push_of_some _ e
 unfold Builtin.«set.__init__» noKeywords
 wp_walk
 refine wpAny_of_eq tW ?_
 show wpAny _ _ (isInstance (.ref l) (.type "frozenset")) _ _ _
 refine wpAny_isInstance hT2 uz ?_
 simp only [Bool.false_eq_true, if_false]
 refine wpAny_bind (wpAny_typeOf hT2 ?_)
 rw [if_neg (by decide)]
 generalize s.heap.push { cls := .type "set", dict := none, data := .set #[] 0 (.fresh 0 0 led) } = h1 at *
 refine wpAny_bind (wpAny_pyIter_list hl1 ?_)
 refine wpAny_bind (wpAny_runValue ?_)
 have ne1 : s.heap.objs.size ≠ h1.objs.size := by omega
 refine xM (A := A.in1.in1) (I := h1.objs.size) (l := l) (items := items) hh hu ne1 (Nat.ne_of_gt ll) (Nat.ne_of_lt (by rw [sz1]; exact Nat.lt_succ_of_lt ll)) hn ks items.size 0 { s with heap := h1.push { cls := .type "list_iterator", data := .fields #[.ref l, .int 0 0] } } [] (by omega) (Nat.zero_le _) ⟨⟨_, Heap.get?_push_size _ rfl, rfl, rfl⟩, hl1.push _⟩ (S0.ext (fun o e => Heap.get?_push_of_some _ e) (by simp)) (Nat.le_refl _) (fun j v hj => ?_) (by simp) (by simp) fun h' tk ys kp S yl yk yi => ?_
 ·obtain ⟨c, e, q⟩ := hk j v hj
  exact ⟨c, e, iW q fun o e => Heap.get?_push_of_some _ (kp1 c o e)⟩
 ·refine wpAny_pure (wpAny_pure ⟨rfl, hQ h' tk ys (fun b o e => ?_) S yl yk yi⟩)
  have lb : b < s.heap.objs.size := Heap.lt_size e
  exact kp b o (Nat.ne_of_lt lb) (Nat.ne_of_lt (by rw [sz1]; exact Nat.lt_succ_of_lt lb)) (Heap.get?_push_of_some _ (kp1 b o e))
end
end SW
namespace SW
open PySem PySem.SetTable ST
theorem l6 {α : Type} : ∀ (l : List α) (i : Nat) (h : i < l.length), (l[i] :: l.eraseIdx i).Perm l
 | [], _, h => absurd h (Nat.not_lt_zero _)
 | x :: l, 0, _ => List.Perm.refl _
 | x :: l, i + 1, h => by
  have r := l6 l i (by simpa using h)
  show (l[i]'(by simpa using h) :: x :: l.eraseIdx i).Perm (x :: l)
  exact (List.Perm.swap x _ _).trans (List.Perm.cons x r)
theorem rn {α : Type} (next : Nat -> Nat) : ∀ (fuel k : Nat) (left : List α) (out : Array α), left.length = fuel -> (pickOrder.go next fuel k left out).toList.Perm (out.toList ++ left)
 | 0, k, left, out, e => by
  have : left = [] := List.length_eq_zero_iff.mp e
  subst this
  simp [pickOrder.go]
 | fuel + 1, k, left, out, e => by
  have hp : 0 < left.length := by omega
  have hm : next k % left.length < left.length := Nat.mod_lt _ hp
  unfold pickOrder.go
  rw [List.getElem?_eq_getElem hm]
  dsimp only
  have r := rn next fuel (k + 1) (left.eraseIdx (next k % left.length)) (out.push left[next k % left.length]) (by rw [List.length_eraseIdx, if_pos hm]; omega)
  refine r.trans ?_
  rw [Array.toList_push, List.append_assoc]
  exact (List.perm_append_left_iff _).mpr (l6 left _ hm)
theorem vc {α : Type} (next : Nat -> Nat) (xs : Array α) : (pickOrder next xs).toList.Perm xs.toList := by
 have := rn next xs.size 0 xs.toList #[] (by simp)
 simpa [pickOrder] using this
theorem tu {xs : Array Nat} (hr : fU xs) : below xs 0 = 0 := by
 obtain ⟨h1, h2, h3⟩ := fY hr 0
 rcases Nat.eq_zero_or_pos (below xs 0) with z | z
 ·exact z
 ·have := h2 0 z; omega
theorem tF {xs : Array Nat} (hr : fU xs) {a j : Nat} (h : xs[a]? = some j) : below xs (j + 1) = a + 1 := by
 obtain ⟨h1, h2, h3⟩ := fY hr (j + 1)
 obtain ⟨la, ea⟩ := Array.getElem?_eq_some_iff.mp h
 have ga : xs.getD a 0 = j := by simp [Array.getD, la, ea]
 rcases Nat.lt_trichotomy (below xs (j + 1)) (a + 1) with z | z | z
 ·have := h3 a (by omega) la
  omega
 ·exact z
 ·have q := h2 (a + 1) z
  have lb : a + 1 < xs.size := by omega
  have := hr a (a + 1) (by omega) lb
  omega
theorem pq : Manifest.owners.lookup (String.ofList ['r', 'o', 't', 'a', 'r', 'e', 't', 'i', '_', 't', 'e', 's'].reverse) = some Manifest.sig_set_iterator := by kernel_rfl
theorem cu : Slot "set_iterator" "__next__" "set_iterator.__next__" :=
 .of (owner := "set_iterator") (n := "__next__") (by rw [typeLookup_type, builtinLookup_eq_fast]; kernel_rfl) (by decide +kernel) (by decide +kernel) (by decide +kernel) (.inl (by decide +kernel)) (by rw [isSubtype_type]; kernel_rfl)
theorem jK : Slot "set_iterator" "__iter__" "set_iterator.__iter__" :=
 .of (owner := "set_iterator") (n := "__iter__") (by rw [typeLookup_type, builtinLookup_eq_fast]; kernel_rfl) (by decide +kernel) (by decide +kernel) (by decide +kernel) (.inl (by decide +kernel)) (by rw [isSubtype_type]; kernel_rfl)
theorem jz : entryFor table "set_iterator.__next__" = some Builtin.«set_iterator.__next__» := entryFor_of_tree (by kernel_rfl)
theorem nR : entryFor table "set_iterator.__iter__" = some Builtin.«dict_keyiterator.__iter__» := entryFor_alias (id' := "dict_keyiterator.__iter__") (by kernel_rfl) rfl (by decide +kernel) (by kernel_rfl)
theorem pL : entryFor table "set.__iter__" = some Builtin.«frozenset.__iter__» := entryFor_alias (id' := "frozenset.__iter__") (by kernel_rfl) rfl (by decide +kernel) (by kernel_rfl)
theorem jO (a : Value) : argsOk "set_iterator.__next__" ⟨[a], []⟩ := by
 unfold argsOk; rw [signature?_of (id := "set_iterator.__next__") (n := ['_', '_', 't', 'x', 'e', 'n', '_', '_']) (o := ['r', 'o', 't', 'a', 'r', 'e', 't', 'i', '_', 't', 'e', 's']) (by kernel_rfl) pq]; kernel_rfl
theorem oU (a : Value) : argsOk "set_iterator.__iter__" ⟨[a], []⟩ := by
 unfold argsOk; rw [signature?_of (id := "set_iterator.__iter__") (n := ['_', '_', 'r', 'e', 't', 'i', '_', '_']) (o := ['r', 'o', 't', 'a', 'r', 'e', 't', 'i', '_', 't', 'e', 's']) (by kernel_rfl) pq]; kernel_rfl
def cO (w : World) (a : Addr) (es : Array (Int × Value)) (ep : Nat) : Array (Int × Value) := if w.params.followText "set-order" = true then pickOrder (w.params.setOrder a ep) es else es
theorem iG (w : World) (a : Addr) (es : Array (Int × Value)) (ep : Nat) : (cO w a es ep).toList.Perm es.toList := by
 unfold cO
 split
 ·exact vc _ _
 ·exact List.Perm.refl _
theorem iA (w : World) (a : Addr) (es : Array (Int × Value)) (ep : Nat) : (cO w a es ep).size = es.size := by
 have := (iG w a es ep).length_eq
 simpa using this
def mL (w : World) (h : Heap) (I a : Addr) (t : SetTable) (n ep i : Nat) : Prop :=
 ∃ o slot, h.get? I = some o /\ o.cls = .type "set_iterator" /\ o.data = .fields #[.int (slot : Nat) 0, .int (i : Nat) 0, .ref a, .int (n : Nat) 0, .int (ep : Nat) 0] /\ (w.params.followText "set-order" = false -> below t.place slot = i)
section
variable {prog : Program} {w : World} {A : Around} {E : Value -> Shared -> Prop} {s : Shared}
theorem mj {I a : Addr} {t : SetTable} {n ep i : Nat} (x : mL w s.heap I a t n ep i) : s.TypeIs (.ref I) "set_iterator" := by
 obtain ⟨o, _, ho, hc, _⟩ := x
 exact ⟨o, ho, hc⟩
theorem lX {a : Addr} {o : Obj} {es : Array (Int × Value)} {ep slot i : Nat} {t : SetTable} {hs : List Int} {Q : Option (Value × Nat) -> Shared -> Prop} (ho : s.heap.get? a = some o) (hd : o.data = .set es ep t) (T : Tab t hs) (he : hs.length = es.size)
  (hpl : t.plain = true /\ t.led = !w.params.followText "set-order") (hb : w.params.followText "set-order" = false -> below t.place slot = i)
  (hQ : ∀ z, (cO w a es ep)[i]?.map (·.2) = z.map (·.1) -> (∀ p, z = some p -> w.params.followText "set-order" = false -> below t.place p.2 = i + 1) -> Q z s) : wpAny (model prog w) A (setNext a slot i ep) Q E s := by
 have fits : t.fits es.size = true := by rw [<- he]; exact T.fits
 unfold setNext
 refine wpAny_bind (wpAny_setState_of ho hd fits ?_)
 dsimp only
 unfold setsByText
 refine wpAny_bind (wpAny_bind (wpAny_askSetting (wpAny_pure ?_)))
 show wpAny _ _ (if w.params.followText "set-order" = true then _ else _) _ _ _
 by_cases hf : w.params.followText "set-order" = true
 ·rw [if_pos hf]
  simp only [bne_self_eq_false, Bool.false_eq_true, if_false]
  unfold setWalk setsByText
  refine wpAny_bind (wpAny_bind (wpAny_setState_of ho hd fits ?_))
  dsimp only
  refine wpAny_bind (wpAny_bind (wpAny_askSetting (wpAny_pure ?_)))
  show wpAny _ _ (if w.params.followText "set-order" = true then _ else _) _ _ _
  rw [if_pos hf]
  refine wpAny_bind (wpAny_askSetting (wpAny_pure ?_))
  show wpAny _ _ (pure _) _ _ _
  refine wpAny_pure (hQ _ ?_ ?_)
  ·unfold cO
   rw [if_pos hf]
   show _ = Option.map _ (Option.map _ (pickOrder (w.params.setOrder a ep) es)[i]?)
   cases (pickOrder (w.params.setOrder a ep) es)[i]? <;> rfl
  ·intro p _ h
   rw [hf] at h
   cases h
 ·have hf' : w.params.followText "set-order" = false := by simpa using hf
  rw [if_neg hf]
  split
  ·rename_i h
   have h' : (!t.plain && decide (es.size > 1)) = true := h
   rw [hpl.1] at h'
   simp at h'
  ·refine wpAny_bind ?_
   show wpAny _ _ (if (!t.led && !es.isEmpty) = true then unsupported "set:maker-not-led" else pure ()) _ _ _
   rw [if_neg (by rw [hpl.2, hf']; simp)]
   refine wpAny_pure (wpAny_pure (hQ _ ?_ ?_))
   ·unfold cO
    rw [if_neg hf, hb hf']
    cases e : es[i]? with
    | none => rfl
    | some z =>
     have li : i < es.size := (Array.getElem?_eq_some_iff.mp e).1
     have e2 : t.place[i]? = some (t.place[i]'(by rw [T.len, he]; exact li)) := Array.getElem?_eq_getElem _
     rw [e2]
     rfl
   ·intro p hp _
    rw [hb hf'] at hp
    split at hp
    ·rename_i j e
     cases hp
     exact tF T.rise e
    ·cases hp
theorem xQ {I a : Addr} {o : Obj} {es : Array (Int × Value)} {ep i : Nat} {t : SetTable} {hs : List Int} {x : Int × Value} {Q : Option Value -> Shared -> Prop} (ho : s.heap.get? a = some o) (hd : o.data = .set es ep t) (T : Tab t hs) (he : hs.length = es.size)
  (hpl : t.plain = true /\ t.led = !w.params.followText "set-order") (st : mL w s.heap I a t es.size ep i) (hx : (cO w a es ep)[i]? = some x)
  (hQ : ∀ h', mL w h' I a t es.size ep (i + 1) -> Heap.SameBut I s.heap h' -> Q (some x.2) { s with heap := h' }) : wpAny (model prog w) A (pyNext (.ref I)) Q E s := by
 obtain ⟨oi, slot, hoi, hci, hdi, hb⟩ := id st
 have hT := mj st
 have fits : t.fits es.size = true := by rw [<- he]; exact T.fits
 unfold pyNext
 refine wpAny_bind (wpAny_attempt (wpAny_callSpecial?_slot (name := Str.ofString "__next__") hT cu (wpAny_call_entry cu hT jz ?_ (jO _))))
 unfold Builtin.«set_iterator.__next__»
 refine wpAny_bind (m := slotArgs "__next__" 0 ⟨[.ref I], []⟩) (wpAny_pure ?_)
 dsimp only
 refine wpAny_bind (wpAny_fieldsOf hoi hdi ?_)
 dsimp only
 unfold setEntries
 refine wpAny_bind (wpAny_bind (wpAny_setState_of ho hd fits (wpAny_pure ?_)))
 dsimp only
 rw [if_neg (by simp)]
 simp only [Int.toNat_natCast]
 refine wpAny_bind (lX ho hd T he hpl hb fun z hz hn => ?_)
 rw [hx] at hz
 cases z with
 | none => cases hz
 | some p =>
  obtain ⟨v, nx⟩ := p
  have ev : x.2 = v := Option.some.inj hz
  subst ev
  dsimp only
  refine wpAny_bind (wpAny_setField hoi hdi (by simp) ?_)
  have h1 := Heap.get?_update_self (Obj.mapFields (·.setIfInBounds 0 (rawInt (nx : Nat)))) hoi (Obj.isFreed_of_fields (Obj.data_mapFields hdi _))
  have d1 := Obj.data_mapFields hdi (·.setIfInBounds 0 (rawInt (nx : Nat)))
  refine wpAny_bind (wpAny_setField h1 d1 (by simp) ?_)
  refine wpAny_pure ⟨_, rfl, wpAny_pure (hQ _ ⟨_, nx, Heap.get?_update_self _ h1 (Obj.isFreed_of_fields (Obj.data_mapFields d1 _)), (Obj.cls_mapFields ..).trans ((Obj.cls_mapFields ..).trans hci), ?_, hn _ rfl⟩ ((Heap.SameBut.update ..).trans (Heap.SameBut.update ..)))⟩
  rw [Obj.data_mapFields d1]
  simp [rawInt]
theorem yR {I a : Addr} {o : Obj} {es : Array (Int × Value)} {ep i : Nat} {t : SetTable} {hs : List Int} {Q : Option Value -> Shared -> Prop} (hh : A.handled = none) (ho : s.heap.get? a = some o) (hd : o.data = .set es ep t) (T : Tab t hs) (he : hs.length = es.size)
  (hpl : t.plain = true /\ t.led = !w.params.followText "set-order") (st : mL w s.heap I a t es.size ep i) (hx : (cO w a es ep)[i]? = none)
  (hQ : ∀ h', Heap.ExtBut I s.heap h' -> Q none { s with heap := h' }) : wpAny (model prog w) A (pyNext (.ref I)) Q E s := by
 obtain ⟨oi, slot, hoi, hci, hdi, hb⟩ := id st
 have hT := mj st
 have fits : t.fits es.size = true := by rw [<- he]; exact T.fits
 unfold pyNext
 refine wpAny_bind (wpAny_attempt (wpAny_callSpecial?_slot (name := Str.ofString "__next__") hT cu (wpAny_call_entry cu hT jz ?_ (jO _))))
 unfold Builtin.«set_iterator.__next__»
 refine wpAny_bind (m := slotArgs "__next__" 0 ⟨[.ref I], []⟩) (wpAny_pure ?_)
 dsimp only
 refine wpAny_bind (wpAny_fieldsOf hoi hdi ?_)
 dsimp only
 unfold setEntries
 refine wpAny_bind (wpAny_bind (wpAny_setState_of ho hd fits (wpAny_pure ?_)))
 dsimp only
 rw [if_neg (by simp)]
 simp only [Int.toNat_natCast]
 refine wpAny_bind (lX ho hd T he hpl hb fun z hz hn => ?_)
 rw [hx] at hz
 cases z with
 | some p => cases hz
 | none =>
  dsimp only
  refine wpAny_bind (wpAny_setField hoi hdi (by simp) ?_)
  show wpAny _ _ (newExc (.type "StopIteration") [] >>= _) _ _ _
  refine wpAny_bind ?_
  simp only [newExc, newTuple]
  refine wpAny_bind (wpAny_newObj_type ?_ (by size_fits))
  refine wpAny_bind (m := firstArgMember _ _) (wpAny_of_eq (a := Value.none) (by first | rfl | (simp only [firstArgMember]; rfl)) ?_)
  refine wpAny_newObj_type ?_ (by size_fits)
  simp only [raiseNew]
  refine wpAny_bind (wpAny_handled ?_)
  rw [show A.in1.handled = none from hh]
  refine wpAny_bind (wpAny_pure (wpAny_throw ?_))
  refine wpAny_bind (wpAny_isInstance (T := "StopIteration") (b := true) ⟨_, Heap.get?_push_size _ rfl, rfl⟩ isSubtype_stop ?_)
  exact wpAny_pure (hQ _ (((Heap.SameBut.update ..).extBut.push _).push _))
theorem xU {I a : Addr} {t : SetTable} {n ep i : Nat} {Q : Value -> Shared -> Prop} (st : mL w s.heap I a t n ep i) (h : Q (.ref I) s) : wpAny (model prog w) A (pyIter (.ref I)) Q E s := by
 have hT := mj st
 refine wpAny_pyIter_slot hT jK (wpAny_call_entry jK hT nR ?_ (oU _))
 show wpAny _ _ (ret (.ref I)) _ _ s
 exact wpAny_pure ⟨_, rfl, "set_iterator", _, hT, cu.lookup, h⟩
theorem tV (hh : A.handled = none) (I a : Addr) (hne : a ≠ I) {o : Obj} {es : Array (Int × Value)} {ep : Nat} {t : SetTable} {hs : List Int} (hd : o.data = .set es ep t) (T : Tab t hs) (he : hs.length = es.size) (hpl : t.plain = true /\ t.led = !w.params.followText "set-order") :
  Walks prog w A I [I, a] [I] es.size (fun i v => ∃ x, (cO w a es ep)[i]? = some x /\ x.2 = v) (fun i h => mL w h I a t es.size ep i /\ h.get? a = some o) where
 sub := fun b hb => by simp at hb; simp [hb]
 frame := fun _ _ _ st hk => ⟨by obtain ⟨⟨o, sl, ho, r⟩, _⟩ := st; exact ⟨o, sl, hk I (by simp) o ho, r⟩, hk a (by simp) o st.2⟩
 item := fun i s Q E hi st hQ => by
  have lw : i < (cO w a es ep).size := by rw [iA]; exact hi
  refine xQ st.2 hd T he hpl st.1 (Array.getElem?_eq_getElem lw) fun h' st' sb => ?_
  exact hQ _ h' s.toks ⟨_, Array.getElem?_eq_getElem lw, rfl⟩ ⟨st', sb.extBut a o hne st.2⟩ fun b o hb e => sb.extBut b o (fun h => hb (by simp [h])) e
 done := fun s Q E st hQ => yR hh st.2 hd T he hpl st.1 (by rw [Array.getElem?_eq_none]; rw [iA]; exact Nat.le_refl _) fun h' sb => hQ h' s.toks fun b o hb e => sb b o (fun h => hb (by simp [h])) e
 self := fun _ _ _ _ st hQ => xU st.1 hQ
theorem wc {a : Addr} {o : Obj} {es : Array (Int × Value)} {ep : Nat} {t : SetTable} {hs : List Int} {Q : Value -> Shared -> Prop} (ho : s.heap.get? a = some o) (hc : o.cls = .type "set") (hd : o.data = .set es ep t) (T : Tab t hs) (he : hs.length = es.size) (hpl : t.plain = true)
  (hQ : Q (.ref s.heap.objs.size) { s with heap := s.heap.push { cls := .type "set_iterator", data := .fields #[.int 0 0, .int 0 0, .ref a, .int (es.size : Nat) 0, .int (ep : Nat) 0] } }) : wpAny (model prog w) A (pyIter (.ref a)) Q E s := by
 have hT : s.TypeIs (.ref a) "set" := ⟨o, ho, hc⟩
 have fits : t.fits es.size = true := by rw [<- he]; exact T.fits
 refine wpAny_pyIter_slot hT F.slot_set_iter (wpAny_call_entry F.slot_set_iter hT pL ?_ (F.args_set_iter_1 _))
 unfold Builtin.«frozenset.__iter__»
 refine wpAny_bind (m := Builtin.Frozenset.slot0 "__iter__" ⟨[.ref a], []⟩) (wpAny_pure ?_)
 unfold Builtin.Frozenset.sizeOf setEntries setDrawn setEpoch setsByText
 refine wpAny_bind (wpAny_bind (wpAny_bind (wpAny_setState_of ho hd fits (wpAny_pure (wpAny_pure ?_)))))
 refine wpAny_bind (wpAny_bind (wpAny_setState_of ho hd fits ?_))
 dsimp only
 refine wpAny_bind (wpAny_bind (wpAny_askSetting (wpAny_pure (wpAny_pure ?_))))
 split
 ·rename_i h
  have h' : (!(w.params.followText "set-order") && (!t.plain && decide (es.size > 1))) = true := h
  rw [hpl] at h'
  simp at h'
 ·refine wpAny_bind (wpAny_pure ?_)
  refine wpAny_bind (wpAny_bind (wpAny_setState_of ho hd fits (wpAny_pure ?_)))
  unfold newFields
  refine wpAny_bind (wpAny_newObj_type ?_ (by size_fits))
  exact wpAny_pure ⟨_, rfl, "set_iterator", _, ⟨_, Heap.get?_push_size _ rfl, rfl⟩, cu.lookup, hQ⟩
theorem kK {a : Addr} {o : Obj} {es : Array (Int × Value)} {ep : Nat} {t : SetTable} {hs : List Int} {Q : List Value -> Shared -> Prop} (hh : A.handled = none) (ho : s.heap.get? a = some o) (hc : o.cls = .type "set") (hd : o.data = .set es ep t) (T : Tab t hs) (he : hs.length = es.size) (hpl : t.plain = true /\ t.led = !w.params.followText "set-order") (hn : es.size <= 1000)
  (hQ : ∀ s' (acc : List Value), (∀ b o, s.heap.get? b = some o -> s'.heap.get? b = some o) -> s'.gens = s.gens -> s'.drawn = s.drawn -> s'.os = s.os -> s.heap.objs.size <= s'.heap.objs.size -> acc = (cO w a es ep).toList.map (·.2) -> Q acc s') : wpAny (model prog w) A (collect (.ref a)) Q E s := by
 unfold collect
 have la : a < s.heap.objs.size := Heap.lt_size ho
 refine wpAny_bind (wpAny_runValue (codeAny_builtin F.entry_proto_collect ?_))
 rw [Around.under_plainId F.plain_proto_collect _]
 show wpAny _ A.in1 (newList [] >>= fun l => again (.builtin "list.__iadd__" ⟨[l, .ref a], []⟩)) _ _ s
 refine wpAny_bind (wpAny_newObj_type ?_)
 refine wpAny_pure ⟨plainId_quiet F.plain_list_iadd _, codeAny_builtin F.entry_list_iadd ?_⟩
 rw [Around.under_plainId F.plain_list_iadd _]
 show wpAny _ A.in1 (Builtin.List.listExtendWith (.ref s.heap.objs.size) (.ref a) (.ref s.heap.objs.size)) _ _ _
 generalize hH : s.heap.push { cls := .type "list", data := .seq ([] : List Value).toArray } = H
 have hHs : H.objs.size = s.heap.objs.size + 1 := by rw [<- hH, Heap.size_push]
 have ho1 : H.get? a = some o := hH ▸ Heap.get?_push_of_some _ ho
 have hT : Shared.TypeIs { s with heap := H } (.ref a) "set" := ⟨o, ho1, hc⟩
 unfold Builtin.List.listExtendWith
 refine wpAny_bind (wpAny_typeOf hT ?_)
 have h1 : Builtin.List.listSameRef (.ref s.heap.objs.size) (.ref a) = false := by have : s.heap.objs.size ≠ a := Nat.ne_of_gt la; simp [Builtin.List.listSameRef, this]
 have h2 : (Value.type "set" == Value.type "list") = false := by decide
 have h3 : (Value.type "set" == Value.type "tuple") = false := by decide
 simp only [h1, h2, h3, Bool.or_false, Bool.false_eq_true, if_false]
 refine wpAny_bind (wc ho1 hc hd T he hpl.1 ?_)
 generalize hH2 : H.push { cls := .type "set_iterator", data := .fields #[.int 0 0, .int 0 0, .ref a, .int (es.size : Nat) 0, .int (ep : Nat) 0] } = H2
 have hT2 : Shared.TypeIs { s with heap := H2 } (.ref a) "set" := ⟨o, hH2 ▸ Heap.get?_push_of_some _ ho1, hc⟩
 refine wpAny_bind (wpAny_holding ?_)
 unfold Builtin.List.listLengthHint
 refine wpAny_bind (wpAny_specialOf hT2 F.slot_set_len.lookup ?_)
 wp_delta
 refine wpAny_bind (wpAny_isInstance (T := "set") (b := true) hT2 (by rw [isSubtype_type]; kernel_rfl) ?_)
 show wpAny _ A.in1 (typeOf (Value.ref a) >>= _) _ _ _
 refine wpAny_bind (wpAny_typeOf hT2 ?_)
 refine wpAny_pure ?_
 rw [if_pos (by decide)]
 show wpAny _ A.in1 (rule "list.extend.makes-room" >>= fun _ => Builtin.List.listTouch (.ref s.heap.objs.size) >>= fun _ =>
  again (.builtin "list.extend.loop" ⟨[.ref s.heap.objs.size, .ref H.objs.size, .ref s.heap.objs.size], []⟩)) _ _ _
 refine wpAny_bind (wpAny_rule ?_)
 refine wpAny_bind ?_
 show wpAny _ A.in1 (updateSeq s.heap.objs.size (·.push .none) >>= fun _ => updateSeq s.heap.objs.size (·.pop)) _ _ _
 have hS : H2.get? s.heap.objs.size = some { cls := .type "list", data := .seq ([] : List Value).toArray } := hH2 ▸ Heap.get?_push_of_some _ (hH ▸ Heap.get?_push_size _ rfl)
 refine wpAny_bind (wpAny_updateSeq hS rfl ?_)
 have hS₂ := Heap.get?_update_self (Obj.mapSeq (·.push Value.none)) hS rfl
 refine wpAny_updateSeq (hz := by seq_fits) hS₂ rfl ?_
 have hS₃ := Heap.get?_update_self (Obj.mapSeq (·.pop)) hS₂ rfl
 have oth : ∀ b o, b ≠ s.heap.objs.size -> H2.get? b = some o -> ((H2.update s.heap.objs.size (Obj.mapSeq (·.push Value.none))).update s.heap.objs.size (Obj.mapSeq (·.pop))).get? b = some o :=
  fun b o hb e => (Heap.get?_update_other _ _ (Ne.symm hb)).trans ((Heap.get?_update_other _ _ (Ne.symm hb)).trans e)
 have hI : H2.get? H.objs.size = some { cls := .type "set_iterator", data := .fields #[.int 0 0, .int 0 0, .ref a, .int (es.size : Nat) 0, .int (ep : Nat) 0] } := hH2 ▸ Heap.get?_push_size _ rfl
 have nSI : H.objs.size ≠ s.heap.objs.size := by omega
 have naI : a ≠ H.objs.size := Nat.ne_of_lt (by rw [hHs]; exact Nat.lt_succ_of_lt la)
 have hSf : s.heap.objs.size ∉ [H.objs.size, a] := fun hm => by
  rcases List.mem_cons.mp hm with z | z
  ·exact nSI z.symm
  ·exact absurd (List.mem_singleton.mp z) (Nat.ne_of_gt la)
 have W := tV (prog := prog) (w := w) (A := A.in1) hh H.objs.size a naI hd T he hpl
 refine wpAny_pure ⟨plainId_quiet F.plain_extend_loop _, codeAny_extend_loopS W.toS (by rw [sizeLine_eq]; omega) _ hSf _ es.size 0 _ _ _ rfl (Nat.zero_le _)
  ⟨⟨_, 0, oth _ _ nSI hI, rfl, rfl, fun _ => tu T.rise⟩, oth _ _ (Nat.ne_of_lt la) (hH2 ▸ Heap.get?_push_of_some _ ho1)⟩ hS₃ (ItemsOf.nil _) fun s' acc' c' hm hS' hacc => ?_⟩
 show wpAny _ A (load s.heap.objs.size >>= _) _ _ s'
 refine wpAny_bind (wpAny_load hS' ?_)
 have big : ∀ b o, s.heap.get? b = some o -> s'.heap.get? b = some o := fun b ob e => by
  have lb := Heap.lt_size e
  refine hm.heap b ob (fun hb => ?_) (oth _ _ (Nat.ne_of_lt lb) (hH2 ▸ Heap.get?_push_of_some _ (hH ▸ Heap.get?_push_of_some _ e)))
  rcases List.mem_cons.mp hb with z | z
  ·exact absurd lb (z ▸ Nat.lt_irrefl _)
  ·rw [List.mem_singleton.mp z, hHs] at lb; exact absurd lb (Nat.not_lt.mpr (Nat.le_succ _))
 refine wpAny_pure (hQ s' acc'.toList big hm.gens hm.drawn hm.os (Nat.le_of_lt (Heap.lt_size hS')) ?_)
 obtain ⟨q1, q2⟩ := hacc
 apply List.ext_getElem?
 intro j
 rw [Array.getElem?_toList, List.getElem?_map, Array.getElem?_toList]
 by_cases lj : j < es.size
 ·have l1 : j < acc'.size := by omega
  obtain ⟨x, ex, ev⟩ := q2 j _ (Array.getElem?_eq_getElem l1)
  rw [Array.getElem?_eq_getElem l1, ex]
  simp [ev]
 ·rw [Array.getElem?_eq_none (by omega), Array.getElem?_eq_none (by rw [iA]; omega)]
  rfl
end
end SW
namespace SS
open PySem PySem.W PyProof.Rows
def good {α : Type} (r : Nat -> Nat) (n : Nat) (G : α -> Prop) : KasT α -> Prop
 | .ret a => G a
 | .ask i j k => i < n /\ j < n /\ good r n G (k (decide (r i < r j)))
theorem dR {α β : Type} {r : Nat -> Nat} {n : Nat} {G : α -> Prop} {G' : β -> Prop} {f : α -> KasT β} (hf : ∀ a, G a -> good r n G' (f a)) : ∀ t : KasT α, good r n G t -> good r n G' (t.bind f)
 | .ret a, h => hf a h
 | .ask _ _ k, ⟨h1, h2, h3⟩ => ⟨h1, h2, dR hf _ h3⟩
theorem good_mono {α : Type} {r : Nat -> Nat} {n : Nat} {G G' : α -> Prop} (hq : ∀ a, G a -> G' a) : ∀ t : KasT α, good r n G t -> good r n G' t
 | .ret a, h => hq a h
 | .ask _ _ _, ⟨h1, h2, h3⟩ => ⟨h1, h2, good_mono hq _ h3⟩
theorem rE {α : Type} {r : Nat -> Nat} {n : Nat} {G : α -> Prop} {cmp : Nat -> Nat -> (Bool -> Shared -> Prop) -> Shared -> Prop} {s : Shared} {Q : α -> Shared -> Prop} (hc : ∀ i j C, i < n -> j < n -> C (decide (r i < r j)) s -> cmp i j C s) (hq : ∀ a, G a -> Q a s) : ∀ t : KasT α, good r n G t -> t.kasWp cmp Q s
 | .ret a, h => hq a h
 | .ask i j k, ⟨h1, h2, h3⟩ => hc i j _ h1 h2 (rE hc hq _ h3)
section
variable {r : Nat -> Nat} {n : Nat}
def v (r : Nat -> Nat) (p : Array Nat) (k : Nat) : Nat := r (p.getD k 0)
def S (r : Nat -> Nat) (p : Array Nat) (k : Nat) : Prop := ∀ i j, i <= j -> j < k -> v r p i <= v r p j
def D (r : Nat -> Nat) (p : Array Nat) (k : Nat) : Prop := ∀ i j, i <= j -> j < k -> v r p j <= v r p i
structure Ok (n : Nat) (p : Array Nat) : Prop where
 perm : p.Perm (List.toArray (List.range n))
theorem Ok.size {p : Array Nat} (h : Ok n p) : p.size = n := by have := h.perm.size_eq; simpa using this
theorem Ok.lt {p : Array Nat} (h : Ok n p) {k : Nat} (hk : k < n) : p.getD k 0 < n := by
 have hs := h.size
 have e : p.getD k 0 = p[k]'(by omega) := by simp [Array.getD, hs, hk]
 have m : p[k]'(by omega) ∈ p.toList := by simp
 have := (Array.perm_iff_toList_perm.mp h.perm).mem_iff.mp m
 rw [e]
 simpa using this
theorem pQ {p q : Array Nat} {a b : Nat} (h : p[a]? = q[b]?) : v r p a = v r q b := by
 unfold v
 rw [Array.getD_eq_getD_getElem?, Array.getD_eq_getD_getElem?, h]
theorem sC {p : Array Nat} {i j : Nat} (hj : j <= p.size) (k : Nat) : v r (kas_rev p i j) k = if i <= k /\ k < j then v r p (i + j - 1 - k) else v r p k := by
 have h := getElem?_mirror_all (i := i) hj k
 unfold kas_rev
 split
 ·rename_i c
  rw [if_pos c] at h
  exact pQ h
 ·rename_i c
  rw [if_neg c] at h
  exact pQ h
theorem Ok.rev {p : Array Nat} (h : Ok n p) (i j : Nat) : Ok n (kas_rev p i j) := ⟨(mirror_perm p i j _).trans h.perm⟩
theorem Ok.bubble {p : Array Nat} (h : Ok n p) (k d : Nat) : Ok n (PyProof.Rows.bubble p k d) := ⟨(bubble_perm p k d).trans h.perm⟩
theorem o6 {p : Array Nat} {k l : Nat} (hk : k < p.size) (hl : l <= k) (a : Nat) : v r (PyProof.Rows.bubble p k (k - l)) a = if a = l then v r p k else if l < a /\ a <= k then v r p (a - 1) else v r p a := by
 have h := getElem?_bubble hk (k - l) (by omega) a
 rw [show k - (k - l) = l by omega] at h
 split
 ·rename_i c
  rw [if_pos c] at h
  exact pQ h
 ·rename_i c
  rw [if_neg c] at h
  split
  ·rename_i c2
   rw [if_pos c2] at h
   exact pQ h
  ·rename_i c2
   rw [if_neg c2] at h
   exact pQ h
theorem o9 {p : Array Nat} (O : Ok n p) : ∀ (f m : Nat), 1 <= m -> m + f <= n -> S r p m -> good r n (fun m' => m <= m' /\ m' <= m + f /\ S r p m' /\ (m' < m + f -> v r p m' < v r p (m' - 1))) (kas_asc p f m)
 | 0, m, _, _, h => ⟨Nat.le_refl _, Nat.le_refl _, h, fun z => absurd z (Nat.lt_irrefl _)⟩
 | f + 1, m, h1, h2, h => by
  unfold kas_asc
  refine ⟨O.lt (by omega), O.lt (by omega), ?_⟩
  by_cases c : r (p.getD m 0) < r (p.getD (m - 1) 0)
  ·simp only [c, decide_true, if_true]
   exact ⟨Nat.le_refl _, by omega, h, fun _ => c⟩
  ·simp only [c, decide_false, Bool.false_eq_true, if_false]
   have h' : S r p (m + 1) := fun i j hij hj => by
    rcases Nat.lt_or_ge j m with z | z
    ·exact h i j hij z
    ·have : j = m := by omega
     subst this
     rcases Nat.lt_or_ge i j with y | y
     ·have := h i (j - 1) (by omega) (by omega)
      have c' : v r p (j - 1) <= v r p j := Nat.le_of_not_lt c
      omega
     ·have : i = j := by omega
      subst this
      exact Nat.le_refl _
   exact good_mono (fun m' ⟨a1, a2, a3, a4⟩ => ⟨by omega, by omega, a3, fun z => a4 (by omega)⟩) _ (o9 O f (m + 1) (by omega) (by omega) h')
theorem v_eq {p : Array Nat} {i j : Nat} (hj : j <= p.size) (h : ∀ a, i <= a -> a < j -> v r p a = v r p (j - 1)) (k : Nat) : v r (kas_rev p i j) k = v r p k := by
 rw [sC hj]
 split
 ·rename_i c
  rw [h k c.1 c.2, h (i + j - 1 - k) (by omega) (by omega)]
 ·rfl
theorem D.cong {p q : Array Nat} {k : Nat} (e : ∀ a, v r q a = v r p a) (h : D r p k) : D r q k := fun i j a b => by rw [e, e]; exact h i j a b
theorem kc : ∀ (f : Nat) (p : Array Nat) (m q : Nat), Ok n p -> m + f <= n -> q + 1 <= m -> D r p m -> (∀ a, m - (q + 1) <= a -> a < m -> v r p a = v r p (m - 1)) →
  good r n (fun z => Ok n z.1 /\ m <= z.2.1 /\ z.2.1 <= m + f /\ D r z.1 z.2.1 /\ z.2.2 + 1 <= z.2.1 /\ ∀ a, z.2.1 - (z.2.2 + 1) <= a -> a < z.2.1 -> v r z.1 a = v r z.1 (z.2.1 - 1)) (kas_desc f p m q)
 | 0, p, m, q, O, _, hq, hd, he => ⟨O, Nat.le_refl _, Nat.le_refl _, hd, hq, he⟩
 | f + 1, p, m, q, O, hm, hq, hd, he => by
  have os := O.size
  unfold kas_desc
  refine ⟨O.lt (by omega), O.lt (by omega), ?_⟩
  have up : v r p m <= v r p (m - 1) -> D r p (m + 1) := fun c i j hij hj => by
   rcases Nat.lt_or_ge j m with z | z
   ·exact hd i j hij z
   ·have : j = m := by omega
    subst this
    rcases Nat.lt_or_ge i j with y | y
    ·have := hd i (j - 1) (by omega) (by omega)
     omega
    ·have : i = j := by omega
     subst this
     exact Nat.le_refl _
  by_cases c : r (p.getD m 0) < r (p.getD (m - 1) 0)
  ·simp only [c, decide_true, if_true]
   have h1 : D r p (m + 1) := up (Nat.le_of_lt c)
   split
   ·have e := v_eq (r := r) (p := p) (i := m - (q + 1)) (j := m) (by omega) he
    exact good_mono (fun z ⟨a1, a2, a3, a4, a5, a6⟩ => ⟨a1, by omega, by omega, a4, a5, a6⟩) _ (kc f (kas_rev p (m - (q + 1)) m) (m + 1) 0 (O.rev _ _) (by omega) (by omega) (h1.cong e) fun a h2 h3 => by
     have : a = m := by omega
     subst this
     rfl)
   ·exact good_mono (fun z ⟨a1, a2, a3, a4, a5, a6⟩ => ⟨a1, by omega, by omega, a4, a5, a6⟩) _ (kc f p (m + 1) 0 O (by omega) (by omega) h1 fun a h2 h3 => by
     have : a = m := by omega
     subst this
     rfl)
  ·simp only [c, decide_false, Bool.false_eq_true, if_false]
   refine ⟨O.lt (by omega), O.lt (by omega), ?_⟩
   by_cases c2 : r (p.getD (m - 1) 0) < r (p.getD m 0)
   ·simp only [c2, decide_true, if_true]
    exact ⟨O, Nat.le_refl _, Nat.le_add_right _ _, hd, hq, he⟩
   ·simp only [c2, decide_false, Bool.false_eq_true, if_false]
    have ee : v r p m = v r p (m - 1) := by unfold v; omega
    exact good_mono (fun z ⟨a1, a2, a3, a4, a5, a6⟩ => ⟨a1, by omega, by omega, a4, a5, a6⟩) _ (kc f p (m + 1) (q + 1) O (by omega) (by omega) (up (Nat.le_of_eq ee)) fun a h2 h3 => by
     rcases Nat.lt_or_ge a m with z | z
     ·rw [he a (by omega) z]; exact ee.symm
     ·have : a = m := by omega
      subst this
      rfl)
theorem qD {p : Array Nat} {m : Nat} (O : Ok n p) (h1 : 1 <= m) (hm : m <= n) (hd : D r p m) : good r n (fun z => Ok n z.2 /\ 1 <= z.1 /\ z.1 <= n /\ S r z.2 z.1) (kas_tail3 m n p) := by
 have os := O.size
 unfold kas_tail3
 have hs : S r (kas_rev p 0 m) m := fun i j hij hj => by
  rw [sC (by omega), sC (by omega), if_pos (by omega), if_pos (by omega)]
  exact hd _ _ (by omega) (by omega)
 refine dR (fun m' ⟨a1, a2, a3, _⟩ => ?_) _ (o9 (O.rev 0 m) (n - m) m h1 (by omega) hs)
 exact ⟨O.rev _ _, Nat.le_trans h1 a1, Nat.le_trans a2 (by omega), a3⟩
theorem qM {p : Array Nat} {m : Nat} (O : Ok n p) (hm : m + 1 <= n) (hd : D r p (m + 1)) : good r n (fun z => Ok n z.2 /\ 1 <= z.1 /\ z.1 <= n /\ S r z.2 z.1) (kas_descPart m n p) := by
 unfold kas_descPart
 refine dR (fun z ⟨a1, a2, a3, a4, a5, a6⟩ => ?_) _ (kc (n - (m + 1)) p (m + 1) 0 O (by omega) (by omega) hd fun a h2 h3 => by
  have : a = m := by omega
  subst this
  rfl)
 have os := a1.size
 split
 ·exact qD (a1.rev _ _) (by omega) (by omega) (a4.cong (v_eq (by omega) a6))
 ·exact qD a1 (by omega) (by omega) a4
theorem wx {p : Array Nat} (O : Ok n p) (hn : 1 <= n) : good r n (fun z => Ok n z.2 /\ 1 <= z.1 /\ z.1 <= n /\ S r z.2 z.1) (kas_count n p) := by
 have os := O.size
 unfold kas_count
 refine dR (fun m ⟨a1, a2, a3, a4⟩ => ?_) _ (o9 (r := r) O (n - 1) 1 (Nat.le_refl _) (by omega) fun i j hij hj => by
  have : i = j := by omega
  subst this
  exact Nat.le_refl _)
 split
 ·rename_i c
  have c' : m = n := by simpa using c
  exact ⟨O, a1, by omega, a3⟩
 ·rename_i c
  have c' : m ≠ n := by simpa using c
  have lt := a4 (by omega)
  split
  ·refine ⟨O.lt (by omega), O.lt (by omega), ?_⟩
   by_cases c2 : r (p.getD 0 0) < r (p.getD (m - 1) 0)
   ·simp only [c2, decide_true, if_true]
    exact ⟨O, a1, by omega, a3⟩
   ·simp only [c2, decide_false, Bool.false_eq_true, if_false]
    have eq : ∀ a, 0 <= a -> a < m -> v r p a = v r p (m - 1) := fun a _ ha => by
     have h1 := a3 0 a (by omega) ha
     have h2 := a3 a (m - 1) (by omega) (by omega)
     have h3 : v r p (m - 1) <= v r p 0 := Nat.le_of_not_lt c2
     omega
    have e := v_eq (r := r) (p := p) (i := 0) (j := m) (by omega) eq
    refine qM (O.rev _ _) (by omega) fun i j hij hj => ?_
    rw [e, e]
    rcases Nat.lt_or_ge j m with z | z
    ·rw [eq i (by omega) (by omega), eq j (by omega) z]
     exact Nat.le_refl _
    ·have : j = m := by omega
     subst this
     rcases Nat.lt_or_ge i j with y | y
     ·rw [eq i (by omega) y]; exact Nat.le_of_lt lt
     ·have : i = j := by omega
      subst this
      exact Nat.le_refl _
  ·have m1 : m = 1 := by omega
   subst m1
   refine qM O (by omega) fun i j hij hj => ?_
   rcases Nat.lt_or_ge i j with y | y
   ·have e1 : i = 0 := by omega
    have e2 : j = 1 := by omega
    subst e1 e2
    exact Nat.le_of_lt lt
   ·have : i = j := by omega
    subst this
    exact Nat.le_refl _
theorem lg {p : Array Nat} {k : Nat} (O : Ok n p) (hk : k < n) (hs : S r p k) : ∀ (f l h : Nat), l <= h -> h <= k -> h - l <= f -> (∀ a, a < l -> v r p a <= v r p k) -> (∀ a, h <= a -> a < k -> v r p k <= v r p a) →
  good r n (fun l' => l' <= k /\ (∀ a, a < l' -> v r p a <= v r p k) /\ ∀ a, l' <= a -> a < k -> v r p k <= v r p a) (kas_place p k f l h)
 | 0, l, h, h1, h2, h3, h4, h5 => by
  have : l = h := by omega
  subst this
  exact ⟨h2, h4, h5⟩
 | f + 1, l, h, h1, h2, h3, h4, h5 => by
  unfold kas_place
  split
  ·have : l = h := by omega
   subst this
   exact ⟨h2, h4, h5⟩
  ·refine ⟨O.lt (by omega), O.lt (by omega), ?_⟩
   by_cases c : r (p.getD k 0) < r (p.getD ((l + h) / 2) 0)
   ·simp only [c, decide_true, if_true]
    refine lg O hk hs f l ((l + h) / 2) (by omega) (by omega) (by omega) h4 fun a ha1 ha2 => ?_
    have := hs ((l + h) / 2) a ha1 ha2
    have c' : v r p k < v r p ((l + h) / 2) := c
    omega
   ·simp only [c, decide_false, Bool.false_eq_true, if_false]
    refine lg O hk hs f ((l + h) / 2 + 1) h (by omega) (by omega) (by omega) (fun a ha => ?_) h5
    have := hs a ((l + h) / 2) (by omega) (by omega)
    have c' : v r p ((l + h) / 2) <= v r p k := Nat.le_of_not_lt c
    omega
theorem u4 : ∀ (f : Nat) (p : Array Nat) (k : Nat), Ok n p -> k + f = n -> S r p k -> good r n (fun z => Ok n z /\ S r z n) (kas_bin f p k)
 | 0, p, k, O, hk, hs => by
  have : k = n := by omega
  subst this
  exact ⟨O, hs⟩
 | f + 1, p, k, O, hk, hs => by
  have os := O.size
  unfold kas_bin
  refine dR (fun l ⟨a1, a2, a3⟩ => u4 f _ (k + 1) (O.bubble k (k - l)) (by omega) fun i j hij hj => ?_) _ (lg O (by omega) hs k 0 k (by omega) (by omega) (by omega) (fun a ha => absurd ha (Nat.not_lt_zero _)) fun a h1 h2 => by omega)
  rw [o6 (by omega) a1, o6 (by omega) a1]
  repeat' split
  all_goals first
   | exact Nat.le_refl _
   | (exfalso; omega)
   | exact a3 _ (by omega) (by omega)
   | exact a2 _ (by omega)
   | exact hs _ _ (by omega) (by omega)
theorem xR (hn : 1 <= n) : good r n (fun z => Ok n z /\ S r z n) (kas_sort n) := by
 unfold kas_sort
 refine dR (fun z ⟨a1, a2, a3, a4⟩ => ?_) _ (wx (r := r) ⟨Array.Perm.refl _⟩ hn)
 split
 ·rw [show max z.1 1 = z.1 by omega]
  exact u4 _ _ _ a1 (by omega) a4
 ·have : z.1 = n := by omega
  rw [this] at a4
  exact ⟨a1, a4⟩
end
end SS
namespace SW
open PySem PySem.SetTable ST PySem.W PyProof.Rows
def lexLt : List Int -> List Int -> Bool
 | _, [] => false
 | [], _ :: _ => true
 | a :: x, b :: y => if a = b then lexLt x y else decide (a < b)
theorem gB : ∀ x, lexLt x x = false
 | [] => rfl
 | a :: x => by unfold lexLt; rw [if_pos rfl]; exact gB x
theorem kC : ∀ x y z, lexLt x y = true -> lexLt y z = true -> lexLt x z = true
 | _, [], _, h, _ => by unfold lexLt at h; cases h
 | _, _ :: _, [], _, h => by unfold lexLt at h; cases h
 | [], _ :: _, _ :: _, _, _ => rfl
 | a :: x, b :: y, c :: z, h1, h2 => by
  unfold lexLt at h1 h2 ⊢
  split at h1 <;> split at h2
  ·rename_i e1 e2
   rw [if_pos (e1.trans e2)]
   exact kC x y z h1 h2
  ·rename_i e1 e2
   subst e1
   rw [if_neg e2]
   exact h2
  ·rename_i e1 e2
   subst e2
   rw [if_neg e1]
   exact h1
  ·have q1 : a < b := by simpa using h1
   have q2 : b < c := by simpa using h2
   rw [if_neg (by omega)]
   simp
   omega
theorem iB : ∀ x y, lexLt x y = false -> x = y ∨ lexLt y x = true
 | [], [], _ => .inl rfl
 | [], _ :: _, h => by unfold lexLt at h; cases h
 | _ :: _, [], _ => .inr rfl
 | a :: x, b :: y, h => by
  unfold lexLt at h ⊢
  split at h
  ·rename_i e
   subst e
   rw [if_pos rfl]
   rcases iB x y h with z | z
   ·exact .inl (by rw [z])
   ·exact .inr z
  ·rename_i e
   have q : ¬ a < b := by simpa using h
   right
   rw [if_neg (fun z => e z.symm)]
   simp
   omega
theorem pK {α : Type} (p q : α -> Bool) : ∀ l : List α, (∀ z ∈ l, p z = true -> q z = true) -> (∃ z ∈ l, p z = false /\ q z = true) -> l.countP p < l.countP q
 | [], _, ⟨_, h, _⟩ => by cases h
 | x :: l, h, ⟨z, hz, e1, e2⟩ => by
  rw [List.countP_cons, List.countP_cons]
  have le : l.countP p <= l.countP q := List.countP_mono_left fun z hz => h z (List.mem_cons_of_mem _ hz)
  rcases List.mem_cons.mp hz with y | y
  ·subst y
   rw [e1, e2]
   simp
   omega
  ·have ih := pK p q l (fun z hz => h z (List.mem_cons_of_mem _ hz)) ⟨z, y, e1, e2⟩
   by_cases px : p x = true
   ·have := h x List.mem_cons_self px
    simp [px, this]
    omega
   ·have px' : p x = false := by simpa using px
    rw [px']
    cases q x with
    | true => simp; omega
    | false => simpa using ih
def rank (K : List (List Int)) (x : List Int) : Nat := K.countP fun y => lexLt y x
theorem rF {K : List (List Int)} {x y : List Int} (hx : x ∈ K) (hy : y ∈ K) : decide (rank K x < rank K y) = lexLt x y := by
 have up : ∀ a b, a ∈ K -> lexLt a b = true -> rank K a < rank K b := fun a b ha h => pK _ _ K (fun z _ hz => kC z a b hz h) ⟨a, ha, gB a, h⟩
 cases e : lexLt x y with
 | true => simpa using up x y hx e
 | false =>
  rcases iB x y e with z | z
  ·subst z; simp
  ·have := up y x hy z
   simp
   omega
section
variable {prog : Program} {w : World} {A : Around} {E : Value -> Shared -> Prop} {s : Shared}
theorem zP {b fin : Bool} {Q : Bool -> Shared -> Prop} : ∀ {k k' : List Int} {us vs : List Value} (i : Nat), PySem.ItemsAre (intKind prog w) k us -> PySem.ItemsAre (intKind prog w) k' vs -> fin = decide (k.length < k'.length) -> Q (lexLt k k') s -> KatLex prog w A b fin Q (us.zip vs) i s := by
 intro k k' us vs i h
 induction h generalizing k' vs i with
 | nil =>
  intro h' ef q
  refine kat_nil ?_
  cases h' with
  | nil => rw [ef]; exact q
  | cons _ _ => rw [ef]; exact q
 | @cons a u x us h1 t1 ih =>
  intro h' ef q
  cases h' with
  | nil => refine kat_nil ?_; rw [ef]; exact q
  | @cons c u' y vs h2 t2 =>
   obtain ⟨t, rfl⟩ := Value.isInt_shape h1
   obtain ⟨t', rfl⟩ := Value.isInt_shape h2
   refine kat_cons (wpAny_eqBool_int ?_)
   by_cases e : a = c
   ·subst e
    rw [show (a == a) = true by simp]
    refine kat_yes (ih (i + 1) t2 ?_ ?_)
    ·rw [ef]; simp
    ·unfold lexLt at q
     rw [if_pos rfl] at q
     exact q
   ·rw [show (a == c) = false by simp [e]]
    unfold lexLt at q
    rw [if_neg e] at q
    refine kat_no ?_
    cases (b && i == 0) with
    | true => exact oneLt_int q
    | false => exact kat_one _ _ (PySem.P.lt_int q)
theorem uJ {x y : Addr} {k k' : List Int} {b : Bool} {Q : Bool -> Shared -> Prop} (hx : (TK prog w).is s.heap k x) (hy : (TK prog w).is s.heap k' y) (q : Q (lexLt k k') s) : wpAny (model prog w) A (keyLt' (tuples' b) (.ref x) (.ref y)) Q E s := by
 obtain ⟨o, items, n, ho, hc, hd, hi⟩ := hx
 obtain ⟨o', items', n', ho', hc', hd', hi'⟩ := hy
 have len : ∀ {k : List Int} {us : List Value}, PySem.ItemsAre (intKind prog w) k us -> k.length = us.length := fun h => by
  induction h with
  | nil => rfl
  | cons _ _ ih => simp [ih]
 refine kat_lt ho hd ho' hd' (zP 0 hi hi' ?_ q)
 rw [len hi, len hi', Array.length_toList, Array.length_toList]
theorem qP : ∀ {cs : List Addr} (K : Nat -> List Int) (off : Nat), (∀ (j : Nat) (c : Addr), cs[j]? = some c -> (TK prog w).is s.heap (K (off + j)) c /\ K (off + j) ≠ []) -> ∃ fs, KatTups s.heap (cs.map Value.ref) fs /\ fs.length = cs.length /\ ∀ v ∈ fs, ∃ n t, v = Value.int n t
 | [], _, _, _ => ⟨[], KatTups.nil, rfl, fun _ h => by cases h⟩
 | c :: cs, K, off, h => by
  obtain ⟨fs, t, l, hi⟩ := qP (cs := cs) K (off + 1) fun j c hj => by
   have := h (j + 1) c hj
   rw [show off + (j + 1) = off + 1 + j by omega] at this
   exact this
  obtain ⟨⟨o, items, n, ho, hc, hd, hit⟩, ne⟩ := h 0 c rfl
  rw [Nat.add_zero] at hit ne
  generalize K off = k0 at hit ne
  generalize hL : items.toList = L at hit
  cases hit with
  | nil => exact absurd rfl ne
  | @cons a u x us h1 t1 =>
   obtain ⟨tk, rfl⟩ := Value.isInt_shape h1
   refine ⟨.int a tk :: fs, KatTups.cons ho hc hd ?_ t, by simp [l], fun v hv => ?_⟩
   ·rw [<- Array.getElem?_toList, hL]; rfl
   ·rcases List.mem_cons.mp hv with z | z
    ·exact ⟨a, tk, z⟩
    ·exact hi v z
theorem qB {cs : List Addr} {K : Nat -> List Int} {Q : SortKind -> Shared -> Prop} (hne : 0 < cs.length) (h : ∀ (j : Nat) (c : Addr), cs[j]? = some c -> (TK prog w).is s.heap (K j) c /\ K j ≠ []) (q : Q (tuples' true) s) : wpAny (model prog w) A (keyKind' (cs.map Value.ref).toArray) Q E s := by
 obtain ⟨fs, t, l, hi⟩ := qP (s := s) (cs := cs) K 0 fun j c hj => by rw [Nat.zero_add]; exact h j c hj
 refine kat_kind (T := .type "int") t (by omega) (fun v hv => ?_) (by decide) q
 obtain ⟨n, tk, rfl⟩ := hi v hv
 exact Looks.of_pure rfl
theorem yr {cs : List Addr} {K : Nat -> List Int} {G : Array Nat -> Shared -> Prop} (hn : 1 <= cs.length) (h : ∀ (j : Nat) (c : Addr), cs[j]? = some c -> (TK prog w).is s.heap (K j) c)
  (hq : ∀ p : Array Nat, SS.Ok cs.length p -> (∀ i j, i <= j -> j < cs.length -> lexLt (K (p.getD j 0)) (K (p.getD i 0)) = false) -> G p s) : (kas_sort cs.length).kasWp (kas_ask prog w A (tuples' true) (cs.map Value.ref)) G s := by
 have mem : ∀ i, i < cs.length -> K i ∈ (List.range cs.length).map K := fun i hi => List.mem_map.mpr ⟨i, List.mem_range.mpr hi, rfl⟩
 refine SS.rE (r := fun i => rank ((List.range cs.length).map K) (K i)) (n := cs.length) (fun i j C hi hj hc => ?_) (fun p ⟨O, S⟩ => hq p O fun i j hij hj => ?_) _ (SS.xR hn)
 ·unfold kas_ask
  have ei : (cs.map Value.ref).getD i Value.none = .ref cs[i] := by simp [hi]
  have ej : (cs.map Value.ref).getD j Value.none = .ref cs[j] := by simp [hj]
  rw [ei, ej]
  refine uJ (h i _ (List.getElem?_eq_getElem hi)) (h j _ (List.getElem?_eq_getElem hj)) ?_
  rw [rF (mem i hi) (mem j hj)] at hc
  exact hc
 ·have := S i j hij hj
  unfold SS.v at this
  have e := rF (mem _ (O.lt hj)) (mem _ (O.lt (Nat.lt_of_le_of_lt hij hj)))
  rw [<- e]
  exact decide_eq_false (Nat.not_lt.mpr this)
theorem qH {α : Type} : ∀ l : List α, (l.zip l).map (·.2) = l
 | [] => rfl
 | x :: l => by simp [qH l]
theorem range_getD {α : Type} (l : List α) (d : α) : (List.range l.length).map (fun i => l.getD i d) = l := by
 apply List.ext_getElem
 ·simp
 ·intro i h1 h2
  simp
  rw [List.getElem?_eq_getElem h2]
  rfl
theorem pN {a : Addr} {cs : List Addr} {n : Nat} {K : Nat -> List Int} {P : PySem.Fin -> Shared -> Prop} (ho : s.heap.get? a = some (seqObj "list" (cs.map Value.ref).toArray n)) (h64 : cs.length < 64)
  (h : ∀ (j : Nat) (c : Addr), cs[j]? = some c -> (TK prog w).is s.heap (K j) c /\ K j ≠ [])
  (hP : ∀ h' (p : Array Nat) c2, SS.Ok cs.length p -> (∀ i j, i <= j -> j < cs.length -> lexLt (K (p.getD j 0)) (K (p.getD i 0)) = false) -> (∀ b o, b ≠ a -> s.heap.get? b = some o -> h'.get? b = some o) →
   h'.get? a = some (seqObj "list" (List.toArray (p.toList.map fun i => (cs.map Value.ref).getD i Value.none)) c2) -> P (.done (.ret .none)) { s with heap := h' }) : wpAny (model prog w) A (Builtin.«list.sort» ⟨[.ref a], []⟩) P E s := by
 have ha : a < s.heap.objs.size := Heap.lt_size ho
 have lv : (cs.map Value.ref).length = cs.length := List.length_map ..
 obtain ⟨e1, ho1⟩ : ∃ e1, (s.heap.update a (Obj.mapSeq fun _ => (#[] : Array Value))).get? a = some (seqObj "list" #[] e1) := ⟨_, get?_update_seq ho fun _ => #[]⟩
 rw [list_sort_plain]
 refine wpAny_bind (listItems_at ho rfl ?_)
 refine wpAny_bind (listUpdate_at ho rfl ?_ (by rw [List.size_toArray, sizeLine_eq]; omega) (Nat.zero_le _))
 refine wpAny_bind (seqEpoch_at ho1 rfl ?_)
 refine wpAny_bind (wpAny_newTuple ?_ (by show (cs.map Value.ref).length <= _; rw [sizeLine_eq]; omega))
 refine wpAny_bind (wpAny_newList ?_ (Nat.zero_le _))
 refine wpAny_holding ?_
 show wpAny (model prog w) A _ P E { s with heap := ((s.heap.update a (Obj.mapSeq fun _ => (#[] : Array Value))).push (seqObj "tuple" (cs.map Value.ref).toArray 0)).push (seqObj "list" #[] 0) }
 have ho2 : (((s.heap.update a (Obj.mapSeq fun _ => (#[] : Array Value))).push (seqObj "tuple" (cs.map Value.ref).toArray 0)).push (seqObj "list" #[] 0)).get? a = some (seqObj "list" #[] e1) := Heap.get?_push_of_some _ (Heap.get?_push_of_some _ ho1)
 have oth : ∀ b o, b ≠ a -> s.heap.get? b = some o -> (((s.heap.update a (Obj.mapSeq fun _ => (#[] : Array Value))).push (seqObj "tuple" (cs.map Value.ref).toArray 0)).push (seqObj "list" #[] 0)).get? b = some o := fun b o hb e =>
  Heap.get?_push_of_some _ (Heap.get?_push_of_some _ ((Heap.get?_update_other _ _ (Ne.symm hb)).trans e))
 generalize ((s.heap.update a (Obj.mapSeq fun _ => (#[] : Array Value))).push (seqObj "tuple" (cs.map Value.ref).toArray 0)).push (seqObj "list" #[] 0) = H at ho2 oth ⊢
 have fin : ∀ (p : Array Nat) (out : Array Value), SS.Ok cs.length p -> (∀ i j, i <= j -> j < cs.length -> lexLt (K (p.getD j 0)) (K (p.getD i 0)) = false) -> out = List.toArray (p.toList.map fun i => (cs.map Value.ref).getD i Value.none) -> P (.done (.ret .none)) { s with heap := H.update a (Obj.mapSeq fun _ => out) } := fun p out O S e => by
  subst e
  obtain ⟨c2, hc2⟩ : ∃ c2, (H.update a (Obj.mapSeq fun _ => List.toArray (p.toList.map fun i => (cs.map Value.ref).getD i Value.none))).get? a = some (seqObj "list" (List.toArray (p.toList.map fun i => (cs.map Value.ref).getD i Value.none)) c2) := ⟨_, get?_update_seq ho2 fun _ => List.toArray (p.toList.map fun i => (cs.map Value.ref).getD i Value.none)⟩
  exact hP _ p c2 O S (fun b o hb e => (Heap.get?_update_other _ _ (Ne.symm hb)).trans (oth b o hb e)) hc2
 dsimp only
 by_cases hn : (cs.map Value.ref).toArray.size < 2
 ·rw [if_pos hn, if_pos hn]
  refine wpAny_bind (wpAny_pure ?_)
  rw [StateT.run_pure]
  refine wpAny_bind (wpAny_pure ?_)
  dsimp only
  refine wpAny_bind (seqEpoch_at ho2 rfl ?_)
  refine wpAny_bind (listUpdate_at ho2 rfl ?_ (hsz2 := by rw [Array.size_map]; show (pairsOf (cs.map Value.ref)).size <= _; rw [pairsOf_size, sizeLine_eq]; omega))
  simp only [bne_self_eq_false, Bool.false_eq_true, if_false]
  refine wpAny_pure (fin (List.toArray (List.range cs.length)) _ ⟨Array.Perm.refl _⟩ (fun i j hij hj => ?_) ?_)
  ·have : i = j := by rw [List.size_toArray, lv] at hn; omega
   subst this
   exact gB _
  ·show ((cs.map Value.ref).toArray.zip (cs.map Value.ref).toArray).map (·.2) = _
   have e := range_getD (cs.map Value.ref) Value.none
   rw [lv] at e
   show _ = List.toArray ((List.range cs.length).map fun i => (cs.map Value.ref).getD i Value.none)
   rw [e]
   simp [qH]
 ·rw [if_neg hn, if_neg hn]
  rw [List.size_toArray, lv] at hn
  have hH : ∀ (j : Nat) (c : Addr), cs[j]? = some c -> (TK prog w).is H (K j) c /\ K j ≠ [] := fun j c hj => by
   obtain ⟨q1, q2⟩ := h j c hj
   exact ⟨iW q1 fun o e => oth c o (key_ne q1 ho rfl (by decide)) e, q2⟩
  refine wpAny_bind (qB (s := { s with heap := H }) (by omega) hH ?_)
  refine wpAny_bind (wpAny_mono (kat_run (s := { s with heap := H }) (ks := cs.map Value.ref) (vs := cs.map Value.ref) (Q := fun st' s' => s' = { s with heap := H } /\ ∃ p : Array Nat, arrOf st' = p.map (kas_item ((cs.map Value.ref).toArray.zip (cs.map Value.ref).toArray)) /\ failedOf st' = none /\ SS.Ok cs.length p /\ ∀ i j, i <= j -> j < cs.length -> lexLt (K (p.getD j 0)) (K (p.getD i 0)) = false)
   (G := fun p s' => s' = { s with heap := H } /\ SS.Ok cs.length p /\ ∀ i j, i <= j -> j < cs.length -> lexLt (K (p.getD j 0)) (K (p.getD i 0)) = false)
   rfl (by rw [lv]; omega) (by rw [lv]; exact h64) (fun p st' s' a1 a2 a3 ⟨a4, a5, a6⟩ => ⟨a4, p, a2, a3, a5, a6⟩) ?_) ?_ fun _ _ e => e)
  ·rw [lv]
   exact yr (s := { s with heap := H }) (by omega) (fun j c hj => (hH j c hj).1) fun p O S => ⟨rfl, O, S⟩
  ·rintro ⟨⟨⟩, st'⟩ s' ⟨rfl, p, har, hf, O, S⟩
   dsimp only
   have hout := kat_snds (ks := cs.map Value.ref) (vs := cs.map Value.ref) rfl har
   rw [hout]
   refine wpAny_bind (seqEpoch_at ho2 rfl ?_)
   refine wpAny_bind (listUpdate_at ho2 rfl ?_ (Nat.zero_le _) (by rw [List.size_toArray, List.length_map, Array.length_toList, O.size, sizeLine_eq]; omega))
   rw [hf]
   simp only [bne_self_eq_false, Bool.false_eq_true, if_false]
   exact wpAny_pure (fin p _ O S rfl)
theorem o7 {α β : Type} {f : α -> β} {l m : List β} (h : l.Perm m) : ∀ xs : List α, m = xs.map f -> ∃ zs : List α, zs.Perm xs /\ l = zs.map f := by
 induction h with
 | nil => intro xs e; exact ⟨xs, List.Perm.refl _, e⟩
 | cons a _ ih =>
  intro xs e
  cases xs with
  | nil => cases e
  | cons x xs =>
   rw [List.map_cons] at e
   injection e with e1 e2
   obtain ⟨zs, p, q⟩ := ih xs e2
   exact ⟨x :: zs, p.cons x, by rw [List.map_cons, q, e1]⟩
 | swap a b l =>
  intro xs e
  match xs, e with
  | [], e => cases e
  | [_], e => simp at e
  | x :: y :: xs, e =>
   simp only [List.map_cons, List.cons.injEq] at e
   obtain ⟨e1, e2, e3⟩ := e
   exact ⟨y :: x :: xs, List.Perm.swap x y xs, by simp only [List.map_cons]; rw [e1, e2, e3]⟩
 | trans _ _ ih1 ih2 =>
  intro xs e
  obtain ⟨zs, p, q⟩ := ih2 xs e
  obtain ⟨zs', p', q'⟩ := ih1 zs q
  exact ⟨zs', p'.trans p, q'⟩
theorem sU {a : Addr} {xs : List (List Int × Addr)} {Q : Value -> Shared -> Prop} (hh : A.handled = none) (X : fK prog w s.heap a xs) (h64 : xs.length < 64) (hne : ∀ x ∈ xs, x.1 ≠ [])
  (hQ : ∀ s' (D : Addr) (ys : List (List Int × Addr)) c, (∀ b o, s.heap.get? b = some o -> s'.heap.get? b = some o) -> s'.gens = s.gens -> s'.drawn = s.drawn -> s'.os = s.os -> s.heap.objs.size <= D -> ys.Perm xs -> ys.Pairwise (fun x y => lexLt x.1 y.1 = true) →
   s'.heap.get? D = some (seqObj "list" (ys.map fun y => Value.ref y.2).toArray c) -> Q (.ref D) s') : wpAny (model prog w) A (call (.builtin "sorted") [.ref a]) Q E s := by
 obtain ⟨⟨o, es, ep, t, ho, hex, hd, he, T, hpl, _, _⟩, his, nd⟩ := X
 have sz : es.size = xs.length := by rw [<- Array.length_toList, he, List.length_map]
 refine Calls.call_function_entry kind_sorted plain_sorted entry_sorted (args_sorted1 _) ?_
 unfold Builtin.«sorted»
 refine wpAny_bind (m := checkCount "sorted" 1 1 _) (wpAny_pure ?_)
 refine wpAny_bind (kK (show A.in1.handled = none from hh) ho hex.1 hd T (by rw [List.length_map, sz]) hpl (by omega) fun s1 acc kp g1 g2 g3 le ea => ?_)
 obtain ⟨zs, pz, ez⟩ := o7 (iG w a es ep) xs he
 have ea' : acc = (zs.map (·.2)).map Value.ref := by rw [ea, ez, List.map_map, List.map_map]; rfl
 have lz : zs.length = xs.length := pz.length_eq
 have lcs : (zs.map (·.2)).length = xs.length := by rw [List.length_map, lz]
 subst ea'
 refine wpAny_bind (wpAny_newList ?_ (by rw [List.length_map, lcs, sizeLine_eq]; omega))
 have hoL : (s1.heap.push (seqObj "list" ((zs.map (·.2)).map Value.ref).toArray 0)).get? s1.heap.objs.size = some (seqObj "list" ((zs.map (·.2)).map Value.ref).toArray 0) := Heap.get?_push_size _ rfl
 have kp2 : ∀ b o, s.heap.get? b = some o -> (s1.heap.push (seqObj "list" ((zs.map (·.2)).map Value.ref).toArray 0)).get? b = some o := fun b o e => Heap.get?_push_of_some _ (kp b o e)
 show wpAny _ _ _ _ _ { s1 with heap := s1.heap.push (seqObj "list" ((zs.map (·.2)).map Value.ref).toArray 0) }
 refine wpAny_bind (wpAny_holding (wpAny_call_entry slot_list_sort ⟨_, hoL, rfl⟩ entry_list_sort ?body (args_list_sort _)))
 case body =>
  refine pN (s := { s1 with heap := s1.heap.push (seqObj "list" ((zs.map (·.2)).map Value.ref).toArray 0) }) (K := fun j => (zs.getD j ([], 0)).1) hoL (by omega) (fun j c hj => ?_) fun h' p c2 O S oth hD => ?_
  ·rw [List.getElem?_map] at hj
   obtain ⟨z, ez, e⟩ := Option.map_eq_some_iff.mp hj
   have g : zs.getD j ([], 0) = z := by rw [List.getD_eq_getElem?_getD, ez]; rfl
   have mz : z ∈ xs := pz.mem_iff.mp (List.mem_of_getElem? ez)
   subst e
   dsimp only
   rw [g]
   exact ⟨iW (his z mz) fun o e => kp2 _ o e, hne z mz⟩
  ·have py : (p.toList.map fun i => zs.getD i ([], 0)).Perm xs := by
    have h1 := (Array.perm_iff_toList_perm.mp O.perm).map fun i => zs.getD i ([], 0)
    have h2 := range_getD zs ([], 0)
    rw [lz, <- lcs] at h2
    refine (h1.trans ?_).trans pz
    show ((List.range (zs.map (·.2)).length).map fun i => zs.getD i ([], 0)).Perm zs
    rw [h2]
   refine ⟨_, rfl, wpAny_pure ⟨_, rfl, hQ _ s1.heap.objs.size (p.toList.map fun i => zs.getD i ([], 0)) c2 (fun b o e => ?_) g1 g2 g3 le py ?_ ?_⟩⟩
   ·exact oth b o (Nat.ne_of_lt (Nat.lt_of_lt_of_le (Heap.lt_size e) le)) (kp2 b o e)
   ·refine List.pairwise_iff_getElem.mpr fun i j hi hj hij => ?_
    have nd2 : ((p.toList.map fun i => zs.getD i ([], 0)).map (·.1)).Nodup := (py.map (·.1)).nodup_iff.mpr nd
    have ni := List.pairwise_iff_getElem.mp nd2 i j (by rw [List.length_map]; exact hi) (by rw [List.length_map]; exact hj) hij
    rw [List.length_map, Array.length_toList] at hi hj
    have ss := S i j (by omega) (by rw [<- O.size]; exact hj)
    have gi : p.getD i 0 = p[i] := by simp [Array.getD, hi]
    have gj : p.getD j 0 = p[j] := by simp [Array.getD, hj]
    rw [gi, gj] at ss
    simp only [List.getElem_map, Array.getElem_toList] at ni ⊢
    rcases iB _ _ ss with e | e
    ·exact absurd e.symm ni
    ·exact e
   ·refine hD.trans ?_
    congr 3
    rw [List.map_map (l := p.toList)]
    refine List.map_congr_left fun i hi => ?_
    have li : i < zs.length := by
     have := (Array.perm_iff_toList_perm.mp O.perm).mem_iff.mp hi
     simpa using this
    simp [li]
end
end SW
namespace PD
open PySem PySem.Spec PyProof.Rows L2
section
variable {X : Cx} {pos : Pos}
theorem boot_sorted : bootBuiltins "sorted" = some (.builtin "sorted") := by kernel_rfl
theorem boot_set : bootBuiltins "set" = some (.type "set") := by kernel_rfl
theorem lU {prog : Program} {w : World} : ∀ {ns : List Int} {us : List Value}, Vals (ns.map V.int) us -> PySem.ItemsAre (intKind prog w) ns us
 | [], us, r => by rw [List.map_nil] at r; cases r; exact .nil
 | n :: ns, us, r => by
  rw [List.map_cons] at r
  cases r with
  | cons h t =>
   obtain ⟨tk, rfl⟩ := h
   exact .cons (by simp [intKind, Value.isInt]) (lU t)
theorem qS {pins : List (Addr × Obj)} {σ : St} {H : Hp} {s : Shared} {a : Addr} {k : List Int} (I : Inv X pins σ H s) (h : SqT X.K H a (k.map V.int)) : (SW.TK X.prog X.w).is s.heap k a := by
 obtain ⟨its, r, ⟨o, e, hc, n, hd⟩, _⟩ := I.tuple h
 exact ⟨o, its.toArray, n, e, hc, hd, by simpa using lU r⟩
theorem zI {A : Around} {k : Nat} (hr : bI k A) : A.in1.in1.in1.units < cLine := Nat.lt_of_le_of_lt (Nat.add_le_add_left (by decide : 3 <= 64) _) hr.units
def tupI (k : List Int) : D := .tup (k.map D.int)
theorem Au {K : PySem.W.Frag} {P : Bool -> Addr -> Prop} {H : Hp} {k : List Int} {v : V} (h : Den K P H (tupI k) v) : ∃ a, v = .ref a /\ SqT K H a (k.map V.int) := by
 obtain ⟨a, vs, e, q, hd⟩ := h.tup_
 rw [bE hd] at q
 exact ⟨a, e, q⟩
def uY (ys ks : List (List Int)) : Prop := ys.Pairwise (fun x y => SW.lexLt x y = true) /\ ∀ k, k ∈ ys ↔ k ∈ ks
def wa (te : DE) : DA := fun ρ Q => te ρ fun d => ∃ t ks, d = .lst t (ks.map tupI) /\ ks.length < 64 /\ (∀ k ∈ ks, k ≠ []) /\ ∀ ys, uY ys ks -> Q (ys.map tupI)
theorem tJ {e : Expr} {te : DE} {p p2 pos2 : Pos} (hc : X.calm = true) (hu : X.A.in1.in1.in1.units < cLine) (hg : Gl X "sorted") (hm : X.mg "sorted" = none) (hg2 : Gl X "set") (hm2 : X.mg "set" = none) (he : PED X e te)
  (hst : starEach [.Call (.Name "set" p2) [e] [] pos2] X.env = (false, eval (.Call (.Name "set" p2) [e] [] pos2) X.env) :: starEach [] X.env := by rfl) (hpl : (backTo pos (starEach [] X.env)).any (·.1) = false := by rfl)
  (hst2 : starEach [e] X.env = (false, eval e X.env) :: starEach [] X.env := by rfl) (hpl2 : (backTo pos2 (starEach [] X.env)).any (·.1) = false := by rfl) :
  PEF X (.Call (.Name "sorted" p) [.Call (.Name "set" p2) [e] [] pos2] [] pos) (wa te) := by
 intro pins s σ H W ρ Q I r h
 refine wpAny_Call_Name_kw (cS I hg hm boot_sorted ?_ (by decide) (by decide))
 refine PyProof.Rows.callWith_builtin1 ?_ hst hpl
 rw [hst]
 show wpAny _ _ (spliced ((false, eval (.Call (.Name "set" p2) [e] [] pos2) X.env) :: backTo pos (starEach [] X.env))) _ _ s
 refine Calls.spliced_cons ?_
 refine wpAny_Call_Name_kw (cS I hg2 hm2 boot_set ?_ (by decide) (by decide))
 refine PyProof.Rows.callWith_type1 ?_ hst2 hpl2
 rw [hst2]
 show wpAny _ _ (spliced ((false, eval e X.env) :: backTo pos2 (starEach [] X.env))) _ _ s
 refine Calls.spliced_cons (thn (he pins s σ H W ρ _ I r h) fun u s1 ⟨v, H1, d, I1, rv, e1, hd, t, ks, ed, lk, hne, q⟩ => ?_)
 subst ed
 obtain ⟨l, vs, ev, _, hq, hw⟩ := hd.lst_
 subst ev
 cases rv
 refine wpAny_pure ?_
 obtain ⟨its, rv, pl, _⟩ := I1.list hq
 have hh := I1.ok.hd hc
 have lvs : vs.length = ks.length := by rw [hw.len, List.length_map]
 have lit : its.length = ks.length := by rw [<- rv.length, lvs]
 have at_ : ∀ (j : Nat) (k : List Int), ks[j]? = some k -> ∃ c : Addr, its[j]? = some (Value.ref c) /\ SqT X.K H1 c (k.map V.int) := fun j k hk => by
  obtain ⟨v, ev, hv⟩ := hw.get (i := j) (d := tupI k) (by rw [List.getElem?_map, hk]; rfl)
  obtain ⟨c, rfl, hc⟩ := Au hv
  obtain ⟨u, eu, ru⟩ := rv.get ev
  cases ru
  exact ⟨c, eu, hc⟩
 refine SW.call_set_list hh hu pl.isList (by rw [List.size_toArray]; omega) (fun j => ks.getD j []) (fun j v hj => ?_) fun h2 tk2 ys kp S yl yk yi => ?_
 ·have hj' : its[j]? = some v := by simpa using hj
  have lj : j < ks.length := by rw [<- lit]; exact (List.getElem?_eq_some_iff.mp hj').1
  obtain ⟨c, ec, hcc⟩ := at_ j ks[j] (List.getElem?_eq_getElem lj)
  rw [hj'] at ec
  cases ec
  rw [show ks.getD j [] = ks[j] by simp [lj]]
  exact ⟨c, rfl, qS I1 hcc⟩
 ·have I2 : L2.Inv X pins σ H1 { s1 with heap := h2, toks := tk2 } := I1.kept kp
  refine wpAny_pure ?_
  rw [List.size_toArray] at yl yk yi
  have memk : ∀ k, k ∈ ys.map (·.1) ↔ k ∈ ks := fun k => by
   rw [yk k]
   constructor
   ·rintro ⟨j, lj, e⟩
    rw [lit] at lj
    rw [e, show ks.getD j [] = ks[j] by simp [lj]]
    exact List.getElem_mem lj
   ·intro hk
    obtain ⟨j, lj, e⟩ := List.getElem_of_mem hk
    exact ⟨j, by rw [lit]; exact lj, by rw [<- e]; simp [lj]⟩
  have den : ∀ y ∈ ys, SqT X.K H1 y.2 (y.1.map V.int) := fun y hy => by
   obtain ⟨j, lj, ej⟩ := yi y hy
   have ej' : its[j]? = some (.ref y.2) := by simpa using ej
   rw [lit] at lj
   obtain ⟨c, ec, hcc⟩ := at_ j ks[j] (List.getElem?_eq_getElem lj)
   rw [ej'] at ec
   cases ec
   have k1 := qS I2 hcc
   rw [(SW.TK X.prog X.w).inj (S.is_ y hy) k1]
   exact hcc
  refine SW.sU (s := { s1 with heap := h2, toks := tk2 }) hh S (by omega) (fun y hy => hne _ ((memk _).mp (List.mem_map.mpr ⟨y, hy, rfl⟩))) fun s' D zs c kp' g1 g2 g3 le pz sz hD => ?_
  have lz : zs.length = ys.length := pz.length_eq
  have es : s' = { s1 with heap := s'.heap, toks := s'.toks } := by cases s'; dsimp only at g1 g2 g3 ⊢; subst g1 g2 g3; rfl
  have hz : s1.heap.objs.size <= D := by
   obtain ⟨_, _, _, _, ho, _⟩ := S.ex
   exact Nat.le_of_lt (Nat.lt_of_lt_of_le (Heap.lt_size ho) le)
  have nD : H1 D = none := I1.hok.fresh hz
  have I3 : L2.Inv X pins σ (L2.upd H1 D (.lst (zs.map fun z => V.ref z.2))) s' := by
   rw [es]
   refine I1.laid (fun b u e => kp' b u (kp b u e)) hz ⟨by rw [List.length_map, sizeLine_eq]; omega, zs.map fun z => Value.ref z.2, c, ?_, hD⟩
   clear pz sz hD lz
   induction zs with
   | nil => exact .nil
   | cons z zs ih => exact .cons rfl ih
  have dz : ah X.K W.bad H1 ((zs.map (·.1)).map tupI) (zs.map fun z => V.ref z.2) := by
   have hall : ∀ z ∈ zs, SqT X.K H1 z.2 (z.1.map V.int) := fun z hz => den z (pz.mem_iff.mp hz)
   clear pz sz hD lz I3
   induction zs with
   | nil => exact rfl
   | cons z zs ih =>
    refine ah.cons (Den.tup (hall z List.mem_cons_self) ?_) (ih fun z hz => hall z (List.mem_cons_of_mem _ hz))
    show ah X.K W.bad H1 (z.1.map PD.D.int) (z.1.map V.int)
    generalize z.1 = k
    induction k with
    | nil => exact rfl
    | cons n k ih2 => exact ah.cons (Den.int n) ih2
  have kn := Inv.kno I3 aD
  refine ⟨D, _, _, _, rfl, I3, e1.trans (ar.upd nD), e1.free nD, kn, aD, ah.apart nD kn dz, q _ ⟨?_, fun k => ?_⟩⟩
  ·exact List.pairwise_map.mpr sz
  ·rw [(pz.map (·.1)).mem_iff]
   exact memk k
end
end PD
namespace HT
open PySem PyProof.Rows
section
open PySem.SeqAt
open PySem.AutoSeq1 (wpAny_loadPart')
open PySem.MeetsSeq PySem.MeetsSeq2 PySem.MeetsSeq3
end
section
variable {prog : Program} {w : World} {A : Around} {E : Value -> Shared -> Prop} {s : Shared}
end
end HT
namespace SW
open PySem PySem.SetTable ST PySem.W PyProof.Rows
section
variable {prog : Program} {w : World} {A : Around} {E : Value -> Shared -> Prop} {s : Shared}
end
end SW
namespace SW
open PySem PySem.SetTable ST PySem.W PyProof.Rows
section
variable {prog : Program} {w : World} {A : Around} {E : Value -> Shared -> Prop} {s : Shared}
end
end SW
namespace SW
open PySem PySem.SetTable ST PySem.W PyProof.Rows
section
variable {prog : Program} {w : World} {A : Around} {E : Value -> Shared -> Prop} {s : Shared}
end
end SW
namespace PD
open PySem PySem.Spec PyProof.Rows L2
section
variable {X : Cx} {pos : Pos}
end
end PD
namespace PD
open PySem PySem.Spec PyProof.Rows L2
section
variable {X : Cx} {pos : Pos}
theorem mh (hc : X.calm = true) : dq X (.builtin "min") (fun ds Q => ∃ (t : Bool) (ns : List Int), ds = [.lst t (ns.map D.int)] /\ 0 < ns.length /\ ∀ m, m ∈ ns -> (∀ n ∈ ns, m <= n) -> Q (.int m)) := by
 intro pins s σ H W ds vs us Q I tr r hd q
 obtain ⟨t, ns, e, hne, q⟩ := q
 subst e
 obtain ⟨v, rfl, h1⟩ := ko hd
 obtain ⟨a, ws, ev, _, hq, hw⟩ := h1.lst_
 subst ev
 cases r with
 | cons r1 rr =>
  cases rr
  cases r1
  obtain ⟨its, rv, pl, _⟩ := I.list hq
  rw [bE hw] at rv
  have ia := intsAre_of rv
  obtain ⟨xs, ex⟩ := ia.allInts.items
  have hl : s.heap.IsList a (intItems xs) := by rw [<- ex]; exact pl.isList
  have hns : ns = xs.toList.map (·.1) := by rw [<- ia.numsOf, <- nums_intItems, <- ex]
  have hsz : 0 < xs.size := by rw [hns, List.length_map, Array.length_toList] at hne; exact hne
  refine min_intList (I.ok.hd hc) hl hsz fun y h' tk hy kp => ?_
  obtain ⟨tt, rfl⟩ := intItems_at hy
  obtain ⟨g1, g2⟩ := argBest_lt (numAt xs) (xs.size - 1)
  have at_ : ∀ j, j < xs.size -> xs.toList.map (·.1) ≠ [] -> numAt xs j ∈ ns := fun j hj _ => by
   rw [hns, numAt_eq]
   have : (xs.toList.map (·.1))[j]? = some ((xs.toList.map (·.1)).getD j 0) := by simp [hj]
   exact List.mem_of_getElem? this
  refine ⟨.int _, H, _, I.kept kp, ⟨_, rfl⟩, ar.refl H, Den.int _, q _ (at_ _ (by omega) (by rw [<- hns]; exact List.ne_nil_of_length_pos hne)) fun n hn => ?_⟩
  rw [hns] at hn
  obtain ⟨j, hj, ej⟩ := List.getElem_of_mem hn
  have : numAt xs j = n := by rw [numAt_eq, <- ej]; simp only [List.getD_eq_getElem?_getD, List.getElem?_eq_getElem hj, Option.getD_some]
  rw [<- this]
  rw [List.length_map, Array.length_toList] at hj
  exact g2 j (by omega)
end
theorem Ac (g1 g2 g3 : DG) (a b c : D) (ρ : Ro) (Q : Ro -> Prop) : d5 3 (bf g1 (bf g2 (bf g3 gg))) (.tup [a, b, c]) ρ Q = g1 a ρ fun ρ1 => g2 b ρ1 fun ρ2 => g3 c ρ2 Q := by
 rw [mw 3 _ _ rfl]
 simp only [gdc, gdn]
theorem zx (g1 g2 g3 g4 g5 g6 : DG) (a b c d e f : D) (ρ : Ro) (Q : Ro -> Prop) : d5 6 (bf g1 (bf g2 (bf g3 (bf g4 (bf g5 (bf g6 gg)))))) (.tup [a, b, c, d, e, f]) ρ Q = g1 a ρ fun ρ1 => g2 b ρ1 fun ρ2 => g3 c ρ2 fun ρ3 => g4 d ρ3 fun ρ4 => g5 e ρ4 fun ρ5 => g6 f ρ5 Q := by
 rw [mw 6 _ _ rfl]
 simp only [gdc, gdn]
end PD
namespace SW
open PySem PySem.SetTable ST PySem.W PyProof.Rows
section
variable {prog : Program} {w : World} {A : Around} {E : Value -> Shared -> Prop} {s : Shared}
structure gL (prog : Program) (w : World) (h : Heap) (a : Addr) (xs : List (Int × Tok)) : Prop where
 ex : ∃ o es ep t, h.get? a = some o /\ o.ExactSet /\ o.data = .set es ep t /\ es.toList = xs.map (fun x => ((intKind prog w).hash x.1, Value.int x.1 x.2)) /\ Tab t (xs.map fun x => (intKind prog w).hash x.1) /\ (t.plain = true /\ t.led = !w.params.followText "set-order") /\ 7 <= t.mask
 nd : (xs.map (·.1)).Nodup
theorem uo {t : SetTable} {hs : List Int} (T : Tab t hs) (h : Int) : ∃ j pre post, t.freeSlot h = some (j, false) /\ br t.mask h = pre ++ j :: post /\ (∀ y ∈ pre, y ∈ t.place.toList) /\ j ∉ t.place.toList := by
 obtain ⟨c, ec⟩ := kJ t h
 have vl := i5 t.mask h
 rcases kX T.rise T.dum (fun _ => h + 1) h (br t.mask h) (10 * turns t.mask) c _ ec.symm vl (T.empty h) rfl with ⟨pre, j, post, q1, q2, q3, q4⟩ | ⟨pre, j, post, i, q, c', q1, q2, q3, q4, _⟩
 ·refine ⟨j, pre, post, ?_, q1, fun y hy => ?_, q3⟩
  ·unfold SetTable.freeSlot SetTable.probe
   rw [q4]
   rfl
  ·obtain ⟨i, h1, _⟩ := q2 y hy
   exact get_mem h1
 ·omega
theorem yB {a : Addr} {k : Int} {tk : Tok} {xs : List (Int × Tok)} {Q : Bool -> Shared -> Prop} (S : gL prog w s.heap a xs) (hl : xs.length < 4)
  (hQ : ∀ h' ys b', Heap.SameBut a s.heap h' -> gL prog w h' a ys -> ys.length <= xs.length + 1 -> (∀ k', k' ∈ ys.map (·.1) ↔ k' ∈ xs.map (·.1) ∨ k' = k) -> Q b' { s with heap := h', toks := s.toks + 1 }) :
  wpAny (model prog w) A (setAdd a (.int k tk)) Q E s := by
 unfold setAdd
 refine wpAny_holding (wpAny_bind ((intKind prog w).pyHash (k := k) (intKind_is _ _ _ _) ?_))
 obtain ⟨⟨o, es, ep, t, ho, hex, hd, he, T, hpl, hma⟩, nd⟩ := S
 have sz : es.size = xs.length := by rw [<- Array.length_toList, he, List.length_map]
 have fits : t.fits es.size = true := by have := T.fits; rw [List.length_map] at this; rw [sz]; exact this
 have psz : t.place.size = xs.length := by have := T.len; rw [List.length_map] at this; exact this
 have hb : es.size < scanBound := by rw [sz]; unfold scanBound; omega
 have hel : ElemsOf (intKind prog w) es.toList := fun e hem => by
  rw [he] at hem
  obtain ⟨x, _, rfl⟩ := List.mem_map.mp hem
  exact ⟨⟨x.1, intKind_is _ _ _ _, rfl⟩, rfl⟩
 unfold setAddHashed setAddHashedIn
 refine wpAny_holding (wpAny_bind (wpAny_setState_of (s := { s with toks := s.toks + 1 }) ho hd fits ?_))
 dsimp only
 rw [byScan_of (knd := intKind prog w) rfl hb hel]
 simp only [↓reduceIte]
 unfold setAddByScan
 refine wpAny_bind ?_
 refine wpAny_bind (wpAny_rule ?_)
 refine wpAny_bind (wpAny_setScan_of (intKind_is _ _ _ _) ho hd fits hel ?_)
 cases hr : List.findIdx? (fun e => (intKind prog w).is k e.2) es.toList with
 | some j =>
  dsimp only
  obtain ⟨hj, hpj, _⟩ := List.findIdx?_eq_some_iff_getElem.mp hr
  have hin : k ∈ xs.map (·.1) := by
   have hm := List.getElem_mem hj
   generalize es.toList[j] = e0 at hm hpj
   rw [he] at hm
   obtain ⟨x, hx, e⟩ := List.mem_map.mp hm
   have : (intKind prog w).is k (Value.int x.1 x.2) = true := by
    rw [<- e] at hpj
    exact hpj
   have this' : Value.isInt k (Value.int x.1 x.2) = true := this
   obtain ⟨t', et⟩ := Value.isInt_shape this'
   injection et with e1 e2
   exact List.mem_map.mpr ⟨x, hx, e1⟩
  refine wpAny_pure (wpAny_pure ?_)
  exact hQ s.heap xs _ (Heap.SameBut.refl a s.heap) ⟨⟨o, es, ep, t, ho, hex, hd, he, T, hpl, hma⟩, nd⟩ (by omega) fun k' => ⟨.inl, fun z => z.elim id fun z => by rw [z]; exact hin⟩
 | none =>
  dsimp only
  have hno : k ∉ xs.map (·.1) := fun hin => by
   obtain ⟨x, hx, e⟩ := List.mem_map.mp hin
   have hm : ((intKind prog w).hash x.1, Value.int x.1 x.2) ∈ es.toList := by rw [he]; exact List.mem_map.mpr ⟨x, hx, rfl⟩
   have := List.findIdx?_eq_none_iff.mp hr _ hm
   rw [<- e, intKind_is] at this
   cases this
  obtain ⟨j, pre, post, hfree, hv, hp, hj⟩ := uo T ((intKind prog w).hash k)
  obtain ⟨T', pl, pm, ps⟩ := T.put hj hv hp (by omega)
  rw [List.length_map] at pl
  have hpq : (t.put j).1.plain = true /\ (t.put j).1.led = !w.params.followText "set-order" := hpl
  generalize hp2 : (t.put j).2 = p at *
  generalize ht2 : (t.put j).1 = t2 at *
  have isz : (insertAt es p ((intKind prog w).hash k, Value.int k tk)).toList = (xs.take p ++ (k, tk) :: xs.drop p).map fun x => ((intKind prog w).hash x.1, Value.int x.1 x.2) := by
   rw [gO, he, List.map_append, List.map_cons, List.map_take, List.map_drop]
  have hlen : (xs.take p ++ (k, tk) :: xs.drop p).length = xs.length + 1 := by
   rw [List.length_append, List.length_take, List.length_cons, List.length_drop]
   omega
  have isz2 : (insertAt es p ((intKind prog w).hash k, Value.int k tk)).size = xs.length + 1 := by rw [<- Array.length_toList, isz, List.length_map, hlen]
  have T2 : Tab t2 ((xs.take p ++ (k, tk) :: xs.drop p).map fun x => (intKind prog w).hash x.1) := by
   rw [List.map_append, List.map_cons, List.map_take, List.map_drop]
   exact T'
  have fits2 : t2.fits (insertAt es p ((intKind prog w).hash k, Value.int k tk)).size = true := by
   have := T2.fits
   rw [List.length_map, hlen] at this
   rw [isz2]; exact this
  have hL : layNew t es ((intKind prog w).hash k) (Value.int k tk) = (insertAt es p ((intKind prog w).hash k, Value.int k tk), t2, false, false) := by
   unfold layNew
   rw [hfree]
   have e1 : t.put j = (t2, p) := Prod.ext ht2 hp2
   dsimp only
   rw [e1]
   dsimp only
   unfold SetTable.orStandIn
   rw [if_pos fits2, fits2]
   rfl
  rw [hL]
  dsimp only
  have hgw : ∀ (b : Bool) {s₁ : Shared} {Q' : Unit -> Shared -> Prop}, Q' () s₁ -> wpAny (model prog w) A (match b with | true => rule "set.scan.the-table-gave-way" | false => pure ()) Q' E s₁ :=
   fun b s₁ Q' hq => by cases b <;> first | exact wpAny_pure hq | exact wpAny_rule hq
  refine wpAny_bind (hgw false ?_)
  rw [hpq.1]
  simp only [if_true]
  refine wpAny_bind ?_
  rw [rG]
  refine wpAny_pure ?_
  simp only [if_true]
  refine wpAny_bind (wpAny_storeSet_of ho hd ?_ (by rw [isz2, sizeLine_eq]; omega))
  have hg : (s.heap.update a (Obj.putSet (insertAt es p ((intKind prog w).hash k, Value.int k tk)) t2)).get? a = some { o with data := .set (insertAt es p ((intKind prog w).hash k, Value.int k tk)) (ep + 1) t2 } := by
   have := Heap.get?_update_self (Obj.putSet (insertAt es p ((intKind prog w).hash k, Value.int k tk)) t2) ho (by rw [putSet_of _ _ hd]; rfl)
   rw [putSet_of _ _ hd] at this
   exact this
  have sb := Heap.SameBut.update s.heap a (Obj.putSet (insertAt es p ((intKind prog w).hash k, Value.int k tk)) t2)
  have tf : t2.tooFull = false := by
   unfold SetTable.tooFull SetTable.fill
   rw [T2.dum]
   simp
   omega
  rw [tf]
  simp only [Bool.and_false, Bool.false_eq_true, if_false]
  have mem : ∀ y, y ∈ xs.take p ++ (k, tk) :: xs.drop p ↔ y = (k, tk) ∨ y ∈ xs := fun y => by
   rw [List.mem_append, List.mem_cons]
   constructor
   ·rintro (z | z | z)
    ·exact .inr (List.mem_of_mem_take z)
    ·exact .inl z
    ·exact .inr (List.mem_of_mem_drop z)
   ·rintro (z | z)
    ·exact .inr (.inl z)
    ·rw [<- List.take_append_drop p xs] at z
     rcases List.mem_append.mp z with q | q
     ·exact .inl q
     ·exact .inr (.inr q)
  have nd2 : ((xs.take p ++ (k, tk) :: xs.drop p).map (·.1)).Nodup := by
   rw [List.map_append, List.map_cons]
   have n0 := nd
   have h0 := hno
   rw [<- List.take_append_drop p xs, List.map_append] at n0 h0
   rw [List.nodup_append] at n0 ⊢
   obtain ⟨n1, n2, n3⟩ := n0
   rw [List.mem_append, not_or] at h0
   refine ⟨n1, List.nodup_cons.mpr ⟨h0.2, n2⟩, fun x hx y hy => ?_⟩
   rcases List.mem_cons.mp hy with z | z
   ·intro e; subst e; subst z; exact h0.1 hx
   ·exact n3 x hx y z
  refine wpAny_pure (wpAny_pure ?_)
  refine hQ _ (xs.take p ++ (k, tk) :: xs.drop p) true sb ⟨⟨_, _, ep + 1, t2, hg, hex, rfl, isz, T2, hpq, by rw [pm]; exact hma⟩, nd2⟩ (by omega) fun k' => ?_
  constructor
  ·intro h1
   obtain ⟨y, hy, e⟩ := List.mem_map.mp h1
   rcases (mem y).mp hy with q | q
   ·subst q; exact .inr e.symm
   ·exact .inl (List.mem_map.mpr ⟨y, q, e⟩)
  ·rintro (h1 | h1)
   ·obtain ⟨y, hy, e⟩ := List.mem_map.mp h1
    exact List.mem_map.mpr ⟨y, (mem y).mpr (.inr hy), e⟩
   ·subst h1
    exact List.mem_map.mpr ⟨(k', tk), (mem _).mpr (.inl rfl), rfl⟩
end
end SW
namespace SW
open PySem PySem.SetTable ST PySem.W PyProof.Rows
section
variable {prog : Program} {w : World} {A : Around} {E : Value -> Shared -> Prop} {s : Shared}
theorem gL.ext {h h' : Heap} {a : Addr} {xs : List (Int × Tok)} (S : gL prog w h a xs) (e : ∀ o, h.get? a = some o -> h'.get? a = some o) : gL prog w h' a xs := by
 obtain ⟨⟨o, es, ep, t, ho, r⟩, nd⟩ := S
 exact ⟨⟨o, es, ep, t, e o ho, r⟩, nd⟩
theorem vV {a I l : Addr} {items : Array Value} {R : Result -> Shared -> Prop} (hh : A.handled = none) (haI : a ≠ I) (hal : a ≠ l) (hlI : l ≠ I) (hn : items.size <= 4) (ks : Nat -> Int) (hk : ∀ (j : Nat) (v : Value), items[j]? = some v -> ∃ t, v = .int (ks j) t) :
  ∀ (m i : Nat) (s : Shared) (xs : List (Int × Tok)), items.size - i = m -> i <= items.size -> (s.heap.IsListIter I l i /\ s.heap.IsList l items) -> gL prog w s.heap a xs -> xs.length <= i -> (∀ k, k ∈ xs.map (·.1) ↔ ∃ j, j < i /\ k = ks j) →
   (∀ h' tk ys, (∀ b o, b ≠ a -> b ≠ I -> s.heap.get? b = some o -> h'.get? b = some o) -> gL prog w h' a ys -> ys.length <= items.size -> (∀ k, k ∈ ys.map (·.1) ↔ ∃ j, j < items.size /\ k = ks j) →
    R (.ok (.ret .none)) { s with heap := h', toks := tk }) -> codeAny (model prog w) A (.builtin "set.update.loop" ⟨[.ref a, .ref I], []⟩) R s := by
 have W := Walks.list (prog := prog) (w := w) (A := A.in1) (show A.in1.handled = none from hh) I l hlI items
 intro m
 induction m with
 | zero =>
  intro i s xs hm hi st S hx hks hR
  have e : i = items.size := by omega
  subst e
  refine codeAny_builtin ic ?_
  rw [Around.under_plainId dQ _]
  show wpAny _ A.in1 (pyNext (.ref I) >>= _) _ _ s
  refine wpAny_bind (W.done s _ _ st fun h' tk kp => ?_)
  have kp' : ∀ b o, b ≠ I -> s.heap.get? b = some o -> h'.get? b = some o := fun b o hb e => kp b o (by simpa using hb) e
  exact wpAny_pure (hR h' tk xs (fun b o _ hb e => kp' b o hb e) (S.ext fun o e => kp' a o haI e) hx hks)
 | succ m ih =>
  intro i s xs hm hi st S hx hks hR
  have hlt : i < items.size := by omega
  refine codeAny_builtin ic ?_
  rw [Around.under_plainId dQ _]
  show wpAny _ A.in1 (pyNext (.ref I) >>= _) _ _ s
  refine wpAny_bind (W.item i s _ _ hlt st fun v h' tk hv st' kp => ?_)
  have kp' : ∀ b o, b ≠ I -> s.heap.get? b = some o -> h'.get? b = some o := fun b o hb e => kp b o (by simpa using hb) e
  have S' : gL prog w h' a xs := S.ext fun o e => kp' a o haI e
  obtain ⟨c, rfl⟩ := hk i v hv
  show wpAny _ A.in1 (holding [.int (ks i) c] (setAdd a (.int (ks i) c)) >>= _) _ _ _
  refine wpAny_bind (wpAny_holding (yB (s := { s with heap := h', toks := tk }) S' (by omega) fun h2 ys b' sb S2 yl km => ?_))
  have st2 : h2.IsListIter I l (i + 1) /\ h2.IsList l items := W.frame _ _ _ st' fun b hb o e => by
   refine sb.extBut b o (fun q => ?_) e
   subst q
   simp only [List.mem_cons, List.not_mem_nil, or_false] at hb
   rcases hb with z | z
   ·exact haI z
   ·exact hal z
  refine wpAny_pure ⟨plainId_quiet dQ _, ih (i + 1) _ ys (by omega) hlt st2 S2 (by omega) (fun k => ?_) fun h3 tk3 zs kp3 S3 zl zk => ?_⟩
  ·rw [km k, hks k]
   constructor
   ·rintro (⟨j, hj, e⟩ | e)
    ·exact ⟨j, by omega, e⟩
    ·exact ⟨i, by omega, e⟩
   ·rintro ⟨j, hj, e⟩
    by_cases z : j < i
    ·exact .inl ⟨j, z, e⟩
    ·have : j = i := by omega
     subst this
     exact .inr e
  ·exact hR h3 tk3 zs (fun b o h1 h2' e => kp3 b o h1 h2' (sb.extBut b o h1 (kp' b o h2' e))) S3 zl zk
theorem yo (led : Bool) (hle : led = !w.params.followText "set-order") : gL prog w (s.heap.push { cls := .type "set", dict := none, data := .set #[] 0 (.fresh 0 0 led) }) s.heap.objs.size [] := by
 obtain ⟨⟨o, es, ep, t, ho, hex, hd, he, T, hpl, _, _⟩, _, _⟩ := qK (prog := prog) (w := w) (s := s) led hle
 refine ⟨⟨_, #[], 0, _, Heap.get?_push_size _ rfl, ⟨rfl, rfl, rfl⟩, rfl, rfl, ?_, ⟨rfl, hle⟩, by show 7 <= 7; decide⟩, by simp⟩
 refine ⟨⟨2, rfl⟩, fun a b _ hb => absurd hb (Nat.not_lt_zero _), (fun x hx => by cases hx), rfl, rfl, Nat.zero_le _, fun a x h hx => ?_⟩
 have : (#[] : Array Nat)[a]? = some x := hx
 simp at this
theorem nX {l : Addr} {items : Array Value} {Q : Value -> Shared -> Prop} (hh : A.handled = none) (hl : s.heap.IsList l items) (hn : items.size <= 4) (ks : Nat -> Int)
  (hk : ∀ (j : Nat) (v : Value), items[j]? = some v -> ∃ t, v = .int (ks j) t)
  (hQ : ∀ h' tk ys, (∀ b o, s.heap.get? b = some o -> h'.get? b = some o) -> gL prog w h' s.heap.objs.size ys -> ys.length <= items.size -> (∀ k, k ∈ ys.map (·.1) ↔ ∃ j, j < items.size /\ k = ks j) →
   Q (.ref s.heap.objs.size) { s with heap := h', toks := tk }) : wpAny (model prog w) A (call (.type "set") [.ref l]) Q E s := by
 refine m7 fun led hle => ?_
 have hS : (s.heap.push { cls := .type "set", dict := none, data := .set #[] 0 (.fresh 0 0 led) }).get? s.heap.objs.size = some { cls := .type "set", dict := none, data := .set #[] 0 (.fresh 0 0 led) } := Heap.get?_push_size _ rfl
 have hT : Shared.TypeIs { s with heap := s.heap.push { cls := .type "set", dict := none, data := .set #[] 0 (.fresh 0 0 led) } } (.ref s.heap.objs.size) "set" := ⟨_, hS, rfl⟩
 have ll : l < s.heap.objs.size := by obtain ⟨o, ho, _⟩ := hl; exact Heap.lt_size ho
 have hT2 : Shared.TypeIs { s with heap := s.heap.push { cls := .type "set", dict := none, data := .set #[] 0 (.fresh 0 0 led) } } (.ref l) "list" := by
  obtain ⟨o, ho, hc, _⟩ := hl
  exact ⟨o, Heap.get?_push_of_some _ ho, hc⟩
 have S0 := yo (prog := prog) (w := w) (s := s) led hle
 have hl1 : (s.heap.push { cls := .type "set", dict := none, data := .set #[] 0 (.fresh 0 0 led) }).IsList l items := hl.push _
 have sz1 : (s.heap.push { cls := .type "set", dict := none, data := .set #[] 0 (.fresh 0 0 led) }).objs.size = s.heap.objs.size + 1 := Heap.size_push ..
 have kp1 : ∀ b o, s.heap.get? b = some o -> (s.heap.push { cls := .type "set", dict := none, data := .set #[] 0 (.fresh 0 0 led) }).get? b = some o := fun b o e => Heap.get?_push_of_some _ e
 unfold Builtin.«set.__init__» noKeywords
 wp_walk
 refine wpAny_of_eq tW ?_
 show wpAny _ _ (isInstance (.ref l) (.type "frozenset")) _ _ _
 refine wpAny_isInstance hT2 uz ?_
 simp only [Bool.false_eq_true, if_false]
 refine wpAny_bind (wpAny_typeOf hT2 ?_)
 rw [if_neg (by decide)]
 generalize s.heap.push { cls := .type "set", dict := none, data := .set #[] 0 (.fresh 0 0 led) } = h1 at *
 refine wpAny_bind (wpAny_pyIter_list hl1 ?_)
 refine wpAny_bind (wpAny_runValue ?_)
 have ne1 : s.heap.objs.size ≠ h1.objs.size := by omega
 refine vV (A := A.in1.in1) (I := h1.objs.size) (l := l) (items := items) hh ne1 (Nat.ne_of_gt ll) (Nat.ne_of_lt (by rw [sz1]; exact Nat.lt_succ_of_lt ll)) hn ks hk items.size 0 { s with heap := h1.push { cls := .type "list_iterator", data := .fields #[.ref l, .int 0 0] } } [] (by omega) (Nat.zero_le _) ⟨⟨_, Heap.get?_push_size _ rfl, rfl, rfl⟩, hl1.push _⟩ (S0.ext fun o e => Heap.get?_push_of_some _ e) (Nat.le_refl _) (by simp) fun h' tk ys kp S yl yk => ?_
 refine wpAny_pure (wpAny_pure ⟨rfl, hQ h' tk ys (fun b o e => ?_) S yl yk⟩)
 have lb : b < s.heap.objs.size := Heap.lt_size e
 exact kp b o (Nat.ne_of_lt lb) (Nat.ne_of_lt (by rw [sz1]; exact Nat.lt_succ_of_lt lb)) (Heap.get?_push_of_some _ (kp1 b o e))
end
end SW
namespace SW
open PySem PySem.SetTable ST PySem.W PyProof.Rows
section
variable {prog : Program} {w : World} {A : Around} {E : Value -> Shared -> Prop} {s : Shared}
theorem jv : ∀ ps : List (Int × Value), (∀ p ∈ ps, ∃ t, p.2 = Value.int p.1 t) -> IntsAre (ps.map (·.2)) (ps.map (·.1))
 | [], _ => .nil
 | (k, v) :: r, h => by
  obtain ⟨t, e⟩ := h (k, v) List.mem_cons_self
  have e' : v = Value.int k t := e
  subst e'
  exact .cons _ _ (jv r fun p hp => h p (List.mem_cons_of_mem _ hp))
theorem og : ∀ {vs : List Value} {ns : List Int}, IntsAre vs ns -> ∀ p ∈ ns.zip vs, ∃ t, p.2 = Value.int p.1 t
 | _, _, .nil, p, h => by cases h
 | _, _, .cons _ _ r, p, h => by
  rcases List.mem_cons.mp h with z | z
  ·exact ⟨_, by rw [z]⟩
  ·exact og r p z
theorem tE {a : Addr} {vs : List Value} {ns : List Int} {n : Nat} {P : PySem.Fin -> Shared -> Prop} (ho : s.heap.get? a = some (seqObj "list" vs.toArray n)) (hi : IntsAre vs ns) (h64 : vs.length < 64)
  (hP : ∀ h' (out : List Value) (ms : List Int) c2, IntsAre out ms -> ms.Perm ns -> ms.Pairwise (· <= ·) -> (∀ b o, b ≠ a -> s.heap.get? b = some o -> h'.get? b = some o) -> h'.get? a = some (seqObj "list" out.toArray c2) -> P (.done (.ret .none)) { s with heap := h' }) : wpAny (model prog w) A (Builtin.«list.sort» ⟨[.ref a], []⟩) P E s := by
 have lv : ns.length = vs.length := hi.length.symm
 obtain ⟨e1, ho1⟩ : ∃ e1, (s.heap.update a (Obj.mapSeq fun _ => (#[] : Array Value))).get? a = some (seqObj "list" #[] e1) := ⟨_, get?_update_seq ho fun _ => #[]⟩
 rw [list_sort_plain]
 refine wpAny_bind (listItems_at ho rfl ?_)
 refine wpAny_bind (listUpdate_at ho rfl ?_ (by rw [List.size_toArray, sizeLine_eq]; omega) (Nat.zero_le _))
 refine wpAny_bind (seqEpoch_at ho1 rfl ?_)
 refine wpAny_bind (wpAny_newTuple ?_ (by show vs.length <= _; rw [sizeLine_eq]; omega))
 refine wpAny_bind (wpAny_newList ?_ (Nat.zero_le _))
 refine wpAny_holding ?_
 show wpAny (model prog w) A _ P E { s with heap := ((s.heap.update a (Obj.mapSeq fun _ => (#[] : Array Value))).push (seqObj "tuple" vs.toArray 0)).push (seqObj "list" #[] 0) }
 have ho2 : (((s.heap.update a (Obj.mapSeq fun _ => (#[] : Array Value))).push (seqObj "tuple" vs.toArray 0)).push (seqObj "list" #[] 0)).get? a = some (seqObj "list" #[] e1) := Heap.get?_push_of_some _ (Heap.get?_push_of_some _ ho1)
 have oth : ∀ b o, b ≠ a -> s.heap.get? b = some o -> (((s.heap.update a (Obj.mapSeq fun _ => (#[] : Array Value))).push (seqObj "tuple" vs.toArray 0)).push (seqObj "list" #[] 0)).get? b = some o := fun b o hb e =>
  Heap.get?_push_of_some _ (Heap.get?_push_of_some _ ((Heap.get?_update_other _ _ (Ne.symm hb)).trans e))
 generalize ((s.heap.update a (Obj.mapSeq fun _ => (#[] : Array Value))).push (seqObj "tuple" vs.toArray 0)).push (seqObj "list" #[] 0) = H at ho2 oth ⊢
 have fin : ∀ xs : Array Keyed, xs.Perm (vs.toArray.zip vs.toArray) -> SortedTo xs xs.size -> P (.done (.ret .none)) { s with heap := H.update a (Obj.mapSeq fun _ => xs.map (·.2)) } := fun xs hp hs => by
  obtain ⟨ps, q1, q2, q3⟩ := ksk_out (b := false) (keys := vs.toArray) (vs := vs) (kz := ns) hi hp hs
  have q2' : xs.map (·.2) = List.toArray (ps.map Prod.snd) := by
   have : (xs.map (·.2)).toList = ps.map Prod.snd := q2
   rw [<- this, Array.toArray_toList]
  have zi := og hi
  rw [q2']
  obtain ⟨c2, hc2⟩ : ∃ c2, (H.update a (Obj.mapSeq fun _ => List.toArray (ps.map Prod.snd))).get? a = some (seqObj "list" (List.toArray (ps.map Prod.snd)) c2) := ⟨_, get?_update_seq ho2 fun _ => List.toArray (ps.map Prod.snd)⟩
  refine hP _ (ps.map Prod.snd) (ps.map Prod.fst) c2 (jv ps fun p hp' => zi p (q1.mem_iff.mp hp')) ?_ (List.pairwise_map.mpr q3) (fun b o hb e => (Heap.get?_update_other _ _ (Ne.symm hb)).trans (oth b o hb e)) hc2
  have := q1.map Prod.fst
  rw [List.map_fst_zip (Nat.le_of_eq lv)] at this
  exact this
 dsimp only
 have zz : (vs.toArray.zip vs.toArray).size = vs.length := by rw [Array.size_zip, List.size_toArray, Nat.min_self]
 by_cases hn : vs.toArray.size < 2
 ·rw [if_pos hn, if_pos hn]
  refine wpAny_bind (wpAny_pure ?_)
  rw [StateT.run_pure]
  refine wpAny_bind (wpAny_pure ?_)
  dsimp only
  refine wpAny_bind (seqEpoch_at ho2 rfl ?_)
  refine wpAny_bind (listUpdate_at ho2 rfl ?_ (hsz2 := by rw [Array.size_map]; show (vs.toArray.zip vs.toArray).size <= _; rw [zz, sizeLine_eq]; omega))
  simp only [bne_self_eq_false, Bool.false_eq_true, if_false]
  refine wpAny_pure (fin (vs.toArray.zip vs.toArray) (Array.Perm.refl _) fun i j hij hj => ?_)
  rw [zz] at hj
  rw [List.size_toArray] at hn
  have : i = j := by omega
  subst this
  exact Int.le_refl _
 ·rw [if_neg hn, if_neg hn]
  rw [List.size_toArray] at hn
  rw [ksk_kind (keys := vs.toArray) hi (by rw [List.size_toArray]; omega)]
  refine wpAny_bind (wpAny_pure ?_)
  refine wpAny_bind (wpAny_mono (wpS_sortRuns (a₀ := vs.toArray.zip vs.toArray) (st := SortSt.mk' oneType' (vs.toArray.zip vs.toArray) #[] 7 none)
   (Q := fun _ st' => (arrOf st').Perm (vs.toArray.zip vs.toArray) /\ failedOf st' = none /\ SortedTo (arrOf st') (vs.toArray.zip vs.toArray).size)
   (ksk_intKeys (keys := vs.toArray) hi) ⟨Array.Perm.refl _, rfl, rfl, rfl⟩ (by rw [zz]; omega) (by rw [zz]; exact h64) fun st' a1 a2 a3 => ⟨a1, a2, a3⟩) ?_ fun _ _ e => e)
  rintro ⟨⟨⟩, st'⟩ s' ⟨rfl, hp, hf, hs⟩
  dsimp only
  refine wpAny_bind (seqEpoch_at ho2 rfl ?_)
  refine wpAny_bind (listUpdate_at ho2 rfl ?_ (Nat.zero_le _) (by rw [Array.size_map, hp.size_eq, zz, sizeLine_eq]; omega))
  rw [hf]
  simp only [bne_self_eq_false, Bool.false_eq_true, if_false]
  exact wpAny_pure (fin (arrOf st') hp (by rw [hp.size_eq]; exact hs))
theorem qy {a : Addr} {xs : List (Int × Tok)} {Q : Value -> Shared -> Prop} (hh : A.handled = none) (X : gL prog w s.heap a xs) (h64 : xs.length < 64)
  (hQ : ∀ s' (D : Addr) (out : List Value) (ms : List Int) c, (∀ b o, s.heap.get? b = some o -> s'.heap.get? b = some o) -> s'.gens = s.gens -> s'.drawn = s.drawn -> s'.os = s.os -> s.heap.objs.size <= D -> IntsAre out ms -> ms.Perm (xs.map (·.1)) -> ms.Pairwise (· < ·) →
   s'.heap.get? D = some (seqObj "list" out.toArray c) -> Q (.ref D) s') : wpAny (model prog w) A (call (.builtin "sorted") [.ref a]) Q E s := by
 obtain ⟨⟨o, es, ep, t, ho, hex, hd, he, T, hpl, _⟩, nd⟩ := X
 have sz : es.size = xs.length := by rw [<- Array.length_toList, he, List.length_map]
 refine Calls.call_function_entry kind_sorted plain_sorted entry_sorted (args_sorted1 _) ?_
 unfold Builtin.«sorted»
 refine wpAny_bind (m := checkCount "sorted" 1 1 _) (wpAny_pure ?_)
 refine wpAny_bind (kK (show A.in1.handled = none from hh) ho hex.1 hd T (by rw [List.length_map, sz]) hpl (by omega) fun s1 acc kp g1 g2 g3 le ea => ?_)
 obtain ⟨zs, pz, ez⟩ := o7 (iG w a es ep) xs he
 have ea' : acc = zs.map fun z => Value.int z.1 z.2 := by rw [ea, ez, List.map_map]; rfl
 have lz : zs.length = xs.length := pz.length_eq
 have hi : IntsAre acc (zs.map (·.1)) := by
  rw [ea']
  have := jv (zs.map fun z => (z.1, Value.int z.1 z.2)) fun p hp => by
   obtain ⟨z, _, rfl⟩ := List.mem_map.mp hp
   exact ⟨z.2, rfl⟩
  rw [List.map_map, List.map_map] at this
  exact this
 have la : acc.length = xs.length := by rw [ea', List.length_map, lz]
 refine wpAny_bind (wpAny_newList ?_ (by rw [la, sizeLine_eq]; omega))
 have hoL : (s1.heap.push (seqObj "list" acc.toArray 0)).get? s1.heap.objs.size = some (seqObj "list" acc.toArray 0) := Heap.get?_push_size _ rfl
 have kp2 : ∀ b o, s.heap.get? b = some o -> (s1.heap.push (seqObj "list" acc.toArray 0)).get? b = some o := fun b o e => Heap.get?_push_of_some _ (kp b o e)
 show wpAny _ _ _ _ _ { s1 with heap := s1.heap.push (seqObj "list" acc.toArray 0) }
 refine wpAny_bind (wpAny_holding (wpAny_call_entry slot_list_sort ⟨_, hoL, rfl⟩ entry_list_sort ?body (args_list_sort _)))
 case body =>
  refine tE (s := { s1 with heap := s1.heap.push (seqObj "list" acc.toArray 0) }) hoL hi (by omega) fun h' out ms c2 hio hpm hsm oth hD => ?_
  have pm : ms.Perm (xs.map (·.1)) := hpm.trans (pz.map (·.1))
  refine ⟨_, rfl, wpAny_pure ⟨_, rfl, hQ _ s1.heap.objs.size out ms c2 (fun b o e => ?_) g1 g2 g3 le hio pm ?_ hD⟩⟩
  ·exact oth b o (Nat.ne_of_lt (Nat.lt_of_lt_of_le (Heap.lt_size e) le)) (kp2 b o e)
  ·have n2 : ms.Nodup := pm.nodup_iff.mpr nd
   exact (hsm.and n2).imp fun {x y} q => by have := q.1; have := q.2; omega
end
end SW
namespace PD
open PySem PySem.Spec PyProof.Rows L2
section
variable {X : Cx} {pos : Pos}
def nJ (te : DE) : DA := fun ρ Q => te ρ fun d => ∃ (t : Bool) (ns : List Int), d = .lst t (ns.map D.int) /\ ns.length <= 4 /\ ∀ ms : List Int, ms.Pairwise (· < ·) -> (∀ k, k ∈ ms ↔ k ∈ ns) -> Q (ms.map D.int)
theorem fG : ∀ {out : List Value} {ms : List Int}, IntsAre out ms -> Vals (ms.map V.int) out
 | _, _, .nil => .nil
 | _, _, .cons n t r => .cons ⟨t, rfl⟩ (fG r)
theorem gn {K : PySem.W.Frag} {P : Bool -> Addr -> Prop} {H : Hp} : ∀ ms : List Int, ah K P H (ms.map D.int) (ms.map V.int)
 | [] => rfl
 | n :: ms => ah.cons (Den.int n) (gn ms)
theorem qA {e : Expr} {te : DE} {p p2 pos2 : Pos} (hc : X.calm = true) (hg : Gl X "sorted") (hm : X.mg "sorted" = none) (hg2 : Gl X "set") (hm2 : X.mg "set" = none) (he : PED X e te)
  (hst : starEach [.Call (.Name "set" p2) [e] [] pos2] X.env = (false, eval (.Call (.Name "set" p2) [e] [] pos2) X.env) :: starEach [] X.env := by rfl) (hpl : (backTo pos (starEach [] X.env)).any (·.1) = false := by rfl)
  (hst2 : starEach [e] X.env = (false, eval e X.env) :: starEach [] X.env := by rfl) (hpl2 : (backTo pos2 (starEach [] X.env)).any (·.1) = false := by rfl) :
  PEF X (.Call (.Name "sorted" p) [.Call (.Name "set" p2) [e] [] pos2] [] pos) (nJ te) := by
 intro pins s σ H W ρ Q I r h
 refine wpAny_Call_Name_kw (cS I hg hm boot_sorted ?_ (by decide) (by decide))
 refine PyProof.Rows.callWith_builtin1 ?_ hst hpl
 rw [hst]
 show wpAny _ _ (spliced ((false, eval (.Call (.Name "set" p2) [e] [] pos2) X.env) :: backTo pos (starEach [] X.env))) _ _ s
 refine Calls.spliced_cons ?_
 refine wpAny_Call_Name_kw (cS I hg2 hm2 boot_set ?_ (by decide) (by decide))
 refine PyProof.Rows.callWith_type1 ?_ hst2 hpl2
 rw [hst2]
 show wpAny _ _ (spliced ((false, eval e X.env) :: backTo pos2 (starEach [] X.env))) _ _ s
 refine Calls.spliced_cons (thn (he pins s σ H W ρ _ I r h) fun u s1 ⟨v, H1, d, I1, rv, e1, hd, t, ns, ed, lk, q⟩ => ?_)
 subst ed
 obtain ⟨l, vs, ev, _, hq, hw⟩ := hd.lst_
 subst ev
 cases rv
 refine wpAny_pure ?_
 obtain ⟨its, rv, pl, _⟩ := I1.list hq
 have hh := I1.ok.hd hc
 rw [bE hw] at rv
 have ia := intsAre_of rv
 have lit : its.length = ns.length := ia.length
 refine SW.nX hh pl.isList (by rw [List.size_toArray]; omega) (fun j => ns.getD j 0) (fun j v hj => IntsAre.int_at ia j v (by simpa using hj)) fun h2 tk2 ys kp S yl yk => ?_
 have I2 : L2.Inv X pins σ H1 { s1 with heap := h2, toks := tk2 } := I1.kept kp
 refine wpAny_pure ?_
 rw [List.size_toArray] at yl yk
 have memk : ∀ k, k ∈ ys.map (·.1) ↔ k ∈ ns := fun k => by
  rw [yk k]
  constructor
  ·rintro ⟨j, lj, e⟩
   rw [lit] at lj
   rw [e, show ns.getD j 0 = ns[j] by simp [lj]]
   exact List.getElem_mem lj
  ·intro hk
   obtain ⟨j, lj, e⟩ := List.getElem_of_mem hk
   exact ⟨j, by rw [lit]; exact lj, by rw [<- e]; simp [lj]⟩
 refine SW.qy (s := { s1 with heap := h2, toks := tk2 }) hh S (by omega) fun s' D out ms c kp' g1 g2 g3 le hio pm sm hD => ?_
 have es : s' = { s1 with heap := s'.heap, toks := s'.toks } := by cases s'; dsimp only at g1 g2 g3 ⊢; subst g1 g2 g3; rfl
 have hz : s1.heap.objs.size <= D := by
  obtain ⟨_, _, _, _, ho, _⟩ := S.ex
  exact Nat.le_of_lt (Nat.lt_of_lt_of_le (Heap.lt_size ho) le)
 have nD : H1 D = none := I1.hok.fresh hz
 have lm : ms.length <= 4 := by
  have h1 := pm.length_eq
  rw [List.length_map] at h1
  omega
 have I3 : L2.Inv X pins σ (L2.upd H1 D (.lst (ms.map V.int))) s' := by
  rw [es]
  exact I1.laid (fun b u e => kp' b u (kp b u e)) hz ⟨by rw [List.length_map, sizeLine_eq]; omega, out, c, fG hio, hD⟩
 have kn := Inv.kno I3 aD
 exact ⟨D, _, _, _, rfl, I3, e1.trans (ar.upd nD), e1.free nD, kn, aD, ah.apart nD kn (gn ms), q ms sm fun k => by rw [pm.mem_iff]; exact memk k⟩
end
end PD
namespace PD
open PySem PySem.Spec PyProof.Rows L2
section
variable {X : Cx}
def BDP (X : Cx) (pins : List (Addr × Obj)) (W : Own) (Q : D -> Prop) (f : Flow) (s1 : Shared) : Prop :=
 ∃ u v d σ' H', f = .ret u /\ Inv X pins σ' H' s1 /\ RelV v u /\ ar X.H₀ H' /\ Den X.K (fun t a => W.B a ∨ (t = true /\ W.S a)) H' d v /\ Q d
abbrev DB := (D -> Prop) -> Ro -> Prop
def PBd (X : Cx) (ss : List Stmt) (t : DB) : Prop :=
 ∀ (pins : List (Addr × Obj)) (s : Shared) (σ : St) (H : Hp) (W : Own) (ρ : Ro) (Q : D -> Prop), Inv X pins σ H s -> Rel X W H σ ρ -> (∀ a o, X.H₀ a = some o -> W.S a) -> t Q ρ →
  wpAny (model X.prog X.w) X.A (execs ss X.env) (BDP X pins W Q) X.xe s
theorem Fwd.ent {W W' : Own} {H H' : Hp} {σ : St} {ρ : Ro} (f : Fwd W H W' H') (r : Rel X W H σ ρ) : ar X.H₀ H' where
 kp := fun b o e n => f.kp b o (fun i z => by have := r.ke i b z; rw [e] at this; cases this) (r.ent.kp b o e n) n
 tb := fun b ps e => by
  obtain ⟨m1, h1⟩ := r.ent.tb b ps e
  obtain ⟨m2, h2⟩ := f.tb b _ h1
  exact ⟨m1 ++ m2, by rw [h2, Array.append_assoc]⟩
 ok := fun k => f.ok (r.ent.ok k)
theorem oW {K : PySem.W.Frag} {W W' : Own} {H H' : Hp} {d : D} {v : V} (f : Fwd W H W' H') (h : Den K W'.bad H' d v) : Den K (fun t a => W.B a ∨ (t = true /\ W.S a)) H' d v := h.fewer fun t a z => by
 rcases z with z | z
 ·exact .inl (by rw [f.B]; exact z)
 ·exact .inr (.inr ⟨z.1, by rw [f.S]; exact z.2⟩)
def oX (t : DS) (u : DB) : DB := fun Q ρ => t { nx := u Q, rt := Q } ρ
theorem kh {st : Stmt} {rest : List Stmt} {t : DS} {u : DB} (h1 : PSD X st t) (h2 : PBd X rest u) : PBd X (st :: rest) (oX t u) := by
 intro pins s σ H W ρ Q I r s0 h
 refine wpAny_execs_cons (thn (h1 pins s σ H W ρ _ I r h) fun f s1 ⟨W', σ', H', I', fw, q⟩ => ?_)
 cases f with
 | next =>
  obtain ⟨ρ', r', q⟩ := q
  refine thn (h2 pins s1 σ' H' W' ρ' Q I' r' (by rw [fw.S]; exact s0) q) fun f2 s2 ⟨w, v, d, σ2, H2, e, I2, rv, sm, hd, qd⟩ => ⟨w, v, d, σ2, H2, e, I2, rv, sm, ?_, qd⟩
  rw [fw.B, fw.S] at hd
  exact hd
 | ret w =>
  obtain ⟨v, d, rv, hd, qd⟩ := q
  exact ⟨w, v, d, σ', H', rfl, I', rv, fw.ent r, oW fw hd, qd⟩
 | brk => obtain ⟨_, _, q⟩ := q; exact q.elim
 | cont => obtain ⟨_, _, q⟩ := q; exact q.elim
def rQ (t : DS) : DB := fun Q ρ => t { nx := fun _ => False, rt := Q } ρ
theorem ze {st : Stmt} {t : DS} (h1 : PSD X st t) : PBd X [st] (rQ t) := by
 intro pins s σ H W ρ Q I r s0 h
 refine wpAny_execs_cons (thn (h1 pins s σ H W ρ _ I r h) fun f s1 ⟨W', σ', H', I', fw, q⟩ => ?_)
 cases f with
 | next => obtain ⟨_, _, q⟩ := q; exact q.elim
 | ret w =>
  obtain ⟨v, d, rv, hd, qd⟩ := q
  exact ⟨w, v, d, σ', H', rfl, I', rv, fw.ent r, oW fw hd, qd⟩
 | brk => obtain ⟨_, _, q⟩ := q; exact q.elim
 | cont => obtain ⟨_, _, q⟩ := q; exact q.elim
def AF (X : Cx) (t : DB) : TS := fun D σ H => ∃ W ρ Q, Rel X W H σ ρ /\ (∀ a o, X.H₀ a = some o -> W.S a) /\ t Q ρ /\ ∀ H' v d, ar X.H₀ H' -> Den X.K (fun t a => W.B a ∨ (t = true /\ W.S a)) H' d v -> Q d -> D.rt v H'
theorem PBd.ps {ss : List Stmt} {t : DB} (h : PBd X ss t) : PSs X ss (AF X t) := by
 intro pins s σ H D I q
 obtain ⟨W, ρ, Q, r, s0, ht, k⟩ := q
 refine thn (h pins s σ H W ρ Q I r s0 ht) fun f s1 ⟨u, v, d, σ', H', e, I1, rv, sm, hd, qd⟩ => ?_
 subst e
 exact ⟨v, σ', H', I1, rv, k H' v d sm hd qd⟩
theorem PBd.nox {ss : List Stmt} {t : DB} (h : PBd X.nox ss t) : PBd X ss t := fun pins s σ H W ρ Q I r s0 hw =>
 wpAny_mono (h pins s σ H W ρ Q (I.wish _) (r.wish _) s0 hw) (fun _ _ ⟨u, v, d, σ', H', e, I1, q⟩ => ⟨u, v, d, σ', H', e, I1.unwish, q⟩) fun _ _ z => False.elim z
end
section
variable {P : Program} {w : World} {K : PySem.W.Frag} {mg : Str -> Option Value} {base : Heap}
theorem ax.okB {x qual : Str} {st : Stmt} {f : Addr} {fd : FuncData} {N ps : List Str} {k : Nat} {sp : DSp} (F : ax K x qual st f fd) (S : ay N ps (ao st)) (len : ∀ ds Q E, sp ds Q E -> ds.length = ps.length)
  (hbody : ∀ (cdv : Value) (A : Around) (outer : List Env) (s : Shared) (H : Hp) (E : XK), bI k (A.deeper (envOfC qual (ao st) s.heap.objs.size f cdv)) →
   ∃ t, PBd (cA (CX1 P w) P w K mg base N qual (ao st) f cdv A outer s H E).nox (bK st) t /\ ∀ ds Q Ed, sp ds Q Ed -> t Q (aB N ds)) : aI P w K mg base (CX1 P w) (k + 1) f fd ps (aM K sp) := by
 obtain ⟨oc, od, dV, kV, doc, pm, an, cdv, ct, osl, rfl, lk, hcd⟩ := F.ex
 refine w6 lk hcd S (fun vs H Q E h => ?_) fun A outer s H vs Q E hr h => ?_
 ·obtain ⟨_, ds, _, _, _, _, hd, hs, _⟩ := h
  rw [hd.len]
  exact len ds _ _ hs
 ·obtain ⟨Pb, ds, Qd, Ed, hT, hP, hd, hs, kq, ke⟩ := h
  obtain ⟨t, ht, k⟩ := hbody cdv A outer s H E hr
  refine ⟨_, ht.nox.ps, ⟨Pb, fun _ => none, fun a => ∃ o, H a = some o⟩, _, Qd, Rel.start hP hd rfl hT, fun a o e => ⟨o, e⟩, k ds Qd Ed hs, fun H' v d sm hd' q => ?_⟩
  exact kq d v H' sm hd' q
end
end PD
namespace PD
open PySem PySem.Spec PyProof.Rows L2
section
variable {X : Cx}
theorem Rel.forget {W : Own} {H : Hp} {σ : St} {ρ : Ro} (r : Rel X W H σ ρ) (i : Nat) : Rel X W H σ (ρ.set i none) where
 val := fun j d h => by
  by_cases e : j = i
  ·subst e
   by_cases l : j < ρ.length
   ·rw [List.getElem?_set_self l] at h; cases h
   ·rw [List.getElem?_eq_none (by rw [List.length_set]; omega)] at h; cases h
  ·rw [List.getElem?_set_ne (Ne.symm e)] at h; exact r.val j d h
 own := fun j d h => by
  by_cases e : j = i
  ·subst e
   by_cases l : j < ρ.length
   ·rw [List.getElem?_set_self l] at h; cases h
   ·rw [List.getElem?_eq_none (by rw [List.length_set]; omega)] at h; cases h
  ·rw [List.getElem?_set_ne (Ne.symm e)] at h; exact r.own j d h
 inj := r.inj
 kn := r.kn
 ke := r.ke
 bt := r.bt
 st := r.st
 ent := r.ent
 tab := r.tab
theorem Rel.apart {W : Own} {H H' : Hp} {σ : St} {ρ : Ro} {Z : Addr -> Prop} (r : Rel X W H σ ρ) (ag : ∀ a, ¬ Z a -> H' a = H a) (ls : ∀ a, Z a -> ∃ us us', H a = some (.lst us) /\ H' a = some (.lst us')) (nO : ∀ i a, W.O i = some a -> ¬ Z a)
  (hv : ∀ (j : Nat) (d : D) (v : V), ρ[j]? = some (some (Sl.val d)) -> σ[j]? = some (some v) -> Den X.K W.bad H d v -> Den X.K (fun t a => W.bad t a ∨ Z a) H d v)
  (ho : ∀ (j : Nat) (x : OS), ρ[j]? = some (some (Sl.ob x)) -> ∃ zs, x = OS.lst zs /\ cW zs = true) (ent : ar X.H₀ H') (tab : d6 X.K H') : Rel X W H' σ ρ := by
 have noT : ∀ c ws, SqT X.K H c ws -> SqT X.K H' c ws := fun c ws q => by
  have ne : ∀ o, H c = some o -> (∀ us, o ≠ .lst us) -> H' c = some o := fun o q n => by
   rw [ag c fun z => by obtain ⟨us, _, h1, _⟩ := ls c z; rw [h1] at q; cases q; exact n us rfl]; exact q
  rcases q with (q | ⟨u, q⟩) | q
  ·exact .inl (.inl (ne _ q fun us z => by cases z))
  ·exact .inl (.inr ⟨u, ne _ q fun us z => by cases z⟩)
  ·exact .inr q
 have noX : ∀ c φ, H c = some (.ext φ) -> H' c = some (.ext φ) := fun c φ q => by
  rw [ag c fun z => by obtain ⟨us, _, h1, _⟩ := ls c z; rw [h1] at q; cases q]; exact q
 have noL : ∀ t c ws, ¬ (W.bad t c ∨ Z c) -> SqG X.K H t c ws -> ¬ W.bad t c /\ SqG X.K H' t c ws := fun t c ws n q => by
  have e := ag c fun z => n (.inr z)
  refine ⟨fun z => n (.inl z), ?_, fun z => ⟨by rw [e]; exact (q.2 z).1, (q.2 z).2⟩⟩
  rcases q.1 with (q | ⟨u, q⟩) | q
  ·exact .inl (.inl (by rw [e]; exact q))
  ·exact .inl (.inr ⟨u, by rw [e]; exact q⟩)
  ·exact .inr q
 have tr : ∀ c u, H c = some u -> ∃ u', H' c = some u' := fun c u q => by
  by_cases z : Z c
  ·obtain ⟨_, us', _, h2⟩ := ls c z; exact ⟨_, h2⟩
  ·exact ⟨u, by rw [ag c z]; exact q⟩
 refine ⟨fun j d h => ?_, fun j x h => ?_, r.inj, fun j a h => ?_, r.ke, fun a h => let ⟨u, q⟩ := r.bt a h; tr a u q, fun a h => let ⟨u, q⟩ := r.st a h; tr a u q, ent, tab⟩
 ·obtain ⟨v, h1, h2⟩ := r.val j d h
  exact ⟨v, h1, Den.map noT noL noX d v (hv j d v h h1 h2)⟩
 ·obtain ⟨zs, rfl, hz⟩ := ho j x h
  obtain ⟨a, vs, h1, h2, h3, h4⟩ := r.ownL j zs h
  refine ⟨a, .lst vs, h1, h2, by rw [ag a (nO j a h1)]; exact h3, .lst ?_⟩
  exact ah.map noT noL noX zs vs (ah.nol zs vs hz h4)
 ·obtain ⟨k1, k2, o, k3, k4⟩ := r.kn j a h
  exact ⟨k1, k2, o, by rw [ag a (nO j a h)]; exact k3, k4⟩
def zO (d : D) : Prop := lF d = true ∨ ∃ t x zs, d = .lst t (.tup x :: zs) /\ cW (.tup x :: zs) = true
theorem xY {K : PySem.W.Frag} {P : Bool -> Addr -> Prop} {H : Hp} {Z : Addr -> Prop} {d : D} {v : V} (hZ : ∀ a, Z a -> K.lookup a = none /\ ∃ (n : Int) (us : List V), H a = some (.lst (.int n :: us))) (h : zO d) (hd : Den K P H d v) : Den K (fun t a => P t a ∨ Z a) H d v := by
 rcases h with h | ⟨t, x, zs, rfl, h⟩
 ·exact Den.nol d v h hd
 ·obtain ⟨a, vs, e, n, q, hds⟩ := hd.lstG_
  subst e
  have hds' := hds
  obtain ⟨u, r, ev, hu, _⟩ := hds'
  obtain ⟨b, ws, eu, _, _⟩ := hu.tup_
  subst eu
  subst ev
  have nz : ¬ Z a := fun z => by
   obtain ⟨k0, m, us, h1⟩ := hZ a z
   rcases q.1 with (q1 | ⟨w, q1⟩) | ⟨o, its, n', q1, _⟩
   ·rw [h1] at q1; cases q1
   ·rw [h1] at q1; cases q1
   ·rw [k0] at q1; cases q1
  exact Den.lst (fun z => z.elim n nz) q (ah.nol _ _ h hds)
end
end PD
namespace PD
open PySem PySem.Spec PyProof.Rows L2
section
variable {X : Cx}
def rLs (K : PySem.W.Frag) : List V -> Hp -> VK -> Prop := fun xs H Q => ∃ p ys, xs = [.ref p] /\ (SqL K H p ys ∨ SqT K H p ys) /\ ∀ l, H l = none -> Q (.ref l) (L2.upd H l (.lst ys))
def tLi (K : PySem.W.Frag) (i : Nat) (k : Int) : TE := tCB (rLs K) (hV (tOp (wN K) (sr i) (tC (.int k))) om)
theorem xb {x : Str} {k : Int} {p px pk ps pos : Pos} {j : Nat} (i : Nat) (hg : Gl X "list") (hm : X.mg "list" = none) (hi : X.N[i]? = some x := by rfl) (hv : Vis X.env.scope x := by first | exact Or.inl rfl | exact Or.inr (Or.inl rfl) | exact Or.inr (Or.inr rfl)) (hd : (x == ("__debug__" : Str)) = false := by decide) (hcd : (x == ("__classdict__" : Str)) = false := by decide)
  (hst : starEach [.Subscript (.Name x px) (.Constant (.int k) j pk) ps] X.env = (false, eval (.Subscript (.Name x px) (.Constant (.int k) j pk) ps) X.env) :: starEach [] X.env := by rfl) (hpl : (backTo pos (starEach [] X.env)).any (·.1) = false := by rfl) :
  PE X (.Call (.Name "list" p) [.Subscript (.Name x px) (.Constant (.int k) j pk) ps] [] pos) (tLi X.K i k) :=
 nC jZ hg hm boot_list (cD (xg qg (gH hi hv hd hcd) l4 (by intro _ _; rfl)) gy hst) (by decide) (by decide) hst hpl
def tAp (K : PySem.W.Frag) (i : Nat) (k c : Int) : TS := xo (tBM K "list" rB (tOp (wN K) (sr i) (tC (.int k))) (hV (tC (.int c)) om))
theorem xj {x : Str} {k c : Int} {px pk ps apos pc cpos pos : Pos} {j j' : Nat} (i : Nat) (hi : X.N[i]? = some x := by rfl) (hv : Vis X.env.scope x := by first | exact Or.inl rfl | exact Or.inr (Or.inl rfl) | exact Or.inr (Or.inr rfl)) (hd : (x == ("__debug__" : Str)) = false := by decide) (hcd : (x == ("__classdict__" : Str)) = false := by decide)
  (hbase : attributeBase (.Subscript (.Name x px) (.Constant (.int k) j pk) ps) "append" X.env (eval (.Subscript (.Name x px) (.Constant (.int k) j pk) ps) X.env) = eval (.Subscript (.Name x px) (.Constant (.int k) j pk) ps) X.env := by rfl)
  (hfew : ((backTo cpos (starEach [.Constant (.int c) j' pc] X.env)).all (fun x => !x.1) && (backToKw cpos (keywordEach [] X.env)).all (fun x => x.1.isSome) && decide ([Expr.Constant (.int c) j' pc].length + ([] : List Keyword).length + (if ([] : List Keyword).isEmpty then 0 else 1) < 30)) = true := by rfl)
  (hline : (apos.endLine == cpos.line) = true := by rfl) (hst : starEach [.Constant (.int c) j' pc] X.env = (false, eval (.Constant (.int c) j' pc) X.env) :: starEach [] X.env := by rfl) (hplain : (backTo cpos (starEach [] X.env)).any (·.1) = false := by rfl)
  (hs : swapsWith (.Call (.Attribute (.Subscript (.Name x px) (.Constant (.int k) j pk) ps) "append" apos) [.Constant (.int c) j' pc] [] cpos) none pos.line X.env = pure false := by rfl) :
  PS X (.Expr (.Call (.Attribute (.Subscript (.Name x px) (.Constant (.int k) j pk) ps) "append" apos) [.Constant (.int c) j' pc] [] cpos) pos) (tAp X.K i k c) :=
 j8 (pos := pos) (rR PySem.F.plainAttrs_list PySem.F.slot_list_append PySem.F.type_list_append jE (xg qg (gH hi hv hd hcd) l4 (by intro _ _; rfl)) (cD l4 gy hst) hbase hfew hline hst hplain) hs
def zv (ix iy : Nat) (c : Str) (t : DB) : DB := fun Q ρ => ∃ (d0 : D) (k0 n0 : Int) (ks ns : List Int), ρ[ix]? = some (some (Sl.val (.tup [d0, .lst true ((k0 :: ks).map D.int), .lst true ((n0 :: ns).map D.int)]))) /\ (k0 :: ks).length < 1000 /\ (n0 :: ns).length < 1000 ∧
 (∀ (j : Nat) (d : D), j ≠ ix -> j ≠ iy -> ρ[j]? = some (some (Sl.val d)) -> zO d) /\ (∀ (j : Nat) (x : OS), j ≠ ix -> j ≠ iy -> ρ[j]? = some (some (Sl.ob x)) -> ∃ zs, x = OS.lst zs /\ cW zs = true) ∧
 t Q ((ρ.set ix none).set iy (some (.val (.tup [.str c, .lst true ((k0 :: ks).map D.int), .lst true ((n0 :: ns).map D.int)]))))
theorem vi {s1 s2 s3 : Stmt} {rest : List Stmt} {t3 : DB} {c y : Str} {ix iy : Nat} (hy : X.N[iy]? = some y) (hne : ix ≠ iy) (P1 : PS X s1 (y3 (zo (hV (tC (.str c)) (hV (tLi X.K ix 1) (hV (tLi X.K ix 2) om)))) (xm iy))) (P2 : PS X s2 (tAp X.K ix 1 0)) (P3 : PS X s3 (tAp X.K ix 2 0)) (h3 : PBd X rest t3) :
  PBd X (s1 :: s2 :: s3 :: rest) (zv ix iy c t3) := by
 intro pins s σ H W ρ Q I r s0 ht
 obtain ⟨d0, k0, n0, ks, ns, ex, lk, ln, hfar, hown, ht⟩ := ht
 obtain ⟨v, sx, hd⟩ := r.val ix _ ex
 obtain ⟨tA, vs, rfl, qT, hds⟩ := hd.tup_
 obtain ⟨v0, r0, e0, hd0, v1, r1, e1, hd1, v2, r2, e2, hd2, e3⟩ := hds
 obtain ⟨b1, us1, rfl, nb1, q1, hu1⟩ := hd1.lstG_
 obtain ⟨b2, us2, rfl, nb2, q2, hu2⟩ := hd2.lstG_
 have eu1 := bE hu1
 have eu2 := bE hu2
 subst eu1 eu2
 have h1 := (q1.2 rfl).1
 have h2 := (q2.2 rfl).1
 have ev : vs = [v0, .ref b1, .ref b2] := by rw [e0, e1, e2, e3]
 subst ev
 have il : iy < σ.length := Inv.ilt I hy
 have la1 : ((k0 :: ks).map V.int).length < 1000 := by rw [List.length_map]; exact lk
 have la2 : ((n0 :: ns).map V.int).length < 1000 := by rw [List.length_map]; exact ln
 generalize eU1 : (k0 :: ks).map V.int = U1 at *
 generalize eU2 : (n0 :: ns).map V.int = U2 at *
 refine wpAny_execs_cons (thn (P1 pins s σ H { nx := fun σ' H' => ∃ b3 b4 t', H b3 = none /\ L2.upd H b3 (.lst U1) b4 = none /\ L2.upd (L2.upd H b3 (.lst U1)) b4 (.lst U2) t' = none /\ σ' = σ.set iy (some (.ref t')) /\ H' = L2.upd (L2.upd (L2.upd H b3 (.lst U1)) b4 (.lst U2)) t' (.tup [.str c, .ref b3, .ref b4]), rt := fun _ _ => False } I ?_) fun f s1' q => ?_)
 ·refine ⟨.ref tA, sx, tA, _, 1, .ref b1, rfl, rfl, qT, rfl, b1, U1, rfl, .inl q1.1, fun b3 hb3 => ?_⟩
  have sm1 := ar.upd (o := .lst U1) hb3
  refine ⟨.ref tA, sx, tA, _, 2, .ref b2, rfl, rfl, SqT.same sm1 qT, rfl, b2, U2, rfl, .inl (SqG.same sm1 q2).1, fun b4 hb4 => ⟨by rw [sizeLine_eq]; show 3 <= _; omega, fun t' ht' => ?_⟩⟩
  exact ⟨b3, b4, t', hb3, hb4, ht', rfl, rfl⟩
 cases f with
 | ret w => obtain ⟨_, _, _, _, _, z⟩ := q; exact z.elim
 | brk => obtain ⟨_, _, _, z⟩ := q; exact z.elim
 | cont => obtain ⟨_, _, _, z⟩ := q; exact z.elim
 | next =>
 obtain ⟨σ1, H3, I3, b3, b4, t', hb3, hb4, ht', rfl, eH3⟩ := q
 have sm1 := ar.upd (o := .lst U1) hb3
 have sm2 := ar.upd (o := .lst U2) hb4
 have sm3 := ar.upd (o := .tup [.str c, .ref b3, .ref b4]) ht'
 have sm : ar H H3 := by rw [eH3]; exact (sm1.trans sm2).trans sm3
 have g3 : H3 b3 = some (.lst U1) := by rw [eH3]; exact sm3 _ _ (sm2 _ _ aD)
 have g4 : H3 b4 = some (.lst U2) := by rw [eH3]; exact sm3 _ _ aD
 have gt : H3 t' = some (.tup [.str c, .ref b3, .ref b4]) := by rw [eH3]; exact aD
 have g1 : H3 b1 = some (.lst U1) := sm _ _ h1
 have g2 : H3 b2 = some (.lst U2) := sm _ _ h2
 have n31 : b3 ≠ b1 := fun e => by rw [e, h1] at hb3; cases hb3
 have n32 : b3 ≠ b2 := fun e => by rw [e, h2] at hb3; cases hb3
 have hb4' : H b4 = none := sm1.free hb4
 have n41 : b4 ≠ b1 := fun e => by rw [e, h1] at hb4'; cases hb4'
 have n42 : b4 ≠ b2 := fun e => by rw [e, h2] at hb4'; cases hb4'
 clear eH3
 have sx1 : (σ.set iy (some (.ref t')))[ix]? = some (some (V.ref tA)) := by rw [List.getElem?_set_ne (Ne.symm hne)]; exact sx
 have qT3 : SqT X.K H3 tA [v0, .ref b1, .ref b2] := SqT.same sm qT
 refine wpAny_execs_cons (thn (P2 pins s1' _ H3 { nx := fun σ' H' => σ' = σ.set iy (some (.ref t')) /\ H' = L2.upd H3 b1 (.lst (U1 ++ [.int 0])), rt := fun _ _ => False } I3 ?_) fun f s2' q => ?_)
 ·exact ⟨.ref tA, sx1, tA, _, 1, .ref b1, rfl, rfl, qT3, rfl, .inl ⟨rfl, U1, SqL.of g1⟩, b1, U1, .int 0, rfl, rfl, g1, by rw [sizeLine_eq]; omega, rfl, rfl⟩
 cases f with
 | ret w => obtain ⟨_, _, _, _, _, z⟩ := q; exact z.elim
 | brk => obtain ⟨_, _, _, z⟩ := q; exact z.elim
 | cont => obtain ⟨_, _, _, z⟩ := q; exact z.elim
 | next =>
 obtain ⟨σ2, H4, I4, rfl, eH4⟩ := q
 have noT4 : SqT X.K H4 tA [v0, .ref b1, .ref b2] := by
  rw [eH4]
  rcases qT3 with (q | ⟨u, q⟩) | q
  ·exact .inl (.inl (by rw [aw (gZ q g1 (by intro z; cases z))]; exact q))
  ·exact .inl (.inr ⟨u, by rw [aw (gZ q g1 (by intro z; cases z))]; exact q⟩)
  ·exact .inr q
 obtain ⟨U2', g42, lU2⟩ : ∃ U2', H4 b2 = some (.lst U2') /\ U2'.length < 2000 := by
  by_cases e : b2 = b1
  ·exact ⟨U1 ++ [.int 0], by rw [eH4, e]; exact aD, by rw [List.length_append]; simp; omega⟩
  ·exact ⟨U2, by rw [eH4, aw e]; exact g2, by omega⟩
 refine wpAny_execs_cons (thn (P3 pins s2' _ H4 { nx := fun σ' H' => σ' = σ.set iy (some (.ref t')) /\ H' = L2.upd H4 b2 (.lst (U2' ++ [.int 0])), rt := fun _ _ => False } I4 ?_) fun f s3' q => ?_)
 ·exact ⟨.ref tA, sx1, tA, _, 2, .ref b2, rfl, rfl, noT4, rfl, .inl ⟨rfl, U2', SqL.of g42⟩, b2, U2', .int 0, rfl, rfl, g42, by rw [sizeLine_eq]; omega, rfl, rfl⟩
 cases f with
 | ret w => obtain ⟨_, _, _, _, _, z⟩ := q; exact z.elim
 | brk => obtain ⟨_, _, _, z⟩ := q; exact z.elim
 | cont => obtain ⟨_, _, _, z⟩ := q; exact z.elim
 | next =>
 obtain ⟨σ3, H5, I5, rfl, eH5⟩ := q
 have k3 := Inv.kno I3 g3
 have k4 := Inv.kno I3 g4
 have k1 := Inv.kno I3 g1
 have k2 := Inv.kno I3 g2
 have nbad : ∀ b, H b = none -> ¬ W.bad true b := fun b hb z => by
  obtain ⟨o, q⟩ := r.tracked true b z
  rw [hb] at q
  cases q
 have den1 : ∀ P : Bool -> Addr -> Prop, ah X.K P H3 ((k0 :: ks).map D.int) U1 := fun P => by rw [<- eU1]; exact gn _
 have den2 : ∀ P : Bool -> Addr -> Prop, ah X.K P H3 ((n0 :: ns).map D.int) U2 := fun P => by rw [<- eU2]; exact gn _
 have held : ∀ P : Bool -> Addr -> Prop, ¬ P true b3 -> ¬ P true b4 -> Den X.K P H3 (.tup [.str c, .lst true ((k0 :: ks).map D.int), .lst true ((n0 :: ns).map D.int)]) (.ref t') := fun P p3 p4 =>
  Den.tup (SqT.of gt) (ah.cons (Den.str c) (ah.cons (Den.lst p3 (SqG.new g3 k3) (den1 P)) (ah.cons (Den.lst p4 (SqG.new g4 k4) (den2 P)) rfl)))
 have r3 := ((r.same sm).forget ix).put il (held W.bad (nbad b3 hb3) (nbad b4 hb4'))
 have z1 : X.H₀ b1 = none := by
  cases e : X.H₀ b1 with
  | none => rfl
  | some o => exact absurd (.inr (.inr ⟨rfl, s0 b1 o e⟩)) nb1
 have z2 : X.H₀ b2 = none := by
  cases e : X.H₀ b2 with
  | none => rfl
  | some o => exact absurd (.inr (.inr ⟨rfl, s0 b2 o e⟩)) nb2
 have hZ : ∀ a, (a = b1 ∨ a = b2) -> X.K.lookup a = none /\ ∃ (n : Int) (us : List V), H3 a = some (.lst (.int n :: us)) := fun a ha => by
  rcases ha with rfl | rfl
  ·exact ⟨k1, k0, ks.map V.int, by rw [g1, <- eU1]; rfl⟩
  ·exact ⟨k2, n0, ns.map V.int, by rw [g2, <- eU2]; rfl⟩
 have ent5 : ar X.H₀ H5 := by
  rw [eH5]
  refine ar.ins ?_ z2 g42 True.intro True.intro
  rw [eH4]
  exact ar.ins (r.ent.trans sm) z1 g1 True.intro True.intro
 have tab5 : d6 X.K H5 := by
  rw [eH5]
  refine d6.upd ?_ True.intro (.inr ⟨_, g42, (fun _ z => by cases z), True.intro⟩)
  rw [eH4]
  exact d6.upd (r.tab.same sm) True.intro (.inr ⟨_, g1, (fun _ z => by cases z), True.intro⟩)
 have r5 : Rel X (W.drop iy) H5 (σ.set iy (some (.ref t'))) ((ρ.set ix none).set iy (some (.val (.tup [.str c, .lst true ((k0 :: ks).map D.int), .lst true ((n0 :: ns).map D.int)])))) := by
  refine r3.apart (Z := fun a => a = b1 ∨ a = b2) (fun a ha => ?_) (fun a ha => ?_) (fun i a ho hz => ?_) (fun j d v hj hs hdv => ?_) (fun j x hj => ?_) ent5 tab5
  ·rw [eH5, aw (fun e => ha (.inr e)), eH4, aw (fun e => ha (.inl e))]
  ·by_cases e2 : a = b2
   ·subst e2
    exact ⟨U2, _, g2, by rw [eH5]; exact aD⟩
   ·have e1 : a = b1 := ha.resolve_right e2
    subst e1
    exact ⟨U1, _, g1, by rw [eH5, aw e2, eH4]; exact aD⟩
  ·have ho' : W.O i = some a := by
    have z : (if i = iy then none else W.O i) = some a := ho
    split at z
    ·cases z
    ·exact z
   rcases hz with rfl | rfl
   ·exact nb1 (.inr (.inl ⟨i, ho'⟩))
   ·exact nb2 (.inr (.inl ⟨i, ho'⟩))
  ·by_cases ey : j = iy
   ·subst ey
    have lρ : j < (ρ.set ix none).length := by
     by_cases l : j < (ρ.set ix none).length
     ·exact l
     ·rw [List.getElem?_eq_none (by rw [List.length_set]; omega)] at hj; cases hj
    rw [List.getElem?_set_self lρ] at hj
    rw [List.getElem?_set_self il] at hs
    cases hj
    cases hs
    refine held _ (fun z => ?_) fun z => ?_
    ·rcases z with z | z | z
     ·exact nbad b3 hb3 (Own.drop_bad z)
     ·exact n31 z
     ·exact n32 z
    ·rcases z with z | z | z
     ·exact nbad b4 hb4' (Own.drop_bad z)
     ·exact n41 z
     ·exact n42 z
   ·rw [List.getElem?_set_ne (Ne.symm ey)] at hj
    by_cases ex' : j = ix
    ·subst ex'
     have lρ : j < ρ.length := (List.getElem?_eq_some_iff.mp ex).1
     rw [List.getElem?_set_self lρ] at hj
     cases hj
    ·rw [List.getElem?_set_ne (Ne.symm ex')] at hj
     exact xY hZ (hfar j d ex' ey hj) hdv
  ·by_cases ey : j = iy
   ·subst ey
    have lρ : j < (ρ.set ix none).length := by
     by_cases l : j < (ρ.set ix none).length
     ·exact l
     ·rw [List.getElem?_eq_none (by rw [List.length_set]; omega)] at hj; cases hj
    rw [List.getElem?_set_self lρ] at hj
    cases hj
   ·rw [List.getElem?_set_ne (Ne.symm ey)] at hj
    by_cases ex' : j = ix
    ·subst ex'
     have lρ : j < ρ.length := (List.getElem?_eq_some_iff.mp ex).1
     rw [List.getElem?_set_self lρ] at hj
     cases hj
    ·rw [List.getElem?_set_ne (Ne.symm ex')] at hj
     exact hown j x ex' ey hj
 exact h3 pins s3' _ H5 (W.drop iy) _ Q I5 r5 s0 ht
end
end PD
namespace PD
open PySem PySem.Spec PyProof.Rows L2
def FL (K : PySem.W.Frag) (x : Str) (st : Stmt) : Prop := ∃ (f : Addr) (oc : Value) (od : Option Addr) (kV dc pm : Value) (an : Option Addr) (cd ct : Value) (sl : Array (Option Value)),
 PySem.W.nsIn K mainGlobals x = some (some (.ref f)) /\ K.lookup f = some ⟨oc, od, .func (PySem.W.fnOf x x (c7 st) (bK st) (ao st) .none kV dc pm an cd ct), sl⟩ /\ PySem.W.codeIn K cd x = true /\ PySem.W.keepIn K (.ref f) = true
theorem FL.mk {K : PySem.W.Frag} {x : Str} {st : Stmt} {f : Addr} {oc : Value} {od : Option Addr} {kV dc pm : Value} {an : Option Addr} {cd ct : Value} {sl : Array (Option Value)} (a : PySem.W.nsIn K mainGlobals x = some (some (.ref f)))
  (b : K.lookup f = some ⟨oc, od, .func (PySem.W.fnOf x x (c7 st) (bK st) (ao st) .none kV dc pm an cd ct), sl⟩) (c : PySem.W.codeIn K cd x = true) (d : PySem.W.keepIn K (.ref f) = true) : FL K x st := ⟨f, oc, od, kV, dc, pm, an, cd, ct, sl, a, b, c, d⟩
theorem AL {α : Type} : ∀ {us : List α}, us.length = 1 -> ∃ a, us = [a]
 | [a], _ => ⟨a, rfl⟩
theorem AV {α : Type} : ∀ {us : List α}, us.length = 2 -> ∃ a b, us = [a, b]
 | [a, b], _ => ⟨a, b, rfl⟩
theorem AY {α : Type} : ∀ {us : List α}, us.length = 3 -> ∃ a b c, us = [a, b, c]
 | [a, b, c], _ => ⟨a, b, c, rfl⟩
theorem AU {α : Type} : ∀ {us : List α}, us.length = 4 -> ∃ a b c d, us = [a, b, c, d]
 | [a, b, c, d], _ => ⟨a, b, c, d, rfl⟩
theorem AM {α : Type} : ∀ {us : List α}, us.length = 5 -> ∃ a b c d e, us = [a, b, c, d, e]
 | [a, b, c, d, e], _ => ⟨a, b, c, d, e, rfl⟩
theorem FL.has {K : PySem.W.Frag} {x : Str} {st : Stmt} {h : Heap} {mg : Str -> Option Value} {k : Nat} {ps : List Str} {sp : DSp} (e : FL K x st) (P : Program) (w : World) (base : Heap) (X : K.In h) (G : h.Ns mainGlobals mg)
  (ok : ∀ {f : Addr} {fd : FuncData}, ax K x x st f fd -> aI P w K mg base (CX1 P w) k f fd ps (aM K sp))
  (hb : ∀ (kV dc pm : Value) (an : Option Addr) (cd ct : Value) (us : List Value), us.length = ps.length -> bindArgs (PySem.W.fnOf x x (c7 st) (bK st) (ao st) .none kV dc pm an cd ct) ⟨us, []⟩ = pure (ps.zip us) := by
   intro _ _ _ _ _ _ us hl
   first
    | (obtain ⟨a, e⟩ := AL hl; subst e; rfl)
    | (obtain ⟨a, b, e⟩ := AV hl; subst e; rfl)
    | (obtain ⟨a, b, c, e⟩ := AY hl; subst e; rfl)
    | (obtain ⟨a, b, c, d, e⟩ := AU hl; subst e; rfl)
    | (obtain ⟨a, b, c, d, e', e⟩ := AM hl; subst e; rfl)) : Has P w K mg base x k ps sp := by
 obtain ⟨f, oc, od, kV, dc, pm, an, cd, ct, sl, a, b, c, d⟩ := e
 exact ⟨f, _, ok (qW b c d), PySem.W.mg_of X G a, d, .all fun us hl => hb kV dc pm an cd ct us hl⟩
section
variable {X : Cx}
end
end PD
namespace LW
open PySem PySem.Spec PyProof.Rows L2 PD
seal PD.cy PD.PSD PD.PED PD.PTD PD.PWD PD.PAD PD.PID PD.PGD PD.mq PD.TsD PD.PEF PD.PKD PD.PPD PD.PDO PD.PFL PD.PPK PD.PEK
def top (i : Nat) : Stmt := PySem.Challenge.pw_halvecut_k33_whole_in_or_out.main.body.getD i (.Pass ⟨0, 0, 0, 0⟩)
abbrev oZ : Stmt := top 4
abbrev dG : Stmt := top 5
abbrev jt : Stmt := top 6
abbrev kg : Stmt := top 7
abbrev mR : Stmt := top 9
abbrev qm : Stmt := top 10
abbrev jF : Stmt := top 11
abbrev lG : Stmt := top 12
abbrev jo : Stmt := top 14
abbrev mM : Stmt := top 15
abbrev mN : Stmt := top 16
abbrev qn : Stmt := top 17
abbrev qc : Stmt := top 18
abbrev jI : Stmt := top 19
abbrev mO : Stmt := top 21
abbrev l5 : Stmt := top 22
abbrev fT : Stmt := top 23
abbrev i6 : Stmt := top 24
abbrev lx : Stmt := top 26
abbrev fi : Stmt := top 27
abbrev dJ : Stmt := top 28
abbrev bZ : Stmt := top 29
abbrev jT : Stmt := top 30
abbrev cK : Stmt := top 31
abbrev fF : Stmt := top 32
abbrev iu : Stmt := top 34
abbrev fP : Stmt := top 35
abbrev gP : Stmt := top 36
abbrev i4 : Stmt := top 37
abbrev fO : Stmt := top 38
abbrev gC : Stmt := top 39
abbrev dh : Stmt := top 40
abbrev jc : Stmt := top 41
abbrev di : Stmt := top 42
abbrev iD : Stmt := top 43
abbrev jH : Stmt := top 44
abbrev i7 : Stmt := top 45
abbrev iI : Stmt := top 46
abbrev eA : Stmt := top 47
theorem xK : ay ["number"] ["number"] (ao oZ) := ⟨rfl, rfl, rfl, by decide +kernel, rfl, by decide +kernel, by decide +kernel⟩
theorem cj : ay ["one", "other", "rest"] ["one", "other"] (ao dG) := ⟨rfl, rfl, rfl, by decide +kernel, rfl, by decide +kernel, by decide +kernel⟩
theorem hJ : ay ["numbers", "divisor", "number"] ["numbers"] (ao jt) := ⟨rfl, rfl, rfl, by decide +kernel, rfl, by decide +kernel, by decide +kernel⟩
theorem dI : ay ["count", "size", "found", "length", "longer", "pick", "first"] ["count", "size"] (ao kg) := ⟨rfl, rfl, rfl, by decide +kernel, rfl, by decide +kernel, by decide +kernel⟩
theorem vh : ay ["gauge", "place"] ["gauge", "place"] (ao mR) := ⟨rfl, rfl, rfl, by decide +kernel, rfl, by decide +kernel, by decide +kernel⟩
theorem yD : ay ["gauge", "place"] ["gauge", "place"] (ao qm) := ⟨rfl, rfl, rfl, by decide +kernel, rfl, by decide +kernel, by decide +kernel⟩
theorem sL : ay ["one", "other"] ["one", "other"] (ao jF) := ⟨rfl, rfl, rfl, by decide +kernel, rfl, by decide +kernel, by decide +kernel⟩
theorem tR : ay ["place", "way"] ["place", "way"] (ao lG) := ⟨rfl, rfl, rfl, by decide +kernel, rfl, by decide +kernel, by decide +kernel⟩
theorem qC : ay ["spot"] ["spot"] (ao jo) := ⟨rfl, rfl, rfl, by decide +kernel, rfl, by decide +kernel, by decide +kernel⟩
theorem vU : ay ["one", "two", "three"] ["one", "two", "three"] (ao mM) := ⟨rfl, rfl, rfl, by decide +kernel, rfl, by decide +kernel, by decide +kernel⟩
theorem vw : ay ["one", "other"] ["one", "other"] (ao mN) := ⟨rfl, rfl, rfl, by decide +kernel, rfl, by decide +kernel, by decide +kernel⟩
theorem xB : ay ["one", "other"] ["one", "other"] (ao qn) := ⟨rfl, rfl, rfl, by decide +kernel, rfl, by decide +kernel, by decide +kernel⟩
theorem yu : ay ["way"] ["way"] (ao qc) := ⟨rfl, rfl, rfl, by decide +kernel, rfl, by decide +kernel, by decide +kernel⟩
theorem r9 : ay ["way"] ["way"] (ao jI) := ⟨rfl, rfl, rfl, by decide +kernel, rfl, by decide +kernel, by decide +kernel⟩
theorem lC : ay ["places", "kept", "each"] ["places"] (ao mO) := ⟨rfl, rfl, rfl, by decide +kernel, rfl, by decide +kernel, by decide +kernel⟩
theorem rP : ay ["spots", "places"] ["spots"] (ao l5) := ⟨rfl, rfl, rfl, by decide +kernel, rfl, by decide +kernel, by decide +kernel⟩
theorem fe : ay ["one", "other", "along", "across"] ["one", "other"] (ao fT) := ⟨rfl, rfl, rfl, by decide +kernel, rfl, by decide +kernel, by decide +kernel⟩
theorem ue : ay ["corners"] ["corners"] (ao i6) := ⟨rfl, rfl, rfl, by decide +kernel, rfl, by decide +kernel, by decide +kernel⟩
theorem uO : ay ["way"] ["way"] (ao lx) := ⟨rfl, rfl, rfl, by decide +kernel, rfl, by decide +kernel, by decide +kernel⟩
theorem lP : ay ["one", "other"] ["one", "other"] (ao fi) := ⟨rfl, rfl, rfl, by decide +kernel, rfl, by decide +kernel, by decide +kernel⟩
theorem ky : ay ["one", "other"] ["one", "other"] (ao dJ) := ⟨rfl, rfl, rfl, by decide +kernel, rfl, by decide +kernel, by decide +kernel⟩
theorem cH : ay ["one", "two", "three", "turns"] ["one", "two", "three"] (ao bZ) := ⟨rfl, rfl, rfl, by decide +kernel, rfl, by decide +kernel, by decide +kernel⟩
theorem sJ : ay ["ways"] ["ways"] (ao jT) := ⟨rfl, rfl, rfl, by decide +kernel, rfl, by decide +kernel, by decide +kernel⟩
theorem lD : ay ["spots", "place"] ["spots", "place"] (ao cK) := ⟨rfl, rfl, rfl, by decide +kernel, rfl, by decide +kernel, by decide +kernel⟩
theorem eK : ay ["spots", "place", "ways", "size", "numbers", "shares"] ["spots", "place"] (ao fF) := ⟨rfl, rfl, rfl, by decide +kernel, rfl, by decide +kernel, by decide +kernel⟩
theorem qk : ay ["_law_found"] ["_law_found"] (ao iu) := ⟨rfl, rfl, rfl, by decide +kernel, rfl, by decide +kernel, by decide +kernel⟩
theorem my : ay ["_law_script", "_law_k"] ["_law_script", "_law_k"] (ao fP) := ⟨rfl, rfl, rfl, by decide +kernel, rfl, by decide +kernel, by decide +kernel⟩
theorem aU : ay ["_law_cell", "_law_many", "_law_found", "_law_rest", "_law_k", "_law_number", "_law_other"] ["_law_cell", "_law_many"] (ao gP) := ⟨rfl, rfl, rfl, by decide +kernel, rfl, by decide +kernel, by decide +kernel⟩
theorem kI : ay ["_law_kind", "_law_cell", "_law_far"] ["_law_kind", "_law_cell"] (ao i4) := ⟨rfl, rfl, rfl, by decide +kernel, rfl, by decide +kernel, by decide +kernel⟩
theorem iP : ay ["_law_one", "_law_other"] ["_law_one", "_law_other"] (ao fO) := ⟨rfl, rfl, rfl, by decide +kernel, rfl, by decide +kernel, by decide +kernel⟩
theorem jA : ay ["_law_by", "_law_x", "_law_y", "_law_share"] ["_law_by", "_law_x", "_law_y"] (ao gC) := ⟨rfl, rfl, rfl, by decide +kernel, rfl, by decide +kernel, by decide +kernel⟩
theorem gz : ay ["_law_spots", "_law_shares", "_law_by", "_law_x"] ["_law_spots", "_law_shares"] (ao dh) := ⟨rfl, rfl, rfl, by decide +kernel, rfl, by decide +kernel, by decide +kernel⟩
theorem dS : ay ["_law_found", "_law_spots", "_law_point", "_law_row", "_law_by", "_law_share", "_law_number"] ["_law_found", "_law_spots", "_law_point"] (ao jc) := ⟨rfl, rfl, rfl, by decide +kernel, rfl, by decide +kernel, by decide +kernel⟩
theorem bL : ay ["_law_spots", "_law_cell", "_law_xs", "_law_many", "_law_some", "_law_shares", "_law_point"] ["_law_spots", "_law_cell"] (ao di) := ⟨rfl, rfl, rfl, by decide +kernel, rfl, by decide +kernel, by decide +kernel⟩
theorem oI : ay ["_law_gauge", "_law_point"] ["_law_gauge", "_law_point"] (ao iD) := ⟨rfl, rfl, rfl, by decide +kernel, rfl, by decide +kernel, by decide +kernel⟩
theorem i8 : ay ["_law_found", "_law_spots", "_law_point", "_law_number", "_law_spot_here"] ["_law_found", "_law_spots", "_law_point"] (ao jH) := ⟨rfl, rfl, rfl, by decide +kernel, rfl, by decide +kernel, by decide +kernel⟩
theorem qx : ay ["_law_found", "_law_spots", "_law_point"] ["_law_found", "_law_spots", "_law_point"] (ao i7) := ⟨rfl, rfl, rfl, by decide +kernel, rfl, by decide +kernel, by decide +kernel⟩
theorem dY : ay ["_law_spots", "_law_point", "_law_handed", "_law_found", "_law_held"] ["_law_spots", "_law_point"] (ao iI) := ⟨rfl, rfl, rfl, by decide +kernel, rfl, by decide +kernel, by decide +kernel⟩
theorem eB : ay ["_law_script", "_law_kind", "_law_spots", "_law_xs", "_law_point", "_law_held", "_law_other", "_law_amid_all"] ["_law_script"] (ao eA) := ⟨rfl, rfl, rfl, by decide +kernel, rfl, by decide +kernel, by decide +kernel⟩
structure Cls where
 PlaneError : Addr
 TooFew : Addr
structure COk (K : PySem.W.Frag) (mg : Str -> Option Value) (κ : Cls) : Prop where
 mg_PlaneError : mg "PlaneError" = some (.ref κ.PlaneError)
 mg_TooFew : mg "TooFew" = some (.ref κ.TooFew)
 exc_TooFew : PySem.W.excIn K κ.TooFew xl "ValueError.__new__" = true
 xk_TooFew : PX.eQ K κ.TooFew
 kit_TooFew_PlaneError : PySem.W.kitOne K (.ref κ.TooFew) (.ref κ.PlaneError) = some true
 kit_TooFew_TooFew : PySem.W.kitOne K (.ref κ.TooFew) (.ref κ.TooFew) = some true
 kit_TooFew_ValueError : PySem.W.kitOne K (.ref κ.TooFew) (.type "ValueError") = some true
 exm_TooFew_PlaneError : PySem.W.exmOne K (.ref κ.TooFew) (.ref κ.PlaneError) = some true
 exm_TooFew_TooFew : PySem.W.exmOne K (.ref κ.TooFew) (.ref κ.TooFew) = some true
def sg (n : Int) : Int := if 0 < n then 1 else if n < 0 then -1 else 0
def sw (a0 a1 a2 b0 b1 b2 c0 c1 c2 : Int) : Int := a0 * (b1 * c2 - c1 * b2) + b0 * (c1 * a2 - a1 * c2) + c0 * (a1 * b2 - b1 * a2)
structure Pl (n : Nat) (a b c : Int) : Prop where
 pos : 0 < a
 low : PM.g3 a b c = 1
 b0 : Bd n a
 b1 : Bd n b
 b2 : Bd n c
abbrev Sp := Int × Int
def spD (p : Sp) : D := .tup [.int p.1, .int p.2]
theorem bF {p q : Sp} (h : spD p = spD q) : p = q := by
 unfold spD at h
 simp only [D.tup.injEq, List.cons.injEq, D.int.injEq, and_true] at h
 exact Prod.ext h.1 h.2
theorem jN {α : Type} {f : α -> D} (hf : ∀ {p q}, f p = f q -> p = q) : ∀ {ps qs : List α}, ps.map f = qs.map f -> ps = qs
 | [], [], _ => rfl
 | [], _ :: _, h => by simp at h
 | _ :: _, [], h => by simp at h
 | p :: ps, q :: qs, h => by
  simp only [List.map_cons, List.cons.injEq] at h
  rw [hf h.1, jN hf h.2]
theorem cF {ps qs : List Sp} (h : ps.map spD = qs.map spD) : ps = qs := jN bF h
theorem dE (p : Sp) : aJ (spD p) = spD p := by unfold spD; simp only [bJ, aL, bD, bQ]
theorem eU (ps : List Sp) : aW (ps.map spD) = ps.map spD := bR spD dE ps
def plS (p : Sp) : D := .tup [.int 1, .int p.1, .int p.2]
theorem mC {p q : Sp} (h : plS p = plS q) : p = q := by
 unfold plS at h
 simp only [D.tup.injEq, List.cons.injEq, D.int.injEq, and_true, true_and] at h
 exact Prod.ext h.1 h.2
theorem q9 {ps qs : List Sp} (h : ps.map plS = qs.map plS) : ps = qs := jN mC h
theorem cQ (p : Sp) : aJ (plS p) = plS p := by unfold plS; simp only [bJ, aL, bD, bQ]
theorem jh (ps : List Sp) : aW (ps.map plS) = ps.map plS := bR plS cQ ps
def cr (a b e : Sp) : Int := sw 1 a.1 a.2 1 b.1 b.2 1 e.1 e.2
def bG : List Sp -> Sp -> List Sp
 | b :: a :: r, e => if cr a b e <= 0 then bG (a :: r) e else b :: a :: r
 | l, _ => l
def aY : List Sp -> List Sp -> List Sp
 | acc, [] => acc
 | acc, e :: es => aY (e :: bG acc e) es
theorem kH (x : Sp) : ∀ (acc done : List Sp), aY acc (done ++ [x]) = x :: bG (aY acc done) x
 | acc, [] => rfl
 | acc, e :: es => by
  show aY (e :: bG acc e) (es ++ [x]) = _
  rw [kH x _ es]
  rfl
theorem lh : ∀ (st : List Sp) (e : Sp), ∃ pre, st = pre ++ bG st e
 | [], e => ⟨[], rfl⟩
 | [b], e => ⟨[], rfl⟩
 | b :: a :: r, e => by
  unfold bG
  split
  ·obtain ⟨pre, q⟩ := lh (a :: r) e
   exact ⟨b :: pre, by rw [List.cons_append, <- q]⟩
  ·exact ⟨[], rfl⟩
theorem wj (st : List Sp) (e : Sp) : (bG st e).length <= st.length := by
 obtain ⟨pre, q⟩ := lh st e
 have := congrArg List.length q
 rw [List.length_append] at this
 omega
theorem tU {α : Type} (xs : List α) (u v : α) : atI (xs ++ [u] ++ [v]) (-2) = some u := by
 have := bA (xs := xs ++ [u] ++ [v]) (j := xs.length) (v := u) (by simp)
 unfold atI at this ⊢
 rw [show ixN (xs ++ [u] ++ [v]).length (-2) = some xs.length by unfold ixN; simp; omega]
 simp
theorem fm {a b : Int} (hb : 0 < b) : 0 <= a.fmod b /\ a.fmod b < b := ⟨Int.fmod_nonneg_of_pos a hb, Int.fmod_lt_of_pos a hb⟩
theorem bdl {n : Nat} {x : Int} (m : Nat) (h : x.natAbs < m) (hm : m <= 2 ^ n) : Bd n x := Nat.lt_of_lt_of_le h hm
theorem p12 : ((10 : Int) ^ (12 : Int).toNat) = 1000000000000 := by decide
theorem tG : mH 10 12 := ⟨by decide, by decide, by decide⟩
def spK (p : Sp) : List Int := [p.1, p.2]
theorem wX (ps : List Sp) : ps.map spD = (ps.map spK).map PD.tupI := by rw [List.map_map]; rfl
def cg (ys ps : List Sp) : Prop := ys.Pairwise (fun p q => p.1 < q.1 ∨ (p.1 = q.1 /\ p.2 < q.2)) /\ ∀ p, p ∈ ys ↔ p ∈ ps
theorem uG {zs : List (List Int)} {ps : List Sp} (h : PD.uY zs (ps.map spK)) : ∃ ys : List Sp, zs = ys.map spK /\ cg ys ps := by
 obtain ⟨h1, h2⟩ := h
 have hall : ∀ z ∈ zs, ∃ p : Sp, z = spK p := fun z hz => by
  obtain ⟨p, _, e⟩ := List.mem_map.mp ((h2 z).mp hz)
  exact ⟨p, e.symm⟩
 have ex : ∃ ys : List Sp, zs = ys.map spK := by
  clear h1 h2
  induction zs with
  | nil => exact ⟨[], rfl⟩
  | cons z zs ih =>
   obtain ⟨p, e⟩ := hall z List.mem_cons_self
   obtain ⟨ys, e2⟩ := ih fun z hz => hall z (List.mem_cons_of_mem _ hz)
   exact ⟨p :: ys, by rw [e, e2]; rfl⟩
 obtain ⟨ys, rfl⟩ := ex
 have inj : ∀ {p q : Sp}, spK p = spK q -> p = q := fun {p q} e => by
  unfold spK at e
  simp only [List.cons.injEq, and_true] at e
  exact Prod.ext e.1 e.2
 refine ⟨ys, rfl, ?_, fun p => ?_⟩
 ·refine (List.pairwise_map.mp h1).imp fun {p q} e => ?_
  unfold spK SW.lexLt at e
  split at e
  ·rename_i e1
   unfold SW.lexLt at e
   split at e
   ·cases e
   ·exact .inr ⟨e1, by simpa using e⟩
  ·exact .inl (by simpa using e)
 ·constructor
  ·intro hp
   obtain ⟨q, hq, e⟩ := List.mem_map.mp ((h2 (spK p)).mp (List.mem_map.mpr ⟨p, hp, rfl⟩))
   rw [<- inj e]; exact hq
  ·intro hp
   obtain ⟨q, hq, e⟩ := List.mem_map.mp ((h2 (spK p)).mpr (List.mem_map.mpr ⟨p, hp, rfl⟩))
   rw [<- inj e]; exact hq
theorem oG (xs : List D) : PD.cutD xs none (some (-1)) = xs.dropLast := by
 unfold PD.cutD
 rw [List.dropLast_eq_take]
 have e0 : HT.sIx xs.length 0 none = 0 := rfl
 have e1 : HT.sIx xs.length xs.length (some (-1)) = xs.length - 1 := by
  unfold HT.sIx
  cases xs with
  | nil => rfl
  | cons x xs => simp; omega
 rw [e0, e1]
 simp
theorem gF : ∀ (acc ps : List Sp), (aY acc ps).length <= acc.length + ps.length
 | acc, [] => Nat.le_refl _
 | acc, e :: es => by
  have := gF (e :: bG acc e) es
  have h2 := wj acc e
  show (aY (e :: bG acc e) es).length <= _
  simp at this ⊢
  omega
theorem tT : ∀ {ys ps : List Sp}, ys.Nodup -> (∀ p ∈ ys, p ∈ ps) -> ys.length <= ps.length
 | [], _, _, _ => Nat.zero_le _
 | y :: ys, ps, nd, h => by
  obtain ⟨n1, n2⟩ := List.nodup_cons.mp nd
  have m := h y List.mem_cons_self
  have r := tT (ps := ps.erase y) n2 fun p hp => (List.mem_erase_of_ne (fun e => by subst e; exact n1 hp)).mpr (h p (List.mem_cons_of_mem _ hp))
  rw [List.length_erase_of_mem m] at r
  have : 0 < ps.length := List.length_pos_of_mem m
  rw [List.length_cons]
  omega
theorem qe {ys ps : List Sp} (h : cg ys ps) : ys.length <= ps.length := by
 have nd : ys.Nodup := h.1.imp fun {p q} c e => by subst e; omega
 exact tT nd fun p hp => (h.2 p).mp hp
def aF (ys : List Sp) : List Sp := (aY [] ys).reverse
def bO (ys : List Sp) : List Sp := if ys.length < 2 then ys else (aF ys).dropLast ++ (aF ys.reverse).dropLast
theorem vS {α : Type} {wi : DA} {js : List Nat} {te : DE} {ρ : Ro} {Q : D -> Prop} {P : List α -> Prop} (f g : α -> D) (hw : ∀ R : List D -> Prop, (∀ ys, P ys -> R (ys.map f)) -> wi ρ R) (hz : ∀ ys, P ys -> ys.length <= sizeLine)
  (he : ∀ ys, P ys -> ∀ x ∈ ys, ∀ K : D -> Prop, K (g x) -> te (some (.val (f x)) :: js.map (bc ρ)) K) (q : ∀ ys, P ys -> Q (.lst true (ys.map g))) : ir wi js kN te ρ Q := by
 refine hw _ fun ys hy => ?_
 have := PD.comp_map (wi := fun _ R => R (ys.map f)) (js := js) (tc := kN) (te := te) (ρ := ρ) (Q := Q) ys f (fun _ => true) g (fun R h => h) (hz ys hy) (fun x hx K k => k) (fun x hx _ K k => he ys hy x hx K k) (by rw [List.filter_eq_self.mpr (fun _ _ => rfl)]; exact q ys hy)
 exact this
theorem jU {α : Type} {wi : DA} {js : List Nat} {te : DE} {ρ : Ro} {Q : D -> Prop} (xs : List α) (f : α -> D) {β : Type} (g : β -> D) (P : β -> Prop) (hw : ∀ R : List D -> Prop, R (xs.map f) -> wi ρ R) (hz : xs.length <= sizeLine)
  (he : ∀ x ∈ xs, ∀ K : D -> Prop, (∀ y, P y -> K (g y)) -> te (some (.val (f x)) :: js.map (bc ρ)) K) (q : ∀ ys : List β, ys.length = xs.length -> (∀ y ∈ ys, P y) -> Q (.lst true (ys.map g))) : ir wi js kN te ρ Q := by
 refine hw _ ⟨by rw [List.length_map]; exact hz, fun j out => ∃ ys : List β, out = ys.map g /\ ys.length = j /\ ∀ y ∈ ys, P y, ⟨[], rfl, rfl, by simp⟩, fun j d out hd ho => ?_, fun out ho => ?_⟩
 ·rw [List.getElem?_map] at hd
  cases ex : xs[j]? with
  | none => rw [ex] at hd; cases hd
  | some x =>
   rw [ex] at hd
   cases hd
   obtain ⟨ys, rfl, hl, hP⟩ := ho
   show te _ _
   refine he x (List.mem_of_getElem? ex) _ fun y hy => ⟨ys ++ [y], by simp, by simp [hl], fun z hz => ?_⟩
   rcases List.mem_append.mp hz with c | c
   ·exact hP z c
   ·rw [List.mem_singleton.mp c]; exact hy
 ·obtain ⟨ys, rfl, hl, hP⟩ := ho
  exact q ys (by rw [hl, List.length_map]) hP
structure SB (p : Sp) : Prop where
 x : Bd 60 p.1
 y : Bd 60 p.2
def dZ (p q : Sp) : Prop := p.1 < q.1 ∨ (p.1 = q.1 /\ p.2 < q.2)
theorem ck (a b e : Sp) : cr a b e = (b.1 - a.1) * (e.2 - a.2) - (b.2 - a.2) * (e.1 - a.1) := by
 unfold cr sw
 grind
def fA (A B : Int) (p : Sp) : Int := A * p.1 + B * p.2
def cx (a b c d : Sp) : Int := (b.1 - a.1) * (d.2 - c.2) - (b.2 - a.2) * (d.1 - c.1)
theorem tq (A B : Int) (a b c d e g : Sp) : cx a b e g * (fA A B d - fA A B c) = cx c d e g * (fA A B b - fA A B a) + cx a b c d * (fA A B g - fA A B e) := by
 unfold cx fA
 grind
theorem wO {x y : Int} (h : 0 < x * y) (hy : 0 < y) : 0 < x := by
 by_cases c : 0 < x
 ·exact c
 ·have := Int.mul_nonneg (show 0 <= -x by omega) (Int.le_of_lt hy)
  rw [Int.neg_mul] at this
  omega
theorem vt {x y : Int} (h : 0 <= x * y) (hy : 0 < y) : 0 <= x := by
 by_cases c : 0 <= x
 ·exact c
 ·have := Int.mul_pos (show 0 < -x by omega) hy
  rw [Int.neg_mul] at this
  omega
theorem wY {A B : Int} {a b c d e g : Sp} (h1 : fA A B a < fA A B b) (h2 : fA A B c < fA A B d) (h3 : fA A B e < fA A B g) (p : 0 < cx a b c d) (q : 0 <= cx c d e g) : 0 < cx a b e g := by
 have i := tq A B a b c d e g
 have u := Int.mul_nonneg q (show 0 <= fA A B b - fA A B a by omega)
 have v := Int.mul_pos p (show 0 < fA A B g - fA A B e by omega)
 exact wO (y := fA A B d - fA A B c) (by omega) (by omega)
theorem xp {A B : Int} {a b c d e g : Sp} (h1 : fA A B a < fA A B b) (h2 : fA A B c < fA A B d) (h3 : fA A B e < fA A B g) (p : 0 <= cx a b c d) (q : 0 < cx c d e g) : 0 < cx a b e g := by
 have i := tq A B a b c d e g
 have u := Int.mul_pos q (show 0 < fA A B b - fA A B a by omega)
 have v := Int.mul_nonneg p (show 0 <= fA A B g - fA A B e by omega)
 exact wO (y := fA A B d - fA A B c) (by omega) (by omega)
theorem Ak {A B : Int} {a b c d e g : Sp} (h1 : fA A B a < fA A B b) (h2 : fA A B c < fA A B d) (h3 : fA A B e < fA A B g) (p : 0 <= cx a b c d) (q : 0 <= cx c d e g) : 0 <= cx a b e g := by
 have i := tq A B a b c d e g
 have u := Int.mul_nonneg q (show 0 <= fA A B b - fA A B a by omega)
 have v := Int.mul_nonneg p (show 0 <= fA A B g - fA A B e by omega)
 exact vt (y := fA A B d - fA A B c) (by omega) (by omega)
theorem cx1 (a b e : Sp) : cr a b e = cx a b a e := by rw [ck]; rfl
theorem cx2 (a b e : Sp) : cr a b e = cx a b b e := by rw [ck]; unfold cx; grind
theorem cx3 (a b e : Sp) : cr a b e = cx a e b e := by rw [ck]; unfold cx; grind
theorem cx4 (a b e : Sp) : cr a b e = cx e a a b := by rw [ck]; unfold cx; grind
theorem cx5 (a b e : Sp) : cr a b e = cx e b a b := by rw [ck]; unfold cx; grind
theorem yC (a b c d : Sp) : cx a b c d = - cx c d a b := by unfold cx; grind
theorem yW (a b : Sp) : cr a b a = 0 := by rw [ck]; grind
theorem Ad (a b : Sp) : cr a b b = 0 := by rw [ck]; grind
structure ChI (A B : Int) (st done : List Sp) : Prop where
 e2 : ∀ b a r, (b :: a :: r) <:+ st -> ∀ p ∈ done, 0 <= cr a b p
 e3 : ∀ c b a r, (c :: b :: a :: r) <:+ st -> 0 < cr a b c
 ord : st.Pairwise fun b a => fA A B a < fA A B b
 mem : ∀ p ∈ st, p ∈ done
 top : ∀ b r, st = b :: r -> ∀ p ∈ done, fA A B p <= fA A B b
 bot : done ≠ [] -> ∃ pre a, st = pre ++ [a] /\ ∀ p ∈ done, fA A B a <= fA A B p
theorem sH {b a : Sp} {r st : List Sp} (h : b :: a :: r <:+ st) {R : Sp -> Sp -> Prop} (o : st.Pairwise R) : R b a := by
 obtain ⟨pre, rfl⟩ := h
 exact (List.pairwise_cons.mp (List.pairwise_append.mp o).2.1).1 a List.mem_cons_self
theorem tO {A B : Int} {st0 done : List Sp} {x : Sp} (I : ChI A B st0 done) (hx : ∀ p ∈ done, fA A B p < fA A B x) : ∀ (st : List Sp), st <:+ st0 -> (∀ b r, st = b :: r -> ∀ p ∈ done, fA A B b < fA A B p -> 0 <= cr b x p) →
  (∀ b a r, bG st x = b :: a :: r -> 0 < cr a b x) /\ (∀ b r, bG st x = b :: r -> ∀ p ∈ done, fA A B b < fA A B p -> 0 <= cr b x p)
 | [], _, h => ⟨fun b a r e => (by cases e), fun b r e => (by cases e)⟩
 | [b], _, h => ⟨fun b a r e => (by cases e), h⟩
 | b :: a :: r, s, h => by
  unfold bG
  split
  ·rename_i c
   refine tO I hx (a :: r) (List.IsSuffix.trans (List.suffix_cons _ _) s) fun b' r' e p hp lt => ?_
   cases e
   have o := sH s I.ord
   have e2 := I.e2 b a r s p hp
   have xa := hx a (I.mem a (s.subset (by simp)))
   rw [cx1] at e2 c ⊢
   rw [yC] at c
   exact Ak xa o lt (by omega) e2
  ·rename_i c
   refine ⟨fun b' a' r' e => ?_, h⟩
   cases e
   omega
theorem far {A B : Int} {st0 done : List Sp} {x : Sp} (I : ChI A B st0 done) (hx : ∀ p ∈ done, fA A B p < fA A B x) : ∀ (st : List Sp), st <:+ st0 -> (∀ b a r, st = b :: a :: r -> 0 < cr a b x) -> ∀ b a r, b :: a :: r <:+ st -> 0 < cr a b x
 | [], _, _ => fun b a r e => by
  have := e.length_le
  simp at this
 | b :: st, s, h => fun b1 a1 r1 e => by
  rcases List.suffix_cons_iff.mp e with q | q
  ·exact h _ _ _ q.symm
  ·refine far I hx st (List.IsSuffix.trans (List.suffix_cons _ _) s) (fun a a0 r e' => ?_) b1 a1 r1 q
   subst e'
   have h1 := h _ _ _ rfl
   have h2 := I.e3 _ _ _ _ s
   have o1 := sH s I.ord
   have o2 := sH (List.IsSuffix.trans (List.suffix_cons _ _) s) I.ord
   have xa := hx a (I.mem a (s.subset (by simp)))
   rw [cx2] at h2 ⊢
   rw [cx1] at h1
   exact wY o2 o1 xa h2 (Int.le_of_lt h1)
theorem qU {x : Sp} : ∀ {st : List Sp}, st ≠ [] -> bG st x ≠ []
 | [], h => absurd rfl h
 | [b], _ => by simp [bG]
 | b :: a :: r, _ => by
  unfold bG
  split
  ·exact qU (by simp)
  ·simp
theorem vI {A B : Int} {st done : List Sp} {x : Sp} (I : ChI A B st done) (hx : ∀ p ∈ done, fA A B p < fA A B x) (inj : ∀ p ∈ done, ∀ q ∈ done, fA A B p = fA A B q -> p = q) (hn : done = [] -> st = []) : ChI A B (x :: bG st x) (done ++ [x]) := by
 have s : bG st x <:+ st := by
  obtain ⟨pre, q⟩ := lh st x
  exact ⟨pre, q.symm⟩
 obtain ⟨P1, P2⟩ := tO I hx st (List.suffix_refl _) fun b r e p hp lt => absurd (I.top b r e p hp) (by omega)
 have F := far I hx _ s P1
 refine ⟨fun b a r e p hp => ?_, fun c b a r e => ?_, ?_, fun p hp => ?_, fun b r e p hp => ?_, fun _ => ?_⟩
 ·rcases List.suffix_cons_iff.mp e with q | q
  ·injection q with q1 q2
   subst q1
   rcases List.mem_append.mp hp with hp | hp
   ·rcases Int.lt_trichotomy (fA A B p) (fA A B a) with c | c | c
    ·rcases r with _ | ⟨a0, r⟩
     ·obtain ⟨pre, a', e1, h1⟩ := I.bot (List.ne_nil_of_mem hp)
      rw [<- q2] at s
      obtain ⟨pre2, e2⟩ := s
      rw [e1] at e2
      have := List.append_inj_right' e2 (by simp)
      simp at this
      have := h1 p hp
      subst_vars
      omega
     ·have h1 := P1 _ _ _ q2.symm
      rw [<- q2] at s
      have h2 := I.e2 _ _ _ s p hp
      have o := sH s I.ord
      have xa := hx a (I.mem a (s.subset (by simp)))
      rw [cx2] at h1
      rw [cx5] at h2
      rw [cx4]
      exact Int.le_of_lt (xp c o xa h2 h1)
    ·rw [inj p hp a (I.mem a (s.subset (by rw [<- q2]; simp))) c, yW]
     exact Int.le_refl _
    ·exact P2 _ _ q2.symm p hp c
   ·rw [List.mem_singleton.mp hp, Ad]
    exact Int.le_refl _
  ·rcases List.mem_append.mp hp with hp | hp
   ·exact I.e2 _ _ _ (q.trans s) p hp
   ·rw [List.mem_singleton.mp hp]
    exact Int.le_of_lt (F _ _ _ q)
 ·rcases List.suffix_cons_iff.mp e with q | q
  ·injection q with q1 q2
   subst q1
   exact P1 _ _ _ q2.symm
  ·exact I.e3 _ _ _ _ (q.trans s)
 ·exact List.pairwise_cons.mpr ⟨fun a ha => hx a (I.mem a (s.subset ha)), I.ord.sublist s.sublist⟩
 ·rcases List.mem_cons.mp hp with q | q
  ·rw [q]; simp
  ·exact List.mem_append_left _ (I.mem p (s.subset q))
 ·injection e with e1 e2
  subst e1
  rcases List.mem_append.mp hp with q | q
  ·exact Int.le_of_lt (hx p q)
  ·rw [List.mem_singleton.mp q]; exact Int.le_refl _
 ·by_cases d0 : done = []
  ·rw [hn d0, d0]
   exact ⟨[], x, rfl, fun p hp => by simp at hp; rw [hp]; exact Int.le_refl _⟩
  ·obtain ⟨pre, a, e1, h1⟩ := I.bot d0
   obtain ⟨pre2, e2⟩ := s
   have ne : bG st x ≠ [] := qU (by rw [e1]; simp)
   obtain ⟨pre3, a3, e3⟩ : ∃ pre3 a3, bG st x = pre3 ++ [a3] := ⟨_, _, (List.dropLast_concat_getLast ne).symm⟩
   have : a3 = a := by
    rw [e3, e1, <- List.append_assoc] at e2
    have := List.append_inj_right' e2 (by simp)
    simpa using this
   subst this
   refine ⟨x :: pre3, a3, by rw [e3]; rfl, fun p hp => ?_⟩
   rcases List.mem_append.mp hp with q | q
   ·exact h1 p q
   ·rw [List.mem_singleton.mp q]
    exact Int.le_of_lt (hx a3 (I.mem a3 (by rw [e1]; simp)))
theorem mX {A B : Int} : ∀ (es st done : List Sp), ChI A B st done -> (done = [] -> st = []) -> (done ++ es).Pairwise (fun p q => fA A B p < fA A B q) -> ChI A B (aY st es) (done ++ es)
 | [], st, done, I, _, _ => by rw [List.append_nil]; exact I
 | x :: es, st, done, I, hn, o => by
  obtain ⟨o1, o2, o3⟩ := List.pairwise_append.mp o
  have inj : ∀ (l : List Sp), l.Pairwise (fun p q => fA A B p < fA A B q) -> ∀ p ∈ l, ∀ q ∈ l, fA A B p = fA A B q -> p = q := by
   intro l
   induction l with
   | nil => intro _ p hp; cases hp
   | cons y l ih =>
    intro o p hp q hq e
    obtain ⟨u, v⟩ := List.pairwise_cons.mp o
    rcases List.mem_cons.mp hp with a | a <;> rcases List.mem_cons.mp hq with b | b
    ·rw [a, b]
    ·have := u q b; rw [a] at e; omega
    ·have := u p a; rw [b] at e; omega
    ·exact ih v p a q b e
  have := mX es (x :: bG st x) (done ++ [x]) (vI I (fun p hp => o3 p hp x List.mem_cons_self) (inj done o1) hn) (by simp) (by rw [List.append_assoc]; exact o)
  rw [List.append_assoc] at this
  exact this
theorem xI (A B : Int) : ChI A B [] [] := ⟨fun b a r e => by have := e.length_le; simp at this, fun c b a r e => by have := e.length_le; simp at this, .nil, fun p hp => hp, fun b r e => (by cases e), fun h => absurd rfl h⟩
theorem yP {A B : Int} {ys : List Sp} (o : ys.Pairwise fun p q => fA A B p < fA A B q) : ChI A B (aY [] ys) ys := by
 have := mX ys [] [] (xI A B) (fun _ => rfl) (by simpa using o)
 simpa using this
structure Way (A B : Int) (ps : List Sp) (n : Nat) (l : Nat -> Sp) : Prop where
 two : 2 <= n
 edge : ∀ i, i + 1 < n -> ∀ p ∈ ps, 0 <= cr (l i) (l (i + 1)) p
 bend : ∀ i, i + 2 < n -> 0 < cr (l i) (l (i + 1)) (l (i + 2))
 rise : ∀ i j, i < j -> j < n -> fA A B (l i) < fA A B (l j)
 mem : ∀ i, i < n -> l i ∈ ps
 lo : ∀ p ∈ ps, fA A B (l 0) <= fA A B p
 hi : ∀ p ∈ ps, fA A B p <= fA A B (l (n - 1))
theorem dg (A B : Int) (p : Sp) : fA (-A) (-B) p = - fA A B p := by unfold fA; grind
theorem wo {A B : Int} {ps : List Sp} {n m : Nat} {l u : Nat -> Sp} (L : Way A B ps (n + 2) l) (U : Way (-A) (-B) ps (m + 2) u) (hm : l (n + 1) = u 0) (h : 0 < n + m) : 0 < cr (l n) (l (n + 1)) (u 1) := by
 have ol := L.rise n (n + 1) (Nat.lt_succ_self _) (Nat.lt_succ_self _)
 have ou := U.rise 0 1 Nat.one_pos (Nat.succ_lt_succ (Nat.succ_pos _))
 rw [dg, dg, Int.neg_lt_neg_iff] at ou
 rw [hm] at ol ⊢
 have g : cr (l n) (u 0) (u 1) = cx (u 1) (u 0) (l n) (u 0) := by rw [ck]; unfold cx; grind
 rw [g]
 cases n with
 | succ a =>
  have b := L.bend a (Nat.lt_succ_self _)
  have o := L.rise a (a + 2) (Nat.lt_add_of_pos_right (by decide)) (Nat.lt_succ_self _)
  have e := U.edge 0 (Nat.succ_lt_succ (Nat.succ_pos _)) (l a) (L.mem a (Nat.lt_add_of_pos_right (k := 3) (by decide)))
  have hm' : l (a + 2) = u 0 := hm
  rw [hm'] at o b
  have e' : cr (u 0) (u 1) (l a) = cx (u 1) (u 0) (l a) (u 0) := by rw [ck]; unfold cx; grind
  rw [e'] at e
  rw [cx3] at b
  exact xp (A := A) (B := B) ou o ol e b
 | zero =>
  cases m with
  | zero => exact absurd h (Nat.lt_irrefl _)
  | succ m =>
   have b := U.bend 0 (Nat.succ_lt_succ (Nat.succ_lt_succ (Nat.succ_pos _)))
   have o := U.rise 0 2 (by decide) (Nat.succ_lt_succ (Nat.succ_lt_succ (Nat.succ_pos _)))
   rw [dg, dg, Int.neg_lt_neg_iff] at o
   have e := L.edge 0 (Nat.lt_succ_self _) (u 2) (U.mem 2 (Nat.succ_lt_succ (Nat.succ_lt_succ (Nat.succ_pos _))))
   have hm' : l (0 + 1) = u 0 := hm
   rw [hm'] at e
   have e' : cr (l 0) (u 0) (u 2) = cx (u 2) (u 0) (l 0) (u 0) := by rw [ck]; unfold cx; grind
   have b' : cr (u 0) (u 1) (u 2) = cx (u 1) (u 0) (u 2) (u 0) := by rw [ck]; unfold cx; grind
   rw [e'] at e
   have b2 : 0 < cx (u 1) (u 0) (u 2) (u 0) := by rw [<- b']; exact b
   exact wY (A := A) (B := B) ou o ol b2 e
theorem rC {A B : Int} {ps : List Sp} {n m : Nat} {l u h : Nat -> Sp} (L : Way A B ps (n + 2) l) (U : Way (-A) (-B) ps (m + 2) u) (eM : l (n + 1) = u 0) (e0 : u (m + 1) = l 0) (h3 : 0 < n + m)
  (hl : ∀ k, k < n + 2 -> h k = l k) (hu : ∀ j, j < m + 1 -> h (n + 1 + j) = u j) : (∀ k, k < n + m + 2 -> ∀ p ∈ ps, 0 <= cr (h ((k + (n + m + 2) - 1) % (n + m + 2))) (h k) p) /\ 0 < cr (h 0) (h 1) (h 2) := by
 refine ⟨fun k hk p hp => ?_, ?_⟩
 ·cases k with
  | zero =>
   have e : (0 + (n + m + 2) - 1) % (n + m + 2) = n + 1 + m := by
    rw [Nat.zero_add]
    show (n + m + 1) % (n + m + 2) = _
    rw [Nat.mod_eq_of_lt (Nat.lt_succ_self _), Nat.add_right_comm]
   rw [e, hu m (Nat.lt_succ_self _), hl 0 (Nat.succ_pos _), <- e0]
   exact U.edge m (Nat.lt_succ_self _) p hp
  | succ k =>
   have e : (k + 1 + (n + m + 2) - 1) % (n + m + 2) = k := by
    rw [Nat.add_right_comm]
    show (k + (n + m + 2)) % (n + m + 2) = k
    rw [Nat.add_mod_right, Nat.mod_eq_of_lt (Nat.lt_of_succ_lt hk)]
   rw [e]
   by_cases c : k + 1 < n + 2
   ·rw [hl k (Nat.lt_of_succ_lt c), hl (k + 1) c]
    exact L.edge k c p hp
   ·obtain ⟨j, rfl⟩ := Nat.le.dest (Nat.le_of_succ_le_succ (Nat.le_of_not_lt c))
    have hj : j + 1 < m + 1 := by omega
    rw [hu j (Nat.lt_of_succ_lt hj), Nat.add_assoc, hu (j + 1) hj]
    exact U.edge j (Nat.lt_succ_of_lt hj) p hp
 ·cases n with
  | succ a =>
   have z : 2 < a + 1 + 2 := Nat.succ_lt_succ (Nat.succ_lt_succ (Nat.succ_pos _))
   rw [hl 0 (Nat.succ_pos _), hl 1 (Nat.lt_of_succ_lt z), hl 2 z]
   exact L.bend 0 z
  | zero =>
   have z : 1 < m + 1 := by omega
   rw [hl 0 (by decide), hl 1 (by decide), show h 2 = u 1 from hu 1 z]
   exact wo L U eM h3
theorem uy {A B : Int} {ys : List Sp} (o : ys.Pairwise fun p q => fA A B p < fA A B q) (h2 : 2 <= ys.length) : Way A B ys (aF ys).length fun i => (aF ys).getD i (0, 0) := by
 have I := yP o
 obtain ⟨pre, a, e1, h1⟩ := I.bot (by intro e; rw [e] at h2; simp at h2)
 have len : 2 <= (aF ys).length := by
  unfold aF
  rw [List.length_reverse, e1]
  rcases pre with _ | ⟨b, pre⟩
  ·exfalso
   have t := I.top a [] (by simpa using e1)
   rcases ys with _ | ⟨y1, _ | ⟨y2, r⟩⟩
   ·simp at h2
   ·simp at h2
   ·have q := (List.pairwise_cons.mp o).1 y2 (by simp)
    have q1 := h1 y1 (by simp)
    have q2 := t y2 (by simp)
    omega
  ·simp
 have sp1 : ∀ i, i < (aF ys).length -> (aF ys)[i]? = some ((aF ys).getD i (0, 0)) := fun i hi => by
  rw [List.getD_eq_getElem?_getD, List.getElem?_eq_getElem hi]; rfl
 have st_eq : aY [] ys = (aF ys).reverse := by unfold aF; rw [List.reverse_reverse]
 refine ⟨len, fun i hi p hp => ?_, fun i hi => ?_, fun i j hij hj => ?_, fun i hi => ?_, fun p hp => ?_, fun p hp => ?_⟩
 ·refine I.e2 _ _ ((aF ys).take i).reverse ⟨((aF ys).drop (i + 2)).reverse, ?_⟩ p hp
  rw [st_eq]
  have q := List.take_append_drop i (aF ys)
  rw [List.drop_eq_getElem_cons (show i < (aF ys).length by omega), List.drop_eq_getElem_cons hi] at q
  have q2 := congrArg List.reverse q
  simp only [List.getD_eq_getElem?_getD, List.getElem?_eq_getElem (show i < (aF ys).length by omega), List.getElem?_eq_getElem hi, Option.getD_some]
  simpa only [List.reverse_append, List.reverse_cons, List.append_assoc, List.cons_append, List.nil_append] using q2
 ·refine I.e3 _ _ _ ((aF ys).take i).reverse ⟨((aF ys).drop (i + 3)).reverse, ?_⟩
  rw [st_eq]
  have q := List.take_append_drop i (aF ys)
  rw [List.drop_eq_getElem_cons (show i < (aF ys).length by omega), List.drop_eq_getElem_cons (show i + 1 < (aF ys).length by omega), List.drop_eq_getElem_cons hi] at q
  have q2 := congrArg List.reverse q
  simp only [List.getD_eq_getElem?_getD, List.getElem?_eq_getElem (show i < (aF ys).length by omega), List.getElem?_eq_getElem (show i + 1 < (aF ys).length by omega), List.getElem?_eq_getElem hi, Option.getD_some]
  simpa only [List.reverse_append, List.reverse_cons, List.append_assoc, List.cons_append, List.nil_append] using q2
 ·have o' : (aF ys).Pairwise fun a b => fA A B a < fA A B b := by
   unfold aF
   exact List.pairwise_reverse.mpr I.ord
  have := (List.pairwise_iff_getElem.mp o') i j (by omega) hj hij
  simp only [List.getD_eq_getElem?_getD, List.getElem?_eq_getElem (show i < (aF ys).length by omega), List.getElem?_eq_getElem hj, Option.getD_some]
  exact this
 ·refine I.mem _ ?_
  rw [st_eq, List.mem_reverse]
  exact List.mem_of_getElem? (sp1 i hi)
 ·have : (aF ys).getD 0 (0, 0) = a := by unfold aF; rw [e1]; simp
  show fA A B ((aF ys).getD 0 (0, 0)) <= _
  rw [this]
  exact h1 p hp
 ·have e := sp1 ((aF ys).length - 1) (by omega)
  generalize (aF ys).getD ((aF ys).length - 1) (0, 0) = b at e ⊢
  refine I.top b (aY [] ys).tail ?_ p hp
  rw [<- List.getLast?_eq_getElem?] at e
  unfold aF at e
  rw [List.getLast?_reverse] at e
  cases hc : aY [] ys with
  | nil => rw [hc] at e; simp at e
  | cons x r => rw [hc] at e; simp at e; rw [e]; rfl
theorem ur {A B : Int} : ∀ {l : List Sp}, l.Pairwise (fun p q => fA A B p < fA A B q) -> ∀ p ∈ l, ∀ q ∈ l, fA A B p = fA A B q -> p = q
 | [], _, p, hp => by cases hp
 | y :: l, o, p, hp => fun q hq e => by
  obtain ⟨u, v⟩ := List.pairwise_cons.mp o
  rcases List.mem_cons.mp hp with a | a <;> rcases List.mem_cons.mp hq with b | b
  ·rw [a, b]
  ·have := u q b; rw [a] at e; omega
  ·have := u p a; rw [b] at e; omega
  ·exact ur v p a q b e
theorem Way.to {A B : Int} {ps qs : List Sp} {n : Nat} {l : Nat -> Sp} (h : ∀ p, p ∈ qs ↔ p ∈ ps) (W : Way A B ps n l) : Way A B qs n l :=
 ⟨W.two, fun i hi p hp => W.edge i hi p ((h p).mp hp), W.bend, W.rise, fun i hi => (h _).mpr (W.mem i hi), fun p hp => W.lo p ((h p).mp hp), fun p hp => W.hi p ((h p).mp hp)⟩
theorem zX : ∀ ys : List Sp, ∃ M : Int, 0 < M /\ ∀ p ∈ ys, -M < p.2 /\ p.2 < M
 | [] => ⟨1, by decide, fun p hp => by cases hp⟩
 | y :: ys => by
  obtain ⟨M, h0, h⟩ := zX ys
  refine ⟨M + y.2.natAbs + 1, by omega, fun p hp => ?_⟩
  rcases List.mem_cons.mp hp with q | q
  ·rw [q]; omega
  ·have := h p q; omega
theorem u7 {M : Int} {p q : Sp} (h0 : 0 < M) (hp : -M < p.2 /\ p.2 < M) (hq : -M < q.2 /\ q.2 < M) (h : dZ p q) : fA (2 * M) 1 p < fA (2 * M) 1 q := by
 unfold fA
 rcases h with h | ⟨h1, h2⟩
 ·have := Int.mul_le_mul_of_nonneg_left (show p.1 + 1 <= q.1 by omega) (show 0 <= 2 * M by omega)
  rw [Int.mul_add] at this
  omega
 ·rw [h1]; omega
def cL (hs : List Sp) (k : Nat) : Sp := hs.getD ((k + hs.length - 1) % hs.length) (0, 0)
structure tL (hs ps : List Sp) : Prop where
 mem : ∀ p ∈ hs, p ∈ ps
 len : hs.length <= 2 * ps.length
 some_ : ps ≠ [] -> ∃ a r, hs = a :: r /\ ∀ p ∈ ps, ¬ dZ p a
 one : ∀ a, hs = [a] -> ∀ p ∈ ps, p = a
 two : ∀ a b, hs = [a, b] -> a ≠ b /\ ∀ p ∈ ps, cr a b p = 0 /\ ¬ dZ b p
 edge : 2 < hs.length -> ∀ k, k < hs.length -> ∀ p ∈ ps, 0 <= cr (cL hs k) (hs.getD k (0, 0)) p
 bend : 2 < hs.length -> 0 < cr (hs.getD 0 (0, 0)) (hs.getD 1 (0, 0)) (hs.getD 2 (0, 0))
theorem ig {ys ps : List Sp} (h : cg ys ps) : tL (bO ys) ps := by
 have yl := qe h
 obtain ⟨o, hm⟩ := h
 unfold bO
 by_cases c : ys.length < 2
 ·rw [if_pos c]
  refine ⟨fun p hp => (hm p).mp hp, by omega, fun e => ?_, fun a e p hp => ?_, fun a b e => ?_, fun q => absurd q (by omega), fun q => absurd q (by omega)⟩
  ·rcases ys with _ | ⟨y, _ | ⟨z, r⟩⟩
   ·cases ps with
    | nil => exact absurd rfl e
    | cons y r => have := (hm y).mpr List.mem_cons_self; cases this
   ·refine ⟨y, [], rfl, fun p hp => ?_⟩
    have := (hm p).mpr hp
    rw [List.mem_singleton.mp this]
    exact fun q => q.elim (Int.lt_irrefl _) fun q => Int.lt_irrefl _ q.2
   ·exact absurd c (by simp)
  ·have := (hm p).mpr hp
   rw [e] at this
   exact List.mem_singleton.mp this
  ·rw [e] at c; simp at c
 ·rw [if_neg c]
  obtain ⟨M, M0, hM⟩ := zX ys
  have oF : ys.Pairwise fun p q => fA (2 * M) 1 p < fA (2 * M) 1 q := by
   refine List.Pairwise.imp_of_mem ?_ o
   intro p q hp hq h
   exact u7 M0 (hM p hp) (hM q hq) h
  have oB : ys.reverse.Pairwise fun p q => fA (-(2 * M)) (-1) p < fA (-(2 * M)) (-1) q := by
   refine List.pairwise_reverse.mpr (oF.imp ?_)
   intro p q h
   rw [dg, dg]
   exact Int.neg_lt_neg h
  have L := (uy oF (Nat.le_of_not_lt c)).to (qs := ps) fun p => (hm p).symm
  have U := (uy oB (by rw [List.length_reverse]; exact Nat.le_of_not_lt c)).to (qs := ps) fun p => by rw [List.mem_reverse]; exact (hm p).symm
  have ll : (aF ys).length <= ys.length := by
   have := gF [] ys
   unfold aF
   rw [List.length_reverse]
   simpa using this
  have lu : (aF ys.reverse).length <= ys.length := by
   have := gF [] ys.reverse
   unfold aF
   rw [List.length_reverse]
   simpa using this
  generalize aF ys = l at L ll ⊢
  generalize aF ys.reverse = u at U lu ⊢
  have inj : ∀ p ∈ ps, ∀ q ∈ ps, fA (2 * M) 1 p = fA (2 * M) 1 q -> p = q := fun p hp q hq e => ur oF p ((hm p).mpr hp) q ((hm q).mpr hq) e
  have nl : ∀ p ∈ ps, ∀ q ∈ ps, fA (2 * M) 1 p <= fA (2 * M) 1 q -> ¬ dZ q p := fun p hp q hq e x =>
   Int.not_le_of_gt (u7 M0 (hM q ((hm q).mpr hq)) (hM p ((hm p).mpr hp)) x) e
  generalize 2 * M = A at L U inj nl
  clear oF oB hM M0 o hm
  obtain ⟨n, hn⟩ : ∃ n, l.length = n + 2 := ⟨l.length - 2, by have := L.two; omega⟩
  obtain ⟨m, hm⟩ : ∃ m, u.length = m + 2 := ⟨u.length - 2, by have := U.two; omega⟩
  have hl : (l.dropLast ++ u.dropLast).length = n + m + 2 := by
   rw [List.length_append, List.length_dropLast, List.length_dropLast, hn, hm]
   show n + 1 + (m + 1) = _
   omega
  have memD : ∀ {w : List Sp} {x : Sp}, x ∈ w.dropLast -> x ∈ w := fun {w x} hx => (List.dropLast_sublist w).subset hx
  have gm : ∀ {w : List Sp} {i : Nat} (hi : i < w.length), w.getD i (0, 0) = w[i] := fun {w i} hi => by
   rw [List.getD_eq_getElem?_getD, List.getElem?_eq_getElem hi]; rfl
  rw [hn] at L
  rw [hm] at U
  have eM : l.getD (n + 1) (0, 0) = u.getD 0 (0, 0) := by
   have m1 := L.mem (n + 1) (Nat.lt_succ_self _)
   have m2 := U.mem 0 (Nat.succ_pos _)
   have a1 := L.hi _ m2
   have a2 := U.lo _ m1
   rw [dg, dg] at a2
   exact inj _ m1 _ m2 (Int.le_antisymm (Int.le_of_neg_le_neg a2) a1)
  have e0 : u.getD (m + 1) (0, 0) = l.getD 0 (0, 0) := by
   have m1 := L.mem 0 (Nat.succ_pos _)
   have m2 := U.mem (m + 1) (Nat.lt_succ_self _)
   have a1 := L.lo _ m2
   have a2 := U.hi _ m1
   rw [dg, dg] at a2
   exact inj _ m2 _ m1 (Int.le_antisymm (Int.le_of_neg_le_neg a2) a1)
  have gu : ∀ j, j < m + 1 -> (l.dropLast ++ u.dropLast).getD (n + 1 + j) (0, 0) = u.getD j (0, 0) := fun j hj => by
   have ld : l.dropLast.length = n + 1 := by rw [List.length_dropLast, hn]; rfl
   rw [List.getD_eq_getElem?_getD, List.getD_eq_getElem?_getD, List.getElem?_append_right (by rw [ld]; exact Nat.le_add_right _ _), ld, Nat.add_sub_cancel_left, List.getElem?_dropLast, hm, if_pos (show j < m + 2 - 1 from hj)]
  have gl : ∀ k, k < n + 2 -> (l.dropLast ++ u.dropLast).getD k (0, 0) = l.getD k (0, 0) := fun k hk => by
   rcases Nat.lt_or_eq_of_le (Nat.le_of_lt_succ hk) with z | z
   ·rw [List.getD_eq_getElem?_getD, List.getD_eq_getElem?_getD, List.getElem?_append_left (by rw [List.length_dropLast, hn]; exact z), List.getElem?_dropLast, hn, if_pos (show k < n + 2 - 1 from z)]
   ·rw [z, eM]
    exact gu 0 (Nat.succ_pos _)
  have a0 := gl 0 (Nat.succ_pos _)
  refine ⟨fun p hp => ?_, by rw [hl]; omega, fun e => ?_, fun a e => ?_, fun a b e => ?_, fun q => ?_, fun q => ?_⟩
  ·rcases List.mem_append.mp hp with z | z
   ·obtain ⟨i, hi, e⟩ := List.mem_iff_getElem.mp (memD z)
    rw [<- e, <- gm hi]
    exact L.mem i (by rw [<- hn]; exact hi)
   ·obtain ⟨i, hi, e⟩ := List.mem_iff_getElem.mp (memD z)
    rw [<- e, <- gm hi]
    exact U.mem i (by rw [<- hm]; exact hi)
  ·cases hh : l.dropLast ++ u.dropLast with
   | nil => rw [hh] at hl; exact absurd hl (by simp)
   | cons a r =>
    rw [hh] at a0
    refine ⟨a, r, rfl, fun p hp => ?_⟩
    rw [show a = l.getD 0 (0, 0) from a0]
    exact nl _ (L.mem 0 (Nat.succ_pos _)) p hp (L.lo p hp)
  ·rw [e] at hl; simp at hl
  ·have nm : n = 0 /\ m = 0 := by rw [e] at hl; simp at hl; omega
   obtain ⟨rfl, rfl⟩ := nm
   have g1 := gl 1 (by decide)
   rw [e] at a0 g1
   have g0' : a = l.getD 0 (0, 0) := a0
   have g1' : b = l.getD 1 (0, 0) := g1
   have eM' : l.getD 1 (0, 0) = u.getD 0 (0, 0) := eM
   have e0' : u.getD 1 (0, 0) = l.getD 0 (0, 0) := e0
   refine ⟨fun ab => ?_, fun p hp => ?_⟩
   ·have := L.rise 0 1 (by decide) (by decide)
    rw [<- g0', <- g1', ab] at this
    exact Int.lt_irrefl _ this
   ·have x1 := L.edge 0 (by decide) p hp
    have x2 := U.edge 0 (by decide) p hp
    have x3 := L.hi p hp
    have x1' : 0 <= cr a b p := by rw [g0', g1']; exact x1
    have x2' : 0 <= cr b a p := by rw [g1', eM', g0', <- e0']; exact x2
    have x3' : fA A 1 p <= fA A 1 b := by rw [g1']; exact x3
    have an : cr b a p = - cr a b p := by rw [ck, ck]; grind
    refine ⟨by omega, nl p hp b ?_ x3'⟩
    rw [g1']
    exact L.mem 1 (by decide)
  ·intro k hk p hp
   rw [hl] at hk q
   have R := (rC L U eM e0 (by omega) gl gu).1 k hk p hp
   unfold cL
   rw [hl]
   exact R
  ·rw [hl] at q
   exact (rC L U eM e0 (by omega) gl gu).2
theorem wq {α : Type} (xs : List α) (j b : Nat) (hj : j < xs.length) (hb : b <= xs.length) : atI xs ((j : Int) - (b : Int)) = xs[(j + xs.length - b) % xs.length]? := by
 unfold atI ixN
 by_cases c : b <= j
 ·rw [if_pos (by omega), if_pos (by omega), show j + xs.length - b = j - b + xs.length by omega, Nat.add_mod_right, Nat.mod_eq_of_lt (by omega)]
  show xs[((j : Int) - (b : Int)).toNat]? = _
  congr 1
  omega
 ·rw [if_neg (by omega), if_pos (by omega), Nat.mod_eq_of_lt (by omega)]
  show xs[((j : Int) - (b : Int) + (xs.length : Int)).toNat]? = _
  congr 1
  omega
theorem xf (lo hi : Int) : gU lo hi 1 = (hi - lo).toNat := by
 unfold gU Builtin.Range.rangeSize
 rw [if_pos (by decide)]
 by_cases h : lo < hi
 ·rw [if_pos h, Int.ediv_one]
  omega
 ·rw [if_neg h]
  omega
theorem k6 (n : Nat) : fN 0 1 (gU 0 (n : Int) 1) = (List.range' 0 n).map fun (k : Nat) => D.int (k : Int) := by
 unfold fN
 rw [xf, show ((n : Int) - 0).toNat = n by omega, List.range'_eq_map_range, List.map_map]
 apply List.map_congr_left
 intro k _
 simp
theorem t6 (p : Sp) : OkN 1 (spD p) := OkN.tup (.cons (.int _ _) (.cons (.int _ _) (.nil _)))
theorem uH (p : Sp) : OkN 1 (plS p) := OkN.tup (.cons (.int _ _) (.cons (.int _ _) (.cons (.int _ _) (.nil _))))
theorem AQ {B X Y : Int} {Q : D -> Prop} (hb : 0 < B) (bb : Bd 4000 B) (h : Q (cC B X Y)) : CD B (Int.gcd (Int.gcd B X : Int) Y : Int) /\ CD X (Int.gcd (Int.gcd B X : Int) Y : Int) /\ CD Y (Int.gcd (Int.gcd B X : Int) Y : Int) /\ ([D.int (B.fdiv (Int.gcd (Int.gcd B X : Int) Y : Int)), D.int (X.fdiv (Int.gcd (Int.gcd B X : Int) Y : Int)), D.int (Y.fdiv (Int.gcd (Int.gcd B X : Int) Y : Int))] : List D).length <= sizeLine /\ Q (D.tup [D.int (B.fdiv (Int.gcd (Int.gcd B X : Int) Y : Int)), D.int (X.fdiv (Int.gcd (Int.gcd B X : Int) Y : Int)), D.int (Y.fdiv (Int.gcd (Int.gcd B X : Int) Y : Int))]) := by
 have eg : (Int.gcd (Int.gcd B X : Int) Y : Int) = PM.dv3 B X Y B := by
  unfold PM.dv3 PM.g3
  rw [if_neg (by omega)]
 have hz : ¬ (B = 0 /\ X = 0 /\ Y = 0) := fun z => by omega
 have hb' : Bd 8000 (PM.dv3 B X Y B) := by
  have d := PM.iU (l := B) (PM.ql B X Y)
  exact Nat.lt_of_le_of_lt (Nat.le_of_dvd (by omega) (Int.natAbs_dvd_natAbs.mpr d)) (bb.mono (n := 8000) (by decide))
 rw [eg]
 exact ⟨⟨PM.fH hz, hb'⟩, ⟨PM.fH hz, hb'⟩, ⟨PM.fH hz, hb'⟩, sz3 _ _ _, h⟩
def cz (pk : List Nat) : Nat := match pk.getLast? with
 | none => 0
 | some l => l + 1
def nxt (n : Nat) (pk : List Nat) : List (List Nat) := (List.range' (cz pk) (n - cz pk)).map fun k => pk ++ [k]
def lev (n : Nat) : Nat -> List (List Nat)
 | 0 => [[]]
 | j + 1 => (lev n j).flatMap (nxt n)
def pkD (pk : List Nat) : D := .lst true (pk.map fun (k : Nat) => D.int (k : Int))
theorem kf {n : Nat} : ∀ {j : Nat} {pk : List Nat}, pk ∈ lev n j -> pk.length = j /\ ∀ k ∈ pk, k < n
 | 0, pk, h => by
  simp only [lev, List.mem_singleton] at h
  subst h
  simp
 | j + 1, pk, h => by
  simp only [lev, List.mem_flatMap] at h
  obtain ⟨q, hq, h⟩ := h
  obtain ⟨h1, h2⟩ := kf hq
  unfold nxt at h
  obtain ⟨k, hk, rfl⟩ := List.mem_map.mp h
  rw [List.mem_range'_1] at hk
  refine ⟨by simp [h1], fun x hx => ?_⟩
  rcases List.mem_append.mp hx with z | z
  ·exact h2 x z
  ·simp at z; subst z; omega
theorem rj (n : Nat) : ∀ j : Nat, (lev n j).length <= n ^ j
 | 0 => by simp [lev]
 | j + 1 => by
  have ih := rj n j
  simp only [lev]
  have : ∀ l : List (List Nat), (l.flatMap (nxt n)).length <= l.length * n := by
   intro l
   induction l with
   | nil => simp
   | cons a r ih =>
    rw [List.flatMap_cons, List.length_append, List.length_cons, Nat.add_mul]
    have : (nxt n a).length <= n := by unfold nxt; rw [List.length_map, List.length_range']; omega
    omega
  refine Nat.le_trans (this _) ?_
  rw [Nat.pow_succ]
  exact Nat.mul_le_mul_right _ ih
theorem xX (a b : Nat) : fN (a : Int) 1 (gU a b 1) = (List.range' a (b - a)).map fun (k : Nat) => D.int (k : Int) := by
 unfold fN
 rw [xf, show ((b : Int) - (a : Int)).toNat = b - a by omega, List.range'_eq_map_range, List.map_map]
 apply List.map_congr_left
 intro k _
 simp
theorem pf (n : Nat) : ∀ l : List (List Nat), (l.flatMap (nxt n)).length <= l.length * n
 | [] => by simp
 | a :: r => by
  rw [List.flatMap_cons, List.length_append, List.length_cons, Nat.add_mul]
  have := pf n r
  have : (nxt n a).length <= n := by unfold nxt; rw [List.length_map, List.length_range']; omega
  omega
theorem yF {pk : List Nat} (h : pk ≠ []) {Q : D -> Prop} (q : Q (.int ((cz pk : Nat) - 1 : Int))) : ∃ d, atI (pk.map fun (k : Nat) => D.int (k : Int)) (-1) = some d /\ Q d := by
 obtain ⟨r, l, rfl⟩ : ∃ r l, pk = r ++ [l] := ⟨pk.dropLast, pk.getLast h, (List.dropLast_concat_getLast h).symm⟩
 refine ⟨.int l, ?_, ?_⟩
 ·unfold atI ixN
  rw [List.length_map, List.length_append]
  have e : (-1 + ((r.length : Int) + 1)).toNat = r.length := by omega
  have l : (1 : Int) <= (r.length : Int) + 1 := by omega
  simp [e, l]
 ·have : ((cz (r ++ [l]) : Nat) : Int) - 1 = l := by
   unfold cz
   simp
  rw [<- this]
  exact q
abbrev Tr := Int × Int × Int
def tn (a b : Sp) : Int := a.1 * b.2 - b.1 * a.2
def dt2 (a b : Sp) : Int := a.1 * b.1 + a.2 * b.2
def arS (h : Tr) (p : Sp) : Sp := (h.1 * p.1 - 1 * h.2.1, h.1 * p.2 - 1 * h.2.2)
def gvS (g h : Tr) : Int := g.1 * h.1 + g.2.1 * h.2.1 + g.2.2 * h.2.2
def iN (a b : Sp) : Tr := (a.1 * b.2 - b.1 * a.2, a.2 * 1 - b.2 * 1, 1 * b.1 - 1 * a.1)
def cf (a w : Sp) : Tr := (-(w.1 * a.1 + w.2 * a.2), w.1 * 1, w.2 * 1)
def bkW (a : Sp) : Sp := (-a.1, -a.2)
def lfW (a : Sp) : Sp := (-a.2, a.1)
def aN (a b : Sp) : Sp := if a = b then (1, 0) else (1 * b.1 - 1 * a.1, 1 * b.2 - 1 * a.2)
def dX (a b : Sp) : List Tr := [cf a (aN a b), cf b (bkW (aN a b)), cf a (lfW (aN a b)), cf a (bkW (lfW (aN a b)))]
def aX (hs : List Sp) : List Tr := if hs.length < 3 then dX (hs.getD 0 (0, 0)) (hs.getD (hs.length - 1) (0, 0)) else (List.range' 0 hs.length).map fun k => iN (cL hs k) (hs.getD k (0, 0))
def mv (a : Sp) : Prop := a = (0, 0)
def fL (a b : Sp) : Prop := tn a b = 0 /\ dt2 a b < 0
def eT (a b e : Sp) : Prop := (0 < tn b e /\ 0 < tn e a /\ 0 < tn a b) ∨ (tn b e < 0 /\ tn e a < 0 /\ tn a b < 0)
theorem iL (a b : Sp) : tn a b = - tn b a := by unfold tn; grind
theorem x9 (a : Sp) : tn a a = 0 := by unfold tn; grind
theorem vC (a b : Sp) : dt2 a b = dt2 b a := by unfold dt2; grind
theorem fL.symm {a b : Sp} (h : fL a b) : fL b a := ⟨by have := iL a b; have := h.1; omega, by rw [vC]; exact h.2⟩
theorem eT.rot {a b e : Sp} (h : eT a b e) : eT b e a := by unfold eT at h ⊢; omega
theorem eT.swap {a b e : Sp} (h : eT a b e) : eT b a e := by
 unfold eT at h ⊢
 have := iL a b
 have := iL b e
 have := iL e a
 omega
theorem sqn (a : Int) : 0 <= a * a := by
 rcases Int.le_total 0 a with h | h
 ·exact Int.mul_nonneg h h
 ·have := Int.mul_nonneg (show 0 <= -a by omega) (show 0 <= -a by omega)
  have e : -a * -a = a * a := by grind
  omega
theorem iZ {w : Sp} (h : w ≠ (0, 0)) : 0 < dt2 w w := by
 obtain ⟨a, b⟩ := w
 unfold dt2
 dsimp only
 have h1 := sqn a
 have h2 := sqn b
 by_cases ha : a = 0
 ·by_cases hb : b = 0
  ·subst ha hb; exact absurd rfl h
  ·have : b * b ≠ 0 := Int.mul_ne_zero hb hb
   omega
 ·have : a * a ≠ 0 := Int.mul_ne_zero ha ha
  omega
theorem mQ {b c : Sp} {y z : Int} (hy : 0 < y) (hz : 0 < z) (e1 : y * b.1 + z * c.1 = 0) (e2 : y * b.2 + z * c.2 = 0) : mv b ∨ fL b c := by
 by_cases hb : b = (0, 0)
 ·exact .inl hb
 ·right
  have p := iZ hb
  have t : z * tn b c = 0 := by
   have : z * tn b c = b.1 * (y * b.2 + z * c.2) - b.2 * (y * b.1 + z * c.1) := by unfold tn; grind
   rw [this, e1, e2]; simp
  have d : z * dt2 b c = - (y * dt2 b b) := by
   have : z * dt2 b c + y * dt2 b b = b.1 * (y * b.1 + z * c.1) + b.2 * (y * b.2 + z * c.2) := by unfold dt2; grind
   rw [e1, e2] at this
   simp at this
   omega
  have yy := Int.mul_pos hy p
  refine ⟨?_, ?_⟩
  ·rcases Int.mul_eq_zero.mp t with q | q <;> omega
  ·by_cases q : dt2 b c < 0
   ·exact q
   ·have := Int.mul_nonneg (Int.le_of_lt hz) (show 0 <= dt2 b c by omega)
    omega
theorem yX (a b c : Sp) : tn b c * a.1 + tn c a * b.1 + tn a b * c.1 = 0 /\ tn b c * a.2 + tn c a * b.2 + tn a b * c.2 = 0 := by
 unfold tn
 constructor <;> grind
theorem kS {c : Sp} {z : Int} (hz : 0 < z) (e1 : z * c.1 = 0) (e2 : z * c.2 = 0) : mv c := by
 rcases Int.mul_eq_zero.mp e1 with q | q
 ·omega
 ·rcases Int.mul_eq_zero.mp e2 with r | r
  ·omega
  ·exact Prod.ext q r
theorem xA {a b c : Sp} (hx : 0 <= tn b c) (hy : 0 <= tn c a) (hz : 0 <= tn a b) (hs : 0 < tn b c + tn c a + tn a b) :
  mv a ∨ mv b ∨ mv c ∨ fL a b ∨ fL b c ∨ fL c a ∨ eT a b c := by
 obtain ⟨e1, e2⟩ := yX a b c
 by_cases x0 : tn b c = 0
 ·rw [x0, Int.zero_mul] at e1 e2
  by_cases y0 : tn c a = 0
  ·rw [y0, Int.zero_mul] at e1 e2
   exact .inr (.inr (.inl (kS (z := tn a b) (by omega) (by omega) (by omega))))
  ·by_cases z0 : tn a b = 0
   ·rw [z0, Int.zero_mul] at e1 e2
    exact .inr (.inl (kS (z := tn c a) (by omega) (by omega) (by omega)))
   ·rcases mQ (b := b) (c := c) (y := tn c a) (z := tn a b) (by omega) (by omega) (by omega) (by omega) with q | q
    ·exact .inr (.inl q)
    ·exact .inr (.inr (.inr (.inr (.inl q))))
 ·by_cases y0 : tn c a = 0
  ·rw [y0, Int.zero_mul] at e1 e2
   by_cases z0 : tn a b = 0
   ·rw [z0, Int.zero_mul] at e1 e2
    exact .inl (kS (z := tn b c) (by omega) (by omega) (by omega))
   ·rcases mQ (b := c) (c := a) (y := tn a b) (z := tn b c) (by omega) (by omega) (by omega) (by omega) with q | q
    ·exact .inr (.inr (.inl q))
    ·exact .inr (.inr (.inr (.inr (.inr (.inl q)))))
  ·by_cases z0 : tn a b = 0
   ·rw [z0, Int.zero_mul] at e1 e2
    rcases mQ (b := a) (c := b) (y := tn b c) (z := tn c a) (by omega) (by omega) (by omega) (by omega) with q | q
    ·exact .inl q
    ·exact .inr (.inr (.inr (.inl q)))
   ·exact .inr (.inr (.inr (.inr (.inr (.inr (.inl ⟨by omega, by omega, by omega⟩))))))
def mx (h : Tr) (ps : List Sp) : Prop := (∃ p ∈ ps, mv (arS h p)) ∨ (∃ p ∈ ps, ∃ q ∈ ps, fL (arS h p) (arS h q)) ∨ ∃ p ∈ ps, ∃ q ∈ ps, ∃ r ∈ ps, eT (arS h p) (arS h q) (arS h r)
theorem vf {h : Tr} {ps : List Sp} {p q r : Sp} (hp : p ∈ ps) (hq : q ∈ ps) (hr : r ∈ ps) (hx : 0 <= tn (arS h q) (arS h r)) (hy : 0 <= tn (arS h r) (arS h p)) (hz : 0 <= tn (arS h p) (arS h q)) (hs : 0 < tn (arS h q) (arS h r) + tn (arS h r) (arS h p) + tn (arS h p) (arS h q)) : mx h ps := by
 rcases xA hx hy hz hs with c | c | c | c | c | c | c
 ·exact .inl ⟨_, hp, c⟩
 ·exact .inl ⟨_, hq, c⟩
 ·exact .inl ⟨_, hr, c⟩
 ·exact .inr (.inl ⟨_, hp, _, hq, c⟩)
 ·exact .inr (.inl ⟨_, hq, _, hr, c⟩)
 ·exact .inr (.inl ⟨_, hr, _, hp, c⟩)
 ·exact .inr (.inr ⟨_, hp, _, hq, _, hr, c⟩)
theorem wz (h : Tr) (a b : Sp) : tn (arS h a) (arS h b) = h.1 * gvS (iN a b) h := by unfold tn arS gvS iN; grind
theorem yw (h : Tr) (a w : Sp) : gvS (cf a w) h = - dt2 w (arS h a) := by unfold gvS cf dt2 arS; grind
theorem zc (h : Tr) (a b c : Sp) : tn (arS h b) (arS h c) + tn (arS h c) (arS h a) + tn (arS h a) (arS h b) = h.1 * (h.1 * cr a b c) := by rw [ck]; unfold tn arS; grind
theorem zW (u v w : Sp) : dt2 u v * dt2 u w + tn u v * tn u w = dt2 u u * dt2 v w := by unfold dt2 tn; grind
theorem mG {u v : Sp} (hu : u ≠ (0, 0)) (h1 : dt2 u v = 0) (h2 : tn u v = 0) : v = (0, 0) := by
 have p := iZ hu
 have l := zW u v v
 rw [h1, h2] at l
 simp only [Int.zero_mul, Int.add_zero] at l
 by_cases c : v = (0, 0)
 ·exact c
 ·have := Int.mul_pos p (iZ c)
  omega
theorem tQ {h : Tr} {ps : List Sp} {a b : Sp} (am : a ∈ ps) (bm : b ∈ ps) (hov : ∀ g ∈ dX a b, 0 <= gvS g h) : mx h ps := by
 unfold dX at hov
 have o1 := hov _ (List.mem_cons_self)
 have o2 := hov _ (List.mem_cons_of_mem _ List.mem_cons_self)
 have o3 := hov _ (List.mem_cons_of_mem _ (List.mem_cons_of_mem _ List.mem_cons_self))
 have o4 := hov _ (List.mem_cons_of_mem _ (List.mem_cons_of_mem _ (List.mem_cons_of_mem _ List.mem_cons_self)))
 clear hov
 rw [yw] at o1 o2 o3 o4
 have ne : aN a b ≠ (0, 0) := by
  unfold aN
  split
  ·decide
  ·rename_i n
   intro e
   rw [Prod.mk.injEq, Int.one_mul, Int.one_mul, Int.one_mul, Int.one_mul] at e
   exact n (Prod.ext (Int.eq_of_sub_eq_zero e.1).symm (Int.eq_of_sub_eq_zero e.2).symm)
 have d2 : dt2 (bkW (aN a b)) (arS h b) = - dt2 (aN a b) (arS h b) := by unfold dt2 bkW; grind
 have d3 : dt2 (lfW (aN a b)) (arS h a) = tn (aN a b) (arS h a) := by unfold dt2 lfW tn; grind
 have d4 : dt2 (bkW (lfW (aN a b))) (arS h a) = - tn (aN a b) (arS h a) := by unfold dt2 bkW lfW tn; grind
 rw [d2, Int.neg_neg] at o2
 rw [d3] at o3
 rw [d4, Int.neg_neg] at o4
 have t0 : tn (aN a b) (arS h a) = 0 := Int.le_antisymm (Int.neg_nonneg.mp o3) o4
 have o1' : dt2 (aN a b) (arS h a) <= 0 := Int.neg_nonneg.mp o1
 clear o1 o3 o4 d2 d3 d4
 by_cases e : a = b
 ·subst e
  exact .inl ⟨a, am, mG ne (Int.le_antisymm o1' o2) t0⟩
 ·have ew : arS h b = ((arS h a).1 + h.1 * (aN a b).1, (arS h a).2 + h.1 * (aN a b).2) := by
   unfold aN
   rw [if_neg e]
   unfold arS
   dsimp only
   rw [Prod.mk.injEq]
   constructor <;> grind
  have tb : tn (aN a b) (arS h b) = 0 := by
   rw [ew]
   have : tn (aN a b) ((arS h a).1 + h.1 * (aN a b).1, (arS h a).2 + h.1 * (aN a b).2) = tn (aN a b) (arS h a) := by unfold tn; dsimp only; grind
   rw [this, t0]
  have tab : tn (arS h a) (arS h b) = 0 := by
   rw [ew]
   have : tn (arS h a) ((arS h a).1 + h.1 * (aN a b).1, (arS h a).2 + h.1 * (aN a b).2) = - (h.1 * tn (aN a b) (arS h a)) := by unfold tn; dsimp only; grind
   rw [this, t0, Int.mul_zero, Int.neg_zero]
  have l := zW (aN a b) (arS h a) (arS h b)
  rw [tb, Int.mul_zero, Int.add_zero] at l
  by_cases z1 : dt2 (aN a b) (arS h a) = 0
  ·exact .inl ⟨a, am, mG ne z1 t0⟩
  ·by_cases z2 : dt2 (aN a b) (arS h b) = 0
   ·exact .inl ⟨b, bm, mG ne z2 tb⟩
   ·have neg := Int.mul_neg_of_neg_of_pos (Int.lt_iff_le_and_ne.mpr ⟨o1', z1⟩) (Int.lt_iff_le_and_ne.mpr ⟨o2, Ne.symm z2⟩)
    refine .inr (.inl ⟨a, am, b, bm, tab, ?_⟩)
    rw [l] at neg
    by_cases q : dt2 (arS h a) (arS h b) < 0
    ·exact q
    ·exact absurd neg (Int.not_lt.mpr (Int.mul_nonneg (Int.le_of_lt (iZ ne)) (Int.not_lt.mp q)))
theorem wI {h : Tr} {ps : List Sp} {c : Nat -> Sp} {N : Nat} (h0 : 0 < h.1) (cm : ∀ i, i < N -> c i ∈ ps) (edge : ∀ i, i + 1 < N -> 0 <= tn (arS h (c i)) (arS h (c (i + 1)))) (bend : 0 < cr (c 0) (c 1) (c 2)) :
  ∀ d i, N = i + d + 3 -> 0 <= tn (arS h (c (i + d + 2))) (arS h (c 0)) -> 0 <= tn (arS h (c 0)) (arS h (c (i + 1))) -> (i = 0 ∨ 0 < tn (arS h (c 0)) (arS h (c (i + 1)))) -> mx h ps := by
 have tri : ∀ i, i + 2 < N -> 0 <= tn (arS h (c (i + 2))) (arS h (c 0)) -> 0 <= tn (arS h (c 0)) (arS h (c (i + 1))) -> (i = 0 ∨ 0 < tn (arS h (c 0)) (arS h (c (i + 1)))) -> mx h ps := fun i hi hy hz hp => by
  have hx := edge (i + 1) hi
  refine vf (cm 0 (Nat.lt_of_le_of_lt (Nat.zero_le _) hi)) (cm (i + 1) (Nat.lt_of_succ_lt hi)) (cm (i + 2) hi) hx hy hz ?_
  rcases hp with q | q
  ·subst q
   rw [zc]
   exact Int.mul_pos h0 (Int.mul_pos h0 bend)
  ·exact Int.add_pos_of_nonneg_of_pos (Int.add_nonneg hx hy) q
 intro d
 induction d with
 | zero =>
  intro i hN hy hz hp
  exact tri i (by rw [hN]; exact Nat.lt_succ_self _) hy hz hp
 | succ d ih =>
  intro i hN hy hz hp
  have hi : i + 2 < N := by rw [hN]; omega
  by_cases z : 0 < tn (arS h (c 0)) (arS h (c (i + 2)))
  ·have e1 : i + 1 + d + 2 = i + (d + 1) + 2 := by omega
   exact ih (i + 1) (by rw [hN]; omega) (by rw [e1]; exact hy) (Int.le_of_lt z) (.inr z)
  ·refine tri i hi ?_ hz hp
   rw [iL]
   exact Int.neg_nonneg_of_nonpos (Int.not_lt.mp z)
theorem mV {hs ps : List Sp} {h : Tr} (g : tL hs ps) (hn : ps ≠ []) (h0 : 0 < h.1) (hov : ∀ b ∈ aX hs, 0 <= gvS b h) : mx h ps := by
 obtain ⟨a0, r0, eh, _⟩ := g.some_ hn
 have l0 : 0 < hs.length := by rw [eh]; exact Nat.succ_pos _
 have gm : ∀ i, i < hs.length -> hs.getD i (0, 0) ∈ ps := fun i hi => by
  rw [List.getD_eq_getElem?_getD, List.getElem?_eq_getElem hi]
  exact g.mem _ (List.getElem_mem _)
 unfold aX at hov
 by_cases c : hs.length < 3
 ·rw [if_pos c] at hov
  exact tQ (gm 0 l0) (gm (hs.length - 1) (Nat.sub_lt l0 Nat.one_pos)) hov
 ·rw [if_neg c] at hov
  obtain ⟨d, hd⟩ : ∃ d, hs.length = 0 + d + 3 := ⟨hs.length - 3, by omega⟩
  have edge : ∀ k, k < hs.length -> 0 <= tn (arS h (cL hs k)) (arS h (hs.getD k (0, 0))) := fun k hk => by
   rw [wz]
   exact Int.mul_nonneg (Int.le_of_lt h0) (hov _ (List.mem_map.mpr ⟨k, List.mem_range'_1.mpr ⟨Nat.zero_le _, by rw [Nat.zero_add]; exact hk⟩, rfl⟩))
  have pz : cL hs 0 = hs.getD (0 + d + 2) (0, 0) := by
   unfold cL
   rw [Nat.zero_add, hd]
   show hs.getD ((0 + d + 2) % (0 + d + 3)) _ = _
   rw [Nat.mod_eq_of_lt (Nat.lt_succ_self _)]
  have ps_ : ∀ k, k + 1 < hs.length -> cL hs (k + 1) = hs.getD k (0, 0) := fun k hk => by
   unfold cL
   rw [Nat.add_right_comm]
   show hs.getD ((k + hs.length) % hs.length) _ = _
   rw [Nat.add_mod_right, Nat.mod_eq_of_lt (Nat.lt_of_succ_lt hk)]
  have ed : ∀ i, i + 1 < hs.length -> 0 <= tn (arS h (hs.getD i (0, 0))) (arS h (hs.getD (i + 1) (0, 0))) := fun i hi => by
   have := edge (i + 1) hi
   rw [ps_ i hi] at this
   exact this
  have e0 := edge 0 l0
  rw [pz] at e0
  exact wI (c := fun i => hs.getD i (0, 0)) h0 gm ed (g.bend (by rw [hd]; omega)) d 0 hd e0 (ed 0 (by rw [hd]; omega)) (.inl rfl)
theorem mT {u v x y : Int} (e : u * y = v * x) (h1 : 0 < u ∨ (u = 0 /\ 0 < v)) (h2 : 0 < x ∨ (x = 0 /\ 0 <= y)) : 0 <= u * x + v * y := by
 rcases h1 with h1 | ⟨h1, h1'⟩
 ·have e2 : (u * x + v * y) * u = (u * u + v * v) * x := by grind
  refine vt (y := u) ?_ h1
  rw [e2]
  refine Int.mul_nonneg (Int.add_nonneg (sqn u) (sqn v)) ?_
  rcases h2 with q | q
  ·exact Int.le_of_lt q
  ·rw [q.1]; exact Int.le_refl _
 ·subst h1
  rw [Int.zero_mul] at e ⊢
  rw [Int.zero_add]
  rcases Int.mul_eq_zero.mp e.symm with q | q
  ·exact absurd h1' (by rw [q]; exact Int.lt_irrefl _)
  ·rcases h2 with r | r
   ·exact absurd r (by rw [q]; exact Int.lt_irrefl _)
   ·exact Int.mul_nonneg (Int.le_of_lt h1') r.2
theorem ml {p q : Sp} (h : ¬ dZ q p) : 0 < q.1 - p.1 ∨ (q.1 - p.1 = 0 /\ 0 <= q.2 - p.2) := by
 unfold dZ at h
 omega
theorem vq {a b p : Sp} {g : Tr} (ne : a ≠ b) (hab : ¬ dZ b a) (hap : ¬ dZ p a) (hpb : ¬ dZ b p) (h0 : cr a b p = 0) (hg : g ∈ dX a b) : 0 <= gvS g (1, p.1, p.2) := by
 have key : ∀ w a : Sp, gvS (cf a w) (1, p.1, p.2) = w.1 * (p.1 - a.1) + w.2 * (p.2 - a.2) := fun w a => by unfold gvS cf; grind
 rw [ck] at h0
 have c0 : (b.1 - a.1) * (p.2 - a.2) = (b.2 - a.2) * (p.1 - a.1) := Int.eq_of_sub_eq_zero h0
 have c1 : (b.1 - a.1) * (b.2 - p.2) = (b.2 - a.2) * (b.1 - p.1) := by grind
 have al : 0 < b.1 - a.1 ∨ (b.1 - a.1 = 0 /\ 0 < b.2 - a.2) := by
  rcases ml hab with q | ⟨q, r⟩
  ·exact .inl q
  ·refine .inr ⟨q, ?_⟩
   have : b.2 - a.2 ≠ 0 := fun z => ne (Prod.ext (Int.eq_of_sub_eq_zero q).symm (Int.eq_of_sub_eq_zero z).symm)
   exact Int.lt_iff_le_and_ne.mpr ⟨r, Ne.symm this⟩
 have d1 := mT c0 al (ml hap)
 have d2 := mT c1 al (ml hpb)
 clear al hab hap hpb
 unfold dX aN at hg
 rw [if_neg ne] at hg
 simp only [List.mem_cons, List.not_mem_nil, or_false] at hg
 rcases hg with q | q | q | q <;> rw [q, key] <;> simp only [bkW, lfW, Int.one_mul]
 ·exact d1
 ·have : -(b.1 - a.1) * (p.1 - b.1) + -(b.2 - a.2) * (p.2 - b.2) = (b.1 - a.1) * (b.1 - p.1) + (b.2 - a.2) * (b.2 - p.2) := by grind
  rw [this]
  exact d2
 ·rw [Int.neg_mul, c0, Int.add_left_neg]
  exact Int.le_refl _
 ·rw [Int.neg_neg, Int.neg_mul, c0, Int.add_right_neg]
  exact Int.le_refl _
theorem kA {hs ps : List Sp} (g : tL hs ps) (hn : ps ≠ []) {b : Tr} (hb : b ∈ aX hs) {p : Sp} (hp : p ∈ ps) : 0 <= gvS b (1, p.1, p.2) := by
 obtain ⟨a0, r0, eh, hmin⟩ := g.some_ hn
 unfold aX at hb
 by_cases c : hs.length < 3
 ·rw [if_pos c] at hb
  rcases r0 with _ | ⟨b0, _ | ⟨z, r⟩⟩
  ·have e := g.one a0 eh p hp
   subst e
   rw [eh] at hb
   have key : ∀ w : Sp, gvS (cf p w) (1, p.1, p.2) = 0 := fun w => by unfold gvS cf; grind
   unfold dX at hb
   simp only [List.getD_cons_zero, List.length_singleton, Nat.sub_self, List.mem_cons, List.not_mem_nil, or_false] at hb
   rcases hb with q | q | q | q <;> rw [q, key] <;> exact Int.le_refl _
  ·have e := g.two a0 b0 eh
   rw [eh] at hb
   exact vq e.1 (hmin b0 (g.mem b0 (by rw [eh]; simp))) (hmin p hp) (e.2 p hp).2 (e.2 p hp).1 hb
  ·rw [eh] at c
   exact absurd c (by simp)
 ·rw [if_neg c] at hb
  obtain ⟨k, hk, e⟩ := List.mem_map.mp hb
  have hk' : k < hs.length := by
   have := (List.mem_range'_1.mp hk).2
   rw [Nat.zero_add] at this
   exact this
  have ev : gvS b (1, p.1, p.2) = cr (cL hs k) (hs.getD k (0, 0)) p := by
   rw [<- e, ck]; unfold gvS iN; grind
  rw [ev]
  exact g.edge (by omega) k hk' p hp
def aS (w : Sp) : Int := ((w.1.natAbs : Nat) : Int) + ((w.2.natAbs : Nat) : Int)
def aT : Int -> List Int -> Int
 | d, [] => d
 | d, x :: xs => aT ((Int.gcd d x : Nat) : Int) xs
def b6 (xs : List Int) : List Int := xs.map fun x => x.fdiv (aT 0 xs)
def jj (a : Sp) : Option (List Int) := if aS a = 0 then some [1] else none
def gN (a b : Sp) : Option (List Int) := if tn a b = 0 /\ dt2 a b < 0 then some (b6 [aS b, aS a]) else none
def gM (a b e : Sp) : Option (List Int) :=
 if 0 < tn b e /\ 0 < tn e a /\ 0 < tn a b then some (b6 [tn b e, tn e a, tn a b])
 else if tn b e < 0 /\ tn e a < 0 /\ tn a b < 0 then some (b6 [-tn b e, -tn e a, -tn a b]) else none
def fQ : List Sp -> Option (List Int)
 | [] => none
 | [a] => jj a
 | [a, b] => gN a b
 | a :: b :: e :: _ => gM a b e
def pkW (ws : List Sp) (pk : List Nat) : List Sp := pk.map fun k => ws.getD k (0, 0)
def bH (ws : List Sp) : List (List Nat) -> Option (List Nat × List Int)
 | [] => none
 | pk :: r => match fQ (pkW ws pk) with
  | some sh => some (pk, sh)
  | none => bH ws r
def cc (n : Nat) : List (List Nat) := lev n 1 ++ (lev n 2 ++ lev n 3)
theorem jD {a : Sp} : aS a = 0 ↔ a = (0, 0) := by
 unfold aS
 obtain ⟨x, y⟩ := a
 simp only [Prod.mk.injEq]
 omega
theorem mY {ws : List Sp} : ∀ {pks : List (List Nat)}, bH ws pks = none -> ∀ pk ∈ pks, fQ (pkW ws pk) = none
 | [], _, pk, h => by cases h
 | a :: r, e, pk, h => by
  unfold bH at e
  cases hb : fQ (pkW ws a) with
  | some s => rw [hb] at e; cases e
  | none =>
   rw [hb] at e
   rcases List.mem_cons.mp h with q | q
   ·rw [q]; exact hb
   ·exact mY e pk q
theorem qh {n i : Nat} (h : i < n) : [i] ∈ lev n 1 := by
 simp only [lev, List.flatMap_cons, List.flatMap_nil, List.append_nil]
 exact List.mem_map.mpr ⟨i, List.mem_range'_1.mpr ⟨Nat.zero_le _, by simp [cz]; exact h⟩, rfl⟩
theorem oN {n i j : Nat} (h : i < j) (hj : j < n) : [i, j] ∈ lev n 2 := by
 have := qh (n := n) (i := i) (by omega)
 refine List.mem_flatMap.mpr ⟨[i], this, List.mem_map.mpr ⟨j, List.mem_range'_1.mpr ?_, rfl⟩⟩
 simp [cz]
 omega
theorem wG {n i j k : Nat} (h : i < j) (hj : j < k) (hk : k < n) : [i, j, k] ∈ lev n 3 := by
 have := oN (n := n) h (by omega)
 refine List.mem_flatMap.mpr ⟨[i, j], this, List.mem_map.mpr ⟨k, List.mem_range'_1.mpr ?_, rfl⟩⟩
 simp [cz]
 omega
theorem ye {a b : Sp} (h : fL a b) : gN a b ≠ none := by
 unfold gN
 have h' : tn a b = 0 /\ dt2 a b < 0 := h
 rw [if_pos h']
 simp
theorem xE {a b e : Sp} (h : eT a b e) : gM a b e ≠ none := by
 unfold gM
 rcases h with h | h
 ·rw [if_pos h]; simp
 ·rw [if_neg (by omega), if_pos h]; simp
theorem qi {h : Tr} {ps : List Sp} (hb : mx h ps) : bH (ps.map (arS h)) (cc ps.length) ≠ none := by
 intro e
 have N := mY e
 have gd : ∀ {i : Nat} {p : Sp}, ps[i]? = some p -> (ps.map (arS h)).getD i (0, 0) = arS h p := fun {i p} q => by
  rw [List.getD_eq_getElem?_getD, List.getElem?_map, q]; rfl
 have lt : ∀ {i : Nat} {p : Sp}, ps[i]? = some p -> i < ps.length := fun {i p} q => (List.getElem?_eq_some_iff.mp q).1
 have two : ∀ i j p q, ps[i]? = some p -> ps[j]? = some q -> i < j -> fL (arS h p) (arS h q) -> False := fun i j p q hi hj hij b => by
  have := N [i, j] (List.mem_append_right _ (List.mem_append_left _ (oN hij (lt hj))))
  unfold pkW at this
  simp only [List.map_cons, List.map_nil, gd hi, gd hj] at this
  exact ye b this
 have three : ∀ i j k p q r, ps[i]? = some p -> ps[j]? = some q -> ps[k]? = some r -> i < j -> j < k -> eT (arS h p) (arS h q) (arS h r) -> False := fun i j k p q r hi hj hk hij hjk b => by
  have := N [i, j, k] (List.mem_append_right _ (List.mem_append_right _ (wG hij hjk (lt hk))))
  unfold pkW at this
  simp only [List.map_cons, List.map_nil, gd hi, gd hj, gd hk] at this
  exact xE b this
 rcases hb with ⟨p, hp, b⟩ | ⟨p, hp, q, hq, b⟩ | ⟨p, hp, q, hq, r, hr, b⟩
 ·obtain ⟨i, hi⟩ := List.mem_iff_getElem?.mp hp
  have := N [i] (List.mem_append_left _ (qh (lt hi)))
  unfold pkW at this
  simp only [List.map_cons, List.map_nil, gd hi] at this
  have this' : jj (arS h p) = none := this
  unfold jj at this'
  rw [if_pos (jD.mpr b)] at this'
  cases this'
 ·obtain ⟨i, hi⟩ := List.mem_iff_getElem?.mp hp
  obtain ⟨j, hj⟩ := List.mem_iff_getElem?.mp hq
  rcases Nat.lt_trichotomy i j with c | c | c
  ·exact two i j p q hi hj c b
  ·subst c
   rw [hi] at hj
   cases hj
   have p0 := b.2
   unfold dt2 at p0
   have := sqn (arS h p).1
   have := sqn (arS h p).2
   omega
  ·exact two j i q p hj hi c b.symm
 ·obtain ⟨i, hi⟩ := List.mem_iff_getElem?.mp hp
  obtain ⟨j, hj⟩ := List.mem_iff_getElem?.mp hq
  obtain ⟨k, hk⟩ := List.mem_iff_getElem?.mp hr
  have ne : ∀ {i j : Nat} {p q r : Sp}, ps[i]? = some p -> ps[j]? = some q -> eT (arS h p) (arS h q) r -> i ≠ j := fun {i j p q r} hi hj b c => by
   subst c
   rw [hi] at hj
   cases hj
   unfold eT at b
   rw [x9] at b
   omega
  have n1 := ne hi hj b
  have n2 := ne hj hk b.rot
  have n3 := ne hk hi b.rot.rot
  rcases Nat.lt_or_gt_of_ne n1 with c1 | c1
  ·rcases Nat.lt_or_gt_of_ne n2 with c2 | c2
   ·exact three i j k p q r hi hj hk c1 c2 b
   ·rcases Nat.lt_or_gt_of_ne n3 with c3 | c3
    ·exact three k i j r p q hk hi hj c3 c1 b.rot.rot
    ·exact three i k j p r q hi hk hj c3 c2 b.rot.rot.swap
  ·rcases Nat.lt_or_gt_of_ne n2 with c2 | c2
   ·rcases Nat.lt_or_gt_of_ne n3 with c3 | c3
    ·exact three j k i q r p hj hk hi c2 c3 b.rot
    ·exact three j i k q p r hj hi hk c1 c3 b.swap
   ·exact three k j i r q p hk hj hi c2 c1 b.rot.swap
theorem oO (k : Int) (hk : 0 <= k) : ∀ (xs : List Int) (d : Int), aT (k * d) (xs.map (k * ·)) = k * aT d xs
 | [], d => rfl
 | x :: xs, d => by
  show aT ((Int.gcd (k * d) (k * x) : Nat) : Int) (xs.map (k * ·)) = _
  rw [Int.gcd_mul_left, Int.natCast_mul, Int.natAbs_of_nonneg hk, oO k hk xs]
  rfl
structure Snt (A B C E g : Int) (w v : Sp) : Prop where
 x : g * v.1 = A * w.1 + B * w.2
 y : g * v.2 = C * w.1 + E * w.2
theorem zh {a b : Sp} (h : tn a b = 0) : dt2 b b * a.1 + (-(dt2 a b)) * b.1 = 0 /\ dt2 b b * a.2 + (-(dt2 a b)) * b.2 = 0 := by
 have e1 : dt2 b b * a.1 + (-(dt2 a b)) * b.1 = b.2 * tn a b := by unfold dt2 tn; grind
 have e2 : dt2 b b * a.2 + (-(dt2 a b)) * b.2 = - (b.1 * tn a b) := by unfold dt2 tn; grind
 rw [e1, e2, h]
 simp
theorem gW {a : Sp} (h : a ≠ (0, 0)) : 0 < aS a := by
 have : aS a ≠ 0 := fun e => h (jD.mp e)
 unfold aS at this ⊢
 omega
def trD (g : Tr) : D := T3 g.1 g.2.1 g.2.2
theorem fg (p : Tr) : aJ (trD p) = trD p := by unfold trD T3; simp only [bJ, aL, bD, bQ]
theorem me (ps : List Tr) : aW (ps.map trD) = ps.map trD := bR trD fg ps
def oL : Option (List Int) -> D
 | none => .non
 | some xs => .lst true (xs.map D.int)
structure WB (n : Nat) (w : Sp) : Prop where
 x : Bd n w.1
 y : Bd n w.2
structure PB (n : Nat) (h : Tr) : Prop where
 b0 : 0 < h.1
 b : Bd 60 h.1
 x : Bd n h.2.1
 y : Bd n h.2.2
theorem WB.mono {n m : Nat} {w : Sp} (h : WB n w) (hn : n <= m) : WB m w := ⟨h.x.mono hn, h.y.mono hn⟩
theorem WB.sb {w : Sp} (h : WB 60 w) : SB w := ⟨h.x, h.y⟩
theorem cmB {x y : Int} {n m : Nat} (hx : Bd n x) (hy : Bd m y) (hn : n <= 1000 := by decide) (hm : m <= 1000 := by decide) : CM x y := .inr (.inr ⟨hx.mono (Nat.le_trans hn (by decide)), hy.mono (Nat.le_trans hm (by decide))⟩)
theorem jJ (x : Int) : ∀ (d : Int) (xs : List Int), aT d (xs ++ [x]) = ((Int.gcd (aT d xs) x : Nat) : Int)
 | d, [] => rfl
 | d, y :: ys => jJ x _ ys
theorem ka {n : Nat} {w : Sp} (h : WB n w) : Bd (n + 2) (aS w) := by
 have hx := h.x
 have hy := h.y
 unfold Bd aS at *
 have : (2 : Nat) ^ (n + 2) = 2 ^ n * 4 := Nat.pow_add 2 n 2
 omega
theorem xx {d x : Int} (h : x ≠ 0) : 0 < Int.gcd ((Int.gcd 0 d : Nat) : Int) x := Int.gcd_pos_iff.mpr (.inr h)
theorem uU {n : Nat} {d x : Int} (hx : Bd n x) (h : x ≠ 0) : Bd n ((Int.gcd d x : Nat) : Int) := by
 unfold Bd at *
 have := Nat.le_of_dvd (by omega) (Int.gcd_dvd_natAbs_right d x)
 omega
theorem bT {n : Nat} {x : Int} (h : Bd n x) : Bd n (-x) := by unfold Bd at *; omega
theorem zb (p q : Sp) : eqD (plS p) (plS q) = decide (p = q) := by
 unfold plS
 rw [rK, ij, ij, ij, pD, gv, gv, gv, Bool.and_true]
 by_cases e : p = q
 ·subst e; simp
 ·rw [decide_eq_false e]
  simp only [decide_true, Bool.true_and, Bool.and_eq_false_iff, decide_eq_false_iff_not]
  by_cases e1 : p.1 = q.1
  ·right; intro e2; exact e (Prod.ext e1 e2)
  ·left; exact e1
theorem uv {α : Type} {xs : List α} {v : α} (h0 : 0 < xs.length) (h : xs[xs.length - 1]? = some v) : atI xs (-1) = some v := by
 unfold atI ixN
 rw [if_neg (by omega), if_pos (by omega)]
 show xs[(-1 + (xs.length : Int)).toNat]? = _
 rw [show (-1 + (xs.length : Int)).toNat = xs.length - 1 by omega]
 exact h
structure GB (g : Tr) : Prop where
 a : Bd 200 g.1
 b : Bd 200 g.2.1
 c : Bd 200 g.2.2
theorem j9 {p w : Sp} (hp : SB p) (hw : WB 62 w) : GB (cf p w) :=
 ⟨(bT ((hw.x.mul hp.x).add (hw.y.mul hp.y))).mono (by decide), by show Bd 200 (w.1 * 1); rw [Int.mul_one]; exact hw.x.mono (by decide), by show Bd 200 (w.2 * 1); rw [Int.mul_one]; exact hw.y.mono (by decide)⟩
theorem vo {a b : Sp} (ha : SB a) (hb : SB b) : GB (iN a b) :=
 ⟨Bd.mono (m := 121) ((ha.x.mul hb.y).sub (hb.x.mul ha.y)) (by decide), by show Bd 200 (a.2 * 1 - b.2 * 1); rw [Int.mul_one, Int.mul_one]; exact Bd.mono (m := 61) (ha.y.sub hb.y) (by decide), by show Bd 200 (1 * b.1 - 1 * a.1); rw [Int.one_mul, Int.one_mul]; exact Bd.mono (m := 61) (hb.x.sub ha.x) (by decide)⟩
theorem oY {a b : Sp} (ha : SB a) (hb : SB b) : WB 62 (aN a b) := by
 unfold aN
 split
 ·exact ⟨by unfold Bd; decide, by unfold Bd; decide⟩
 ·exact ⟨by show Bd 62 (1 * b.1 - 1 * a.1); rw [Int.one_mul, Int.one_mul]; exact Bd.mono (m := 61) (hb.x.sub ha.x) (by decide), by show Bd 62 (1 * b.2 - 1 * a.2); rw [Int.one_mul, Int.one_mul]; exact Bd.mono (m := 61) (hb.y.sub ha.y) (by decide)⟩
theorem nj {hs : List Sp} (h0 : 0 < hs.length) (hb : ∀ p ∈ hs, SB p) {g : Tr} (hg : g ∈ aX hs) : GB g := by
 have gt : ∀ i, i < hs.length -> hs[i]? = some (hs.getD i (0, 0)) := fun i hi => by
  rw [List.getD_eq_getElem?_getD, List.getElem?_eq_getElem hi]; rfl
 have gm : ∀ i, i < hs.length -> SB (hs.getD i (0, 0)) := fun i hi => hb _ (List.mem_of_getElem? (gt i hi))
 unfold aX at hg
 split at hg
 ·have A := gm 0 h0
  have B := gm (hs.length - 1) (by omega)
  have w := oY A B
  unfold dX at hg
  simp only [List.mem_cons, List.not_mem_nil, or_false] at hg
  rcases hg with q | q | q | q <;> rw [q]
  ·exact j9 A w
  ·exact j9 B ⟨bT w.x, bT w.y⟩
  ·exact j9 A ⟨bT w.y, w.x⟩
  ·exact j9 A ⟨bT (bT w.y), bT w.x⟩
 ·obtain ⟨k, hk, e⟩ := List.mem_map.mp hg
  rw [<- e]
  have hk' := (List.mem_range'_1.mp hk).2
  rw [Nat.zero_add] at hk'
  exact vo (gm _ (Nat.mod_lt _ h0)) (gm k hk')
theorem sk (hs : List Sp) : (aX hs).length <= hs.length + 4 := by
 unfold aX dX
 split
 ·simp
 ·rw [List.length_map, List.length_range']; omega
def mF (n : Nat) : Nat -> List (List Nat)
 | 0 => lev n 1 ++ (lev n 2 ++ (lev n 3 ++ []))
 | 1 => lev n 2 ++ (lev n 3 ++ [])
 | 2 => lev n 3 ++ []
 | _ => []
theorem uB (n : Nat) {j : Nat} (h : j < 3) : mF n j = lev n (j + 1) ++ mF n (j + 1) := by
 rcases j with _ | _ | _ | j
 ·rfl
 ·rfl
 ·rfl
 ·omega
theorem wt (n : Nat) : cc n = mF n 0 := by
 show lev n 1 ++ (lev n 2 ++ lev n 3) = lev n 1 ++ (lev n 2 ++ (lev n 3 ++ []))
 rw [List.append_nil]
theorem uq (ws : List Sp) (pk : List Nat) (r : List (List Nat)) : bH ws (pk :: r) = match fQ (pkW ws pk) with
  | some sh => some (pk, sh)
  | none => bH ws r := rfl
theorem df {M : Nat} : ∀ l : List Int, (∀ x ∈ l, x.natAbs <= M) -> l.sum.natAbs <= l.length * M
 | [], _ => by simp
 | x :: l, h => by
  have a := df l fun y hy => h y (List.mem_cons_of_mem _ hy)
  have b := h x List.mem_cons_self
  rw [List.sum_cons, List.length_cons, Nat.add_mul, Nat.one_mul]
  omega
theorem iX : ∀ l : List Int, 0 < l.length -> (∀ x ∈ l, 0 < x) -> 0 < l.sum
 | [], h, _ => by simp at h
 | [x], _, h => by have := h x (by simp); simp; omega
 | x :: y :: l, _, h => by
  have a := iX (y :: l) (by simp) fun z hz => h z (List.mem_cons_of_mem _ hz)
  have b := h x List.mem_cons_self
  rw [List.sum_cons]
  omega
theorem cX {n : Nat} {g p b : Int} (hg : 0 < g) (e : g * p = b) (h : Bd n b) : Bd n p := by
 unfold Bd at *
 rw [<- e, Int.natAbs_mul] at h
 have : 1 * p.natAbs <= g.natAbs * p.natAbs := Nat.mul_le_mul_right _ (by omega)
 omega
theorem iS {g p b : Int} (hg : 0 < g) (e : g * p = b) (h : 0 < b) : 0 < p := by
 by_cases c : 0 < p
 ·exact c
 ·have := Int.mul_nonpos_of_nonneg_of_nonpos (Int.le_of_lt hg) (show p <= 0 by omega); omega
theorem jr {α β : Type} : ∀ {ps : List α} {ws : List β}, ps.length = ws.length -> ∃ zs : List (α × β), ps = zs.map (·.1) /\ ws = zs.map (·.2)
 | [], [], _ => ⟨[], rfl, rfl⟩
 | [], _ :: _, h => by simp at h
 | _ :: _, [], h => by simp at h
 | p :: ps, w :: ws, h => by
  obtain ⟨zs, a, b⟩ := jr (ps := ps) (ws := ws) (by simpa using h)
  exact ⟨(p, w) :: zs, by rw [a]; rfl, by rw [b]; rfl⟩
theorem p4 : ((10 : Int) ^ (4 : Int).toNat) = 10000 := by decide
theorem p6 : ((10 : Int) ^ (6 : Int).toNat) = 1000000 := by decide
theorem p8 : ((10 : Int) ^ (8 : Int).toNat) = 100000000 := by decide
theorem p9 : ((10 : Int) ^ (9 : Int).toNat) = 1000000000 := by decide
theorem cp4 : mH 10 4 := ⟨by decide, by decide, by decide⟩
theorem cp6 : mH 10 6 := ⟨by decide, by decide, by decide⟩
theorem cp9 : mH 10 9 := ⟨by decide, by decide, by decide⟩
theorem dO (n : Nat) (x : Str) (hx : PyData.strOk x = true) : OkN n (.str x) := ⟨by rw [plD] <;> (intros; contradiction), by rw [pyD, PyData.canLay0]; exact hx, by rw [pyD, PyData.depth]; exact Nat.zero_le _⟩
theorem vJ {a b : Int} (hb : Bd 402 b) (h : b ≠ 0) : Bd 1000 (aT 0 [a, b]) := (uU hb h).mono (by decide)
theorem uh {α : Type} {wi : DA} {js : List Nat} {tc : DT} {te : DE} {ρ : Ro} {Q : D -> Prop} {P : List α -> Prop} (f : α -> D) (c : α -> Bool) (g : α -> D) (hw : ∀ R : List D -> Prop, (∀ ys, P ys -> R (ys.map f)) -> wi ρ R) (hz : ∀ ys, P ys -> ys.length <= sizeLine)
  (hc : ∀ ys, P ys -> ∀ x ∈ ys, ∀ K : Bool -> Prop, K (c x) -> tc (some (.val (f x)) :: js.map (bc ρ)) K)
  (he : ∀ ys, P ys -> ∀ x ∈ ys, ∀ K : D -> Prop, K (g x) -> te (some (.val (f x)) :: js.map (bc ρ)) K) (q : ∀ ys, P ys -> Q (.lst true ((ys.filter c).map g))) : ir wi js tc te ρ Q := by
 refine hw _ fun ys hy => ?_
 have := PD.comp_map (wi := fun _ R => R (ys.map f)) (js := js) (tc := tc) (te := te) (ρ := ρ) (Q := Q) ys f c g (fun R h => h) (hz ys hy) (fun x hx K k => hc ys hy x hx K k) (fun x hx _ K k => he ys hy x hx K k) (q ys hy)
 exact this
theorem cB {s1 s2 : DS} {E : gc} {ρ : Ro} (P : Ro -> Prop) (h2 : ∀ ρ', P ρ' -> s2 E ρ') (h1 : ∀ K : Ro -> Prop, (∀ ρ', P ρ' -> K ρ') -> s1 { E with nx := K } ρ) : sQ s1 s2 E ρ := h1 _ h2
theorem wJ : ∀ {xs ys ps : List Sp}, cg xs ps -> cg ys ps -> xs = ys := by
 have go : ∀ (xs ys : List Sp), xs.Pairwise (fun p q => dZ p q) -> ys.Pairwise (fun p q => dZ p q) -> (∀ p, p ∈ xs ↔ p ∈ ys) -> xs = ys := by
  intro xs
  induction xs with
  | nil =>
   intro ys _ _ h
   cases ys with
   | nil => rfl
   | cons y ys => have := (h y).mpr List.mem_cons_self; cases this
  | cons x xs ih =>
   intro ys ox oy h
   cases ys with
   | nil => have := (h x).mp List.mem_cons_self; cases this
   | cons y ys =>
    obtain ⟨x1, x2⟩ := List.pairwise_cons.mp ox
    obtain ⟨y1, y2⟩ := List.pairwise_cons.mp oy
    have exy : x = y := by
     rcases List.mem_cons.mp ((h x).mp List.mem_cons_self) with e | e
     ·exact e
     ·rcases List.mem_cons.mp ((h y).mpr List.mem_cons_self) with e' | e'
      ·exact e'.symm
      ·have a := y1 x e
       have b := x1 y e'
       unfold dZ at a b
       omega
    subst exy
    have irr : ∀ p : Sp, ¬ dZ p p := fun p => by unfold dZ; omega
    rw [ih ys x2 y2 fun p => ⟨fun hp => ?_, fun hp => ?_⟩]
    ·rcases List.mem_cons.mp ((h p).mp (List.mem_cons_of_mem _ hp)) with e | e
     ·have := x1 p hp; rw [e] at this; exact absurd this (irr x)
     ·exact e
    ·rcases List.mem_cons.mp ((h p).mpr (List.mem_cons_of_mem _ hp)) with e | e
     ·have := y1 p hp; rw [e] at this; exact absurd this (irr x)
     ·exact e
 intro xs ys ps hx hy
 exact go xs ys hx.1 hy.1 fun p => (hx.2 p).trans (hy.2 p).symm
def stA : Nat -> Int -> List Int -> List Int × Int
 | 0, r, acc => (acc, r)
 | n + 1, r, acc => stA n (r.fdiv 306783379) (acc ++ [r.fmod 306783379])
def stB : List Nat -> Int -> Int -> List Int -> List Int
 | [], _, _, acc => acc
 | k :: r, x, y, acc => stB r ((x * 48271 + (k : Int) * (k : Int) + 11).fmod 2147483647) ((y * 69621 + (x * 48271 + (k : Int) * (k : Int) + 11).fmod 2147483647).fmod 2147483629) (acc ++ [((y * 69621 + (x * 48271 + (k : Int) * (k : Int) + 11).fmod 2147483647).fmod 2147483629).fdiv 7])
def cn (c : Int) (m : Nat) : List Int := if 0 < (stA m c []).2 then (stA m c []).1 else stB (List.range' 0 m) (c.fmod 2147483647 + 48271) ((c.fdiv 2147483647).fmod 2147483629 + 16807) []
def okX (x : Int) : Prop := 0 <= x /\ x < 2147483647
theorem ug : ∀ (n : Nat) (r : Int) (acc : List Int), (∀ x ∈ acc, okX x) -> (stA n r acc).1.length = acc.length + n /\ ∀ x ∈ (stA n r acc).1, okX x
 | 0, r, acc, h => ⟨rfl, h⟩
 | n + 1, r, acc, h => by
  have a := Int.fmod_nonneg_of_pos r (show (0 : Int) < 306783379 by decide)
  have b := Int.fmod_lt_of_pos r (show (0 : Int) < 306783379 by decide)
  have := ug n (r.fdiv 306783379) (acc ++ [r.fmod 306783379]) fun x hx => by
   rcases List.mem_append.mp hx with z | z
   ·exact h x z
   ·rw [List.mem_singleton.mp z]; unfold okX; omega
  refine ⟨?_, this.2⟩
  show (stA n (r.fdiv 306783379) (acc ++ [r.fmod 306783379])).1.length = _
  rw [this.1, List.length_append]
  simp
  omega
theorem uT : ∀ (l : List Nat) (x y : Int) (acc : List Int), (∀ z ∈ acc, okX z) -> (stB l x y acc).length = acc.length + l.length /\ ∀ z ∈ stB l x y acc, okX z
 | [], x, y, acc, h => ⟨rfl, h⟩
 | k :: r, x, y, acc, h => by
  have a := Int.fmod_nonneg_of_pos (y * 69621 + (x * 48271 + (k : Int) * (k : Int) + 11).fmod 2147483647) (show (0 : Int) < 2147483629 by decide)
  have b := Int.fmod_lt_of_pos (y * 69621 + (x * 48271 + (k : Int) * (k : Int) + 11).fmod 2147483647) (show (0 : Int) < 2147483629 by decide)
  have e := Int.fdiv_eq_ediv_of_nonneg ((y * 69621 + (x * 48271 + (k : Int) * (k : Int) + 11).fmod 2147483647).fmod 2147483629) (show (0 : Int) <= 7 by decide)
  unfold stB
  have := uT r ((x * 48271 + (k : Int) * (k : Int) + 11).fmod 2147483647) ((y * 69621 + (x * 48271 + (k : Int) * (k : Int) + 11).fmod 2147483647).fmod 2147483629) (acc ++ [((y * 69621 + (x * 48271 + (k : Int) * (k : Int) + 11).fmod 2147483647).fmod 2147483629).fdiv 7]) fun z hz => by
   rcases List.mem_append.mp hz with q | q
   ·exact h z q
   ·rw [List.mem_singleton.mp q, e]; unfold okX; omega
  refine ⟨?_, this.2⟩
  rw [this.1, List.length_append]
  simp
  omega
theorem rM (c : Int) (m : Nat) : (cn c m).length = m /\ ∀ x ∈ cn c m, okX x := by
 unfold cn
 split
 ·have := ug m c [] (by simp)
  simpa using this
 ·have := uT (List.range' 0 m) (c.fmod 2147483647 + 48271) ((c.fdiv 2147483647).fmod 2147483629 + 16807) [] (by simp)
  simpa using this
def j7 (ps : List Sp) (h g : Tr) : Prop := ∃ ys, cg ys ps /\ (aX (bO ys)).find? (fun b => decide (gvS b h < 0)) = some g
theorem j7.uniq {ps : List Sp} {h g g' : Tr} (a : j7 ps h g) (b : j7 ps h g') : g = g' := by
 obtain ⟨ys, r, e⟩ := a
 obtain ⟨zs, r', e'⟩ := b
 rw [wJ r r', e'] at e
 cases e
 rfl
def kM (ps : List Sp) (h : Tr) : Prop := ∃ zs : List (Sp × Int), zs ≠ [] /\ (∀ z ∈ zs, z.1 ∈ ps /\ 0 < z.2) /\ (zs.map (·.2)).sum * h.2.1 = h.1 * (zs.map fun z => z.1.1 * z.2).sum /\ (zs.map (·.2)).sum * h.2.2 = h.1 * (zs.map fun z => z.1.2 * z.2).sum
theorem rH (g : Tr) : ∀ zs : List (Sp × Int), (zs.map fun z => z.2 * gvS g (1, z.1.1, z.1.2)).sum = g.1 * (zs.map (·.2)).sum + g.2.1 * (zs.map fun z => z.1.1 * z.2).sum + g.2.2 * (zs.map fun z => z.1.2 * z.2).sum
 | [] => by simp
 | z :: zs => by
  simp only [List.map_cons, List.sum_cons]
  rw [rH g zs]
  unfold gvS
  grind
theorem mJ : ∀ l : List Int, (∀ x ∈ l, 0 <= x) -> 0 <= l.sum
 | [], _ => by simp
 | x :: l, h => by
  rw [List.sum_cons]
  exact Int.add_nonneg (h x List.mem_cons_self) (mJ l fun y hy => h y (List.mem_cons_of_mem _ hy))
theorem wQ : ∀ l : List Int, l ≠ [] -> (∀ x ∈ l, 0 < x) -> 0 < l.sum
 | [], h, _ => absurd rfl h
 | x :: l, _, h => by
  rw [List.sum_cons]
  exact Int.add_pos_of_pos_of_nonneg (h x List.mem_cons_self) (mJ l fun y hy => Int.le_of_lt (h y (List.mem_cons_of_mem _ hy)))
theorem xV {ps : List Sp} {h : Tr} (h0 : 0 < h.1) (m : kM ps h) : ∀ g : Tr, (∀ p ∈ ps, 0 <= gvS g (1, p.1, p.2)) -> 0 <= gvS g h := by
 intro g hg
 obtain ⟨zs, ne, hz, e1, e2⟩ := m
 have a : 0 <= (zs.map fun z => z.2 * gvS g (1, z.1.1, z.1.2)).sum := mJ _ fun x hx => by
  obtain ⟨z, hm, rfl⟩ := List.mem_map.mp hx
  exact Int.mul_nonneg (Int.le_of_lt (hz z hm).2) (hg z.1 (hz z hm).1)
 have w : 0 < (zs.map (·.2)).sum := wQ _ (by simpa using ne) fun x hx => by
  obtain ⟨z, hm, rfl⟩ := List.mem_map.mp hx
  exact (hz z hm).2
 rw [rH] at a
 generalize (zs.map (·.2)).sum = W at *
 generalize (zs.map fun z => z.1.1 * z.2).sum = A at *
 generalize (zs.map fun z => z.1.2 * z.2).sum = B at *
 have e : gvS g h * W = h.1 * (g.1 * W + g.2.1 * A + g.2.2 * B) := by
  have : gvS g h * W = h.1 * (g.1 * W) + g.2.1 * (W * h.2.1) + g.2.2 * (W * h.2.2) := by unfold gvS; grind
  rw [this, e1, e2]
  grind
 refine vt (y := W) ?_ w
 rw [e]
 exact Int.mul_nonneg (Int.le_of_lt h0) a
theorem nu {ps : List Sp} {h : Tr} (hn : ps ≠ []) (h0 : 0 < h.1) (m : kM ps h) {ys : List Sp} (hy : cg ys ps) : bH (ps.map (arS h)) (cc ps.length) ≠ none := by
 have g := ig hy
 exact qi (mV g hn h0 fun b hb => xV h0 m b fun p hp => kA g hn hb hp)
def wsum (sh : List Int) (ws : List Sp) : Sp := ((List.zipWith (fun s (w : Sp) => s * w.1) sh ws).sum, (List.zipWith (fun s (w : Sp) => s * w.2) sh ws).sum)
theorem ju : ∀ (d : Int) (xs : List Int), aT d xs ∣ d /\ ∀ x ∈ xs, aT d xs ∣ x
 | d, [] => ⟨Int.dvd_refl _, by simp⟩
 | d, x :: xs => by
  obtain ⟨a, b⟩ := ju ((Int.gcd d x : Nat) : Int) xs
  refine ⟨Int.dvd_trans a (Int.gcd_dvd_left _ _), fun y hy => ?_⟩
  rcases List.mem_cons.mp hy with z | z
  ·rw [z]; exact Int.dvd_trans a (Int.gcd_dvd_right _ _)
  ·exact b y z
theorem pX : ∀ (d : Int) (xs : List Int), 0 <= d -> 0 <= aT d xs
 | d, [], h => h
 | d, x :: xs, _ => pX _ xs (Int.natCast_nonneg _)
structure rY (xs : List Int) : Prop where
 pos : ∀ s ∈ b6 xs, 0 < s
 one : aT 0 (b6 xs) = 1
 back : ∃ g : Int, 0 < g /\ (b6 xs).map (g * ·) = xs
theorem iQ {xs : List Int} (hn : xs ≠ []) (h : ∀ x ∈ xs, 0 < x) : rY xs := by
 obtain ⟨x0, hx0⟩ := List.exists_mem_of_ne_nil xs hn
 have gp : 0 < aT 0 xs := by
  have a := pX 0 xs (Int.le_refl _)
  have : aT 0 xs ≠ 0 := fun e => by
   have := (ju 0 xs).2 x0 hx0
   rw [e] at this
   have := Int.zero_dvd.mp this
   have := h x0 hx0
   omega
  omega
 have bk : (b6 xs).map (aT 0 xs * ·) = xs := by
  unfold b6
  rw [List.map_map]
  have : ∀ x ∈ xs, ((aT 0 xs * ·) ∘ fun x => x.fdiv (aT 0 xs)) x = x := fun x hx => by
   show aT 0 xs * x.fdiv (aT 0 xs) = x
   rw [Int.fdiv_eq_ediv_of_dvd ((ju 0 xs).2 x hx)]
   exact Int.mul_ediv_cancel' ((ju 0 xs).2 x hx)
  rw [List.map_congr_left this, List.map_id']
 refine ⟨fun s hs => ?_, ?_, _, gp, bk⟩
 ·have hm : aT 0 xs * s ∈ xs := by
   have : aT 0 xs * s ∈ (b6 xs).map (aT 0 xs * ·) := List.mem_map.mpr ⟨s, hs, rfl⟩
   rw [bk] at this
   exact this
  have := h _ hm
  exact wO (y := aT 0 xs) (by rw [Int.mul_comm]; exact this) gp
 ·have := oO (aT 0 xs) (Int.le_of_lt gp) (b6 xs) 0
  rw [bk, Int.mul_zero] at this
  have h2 : aT 0 xs * 1 = aT 0 xs * aT 0 (b6 xs) := by rw [Int.mul_one]; exact this
  exact (Int.eq_of_mul_eq_mul_left (by omega) h2).symm
structure Ao (ws : List Sp) (sh : List Int) : Prop where
 len : sh.length = ws.length
 pos : ∀ s ∈ sh, 0 < s
 one : aT 0 sh = 1
 sum : wsum sh ws = (0, 0)
theorem yI {a b : Sp} (h : fL a b) : aS b * a.1 + aS a * b.1 = 0 /\ aS b * a.2 + aS a * b.2 = 0 := by
 have hb : b ≠ (0, 0) := fun e => by have := h.2; rw [e] at this; unfold dt2 at this; simp at this
 obtain ⟨e1, e2⟩ := zh h.1
 have px := iZ hb
 have py : 0 < -(dt2 a b) := by have := h.2; omega
 generalize dt2 b b = x at e1 e2 px
 generalize -(dt2 a b) = y at e1 e2 py
 have l : x * aS a = y * aS b := by
  have n1 : x.natAbs * a.1.natAbs = y.natAbs * b.1.natAbs := by rw [<- Int.natAbs_mul, <- Int.natAbs_mul]; omega
  have n2 : x.natAbs * a.2.natAbs = y.natAbs * b.2.natAbs := by rw [<- Int.natAbs_mul, <- Int.natAbs_mul]; omega
  have c1 := congrArg (fun n : Nat => (n : Int)) n1
  have c2 := congrArg (fun n : Nat => (n : Int)) n2
  simp only [Int.natCast_mul, Int.natAbs_of_nonneg (Int.le_of_lt px), Int.natAbs_of_nonneg (Int.le_of_lt py)] at c1 c2
  unfold aS
  rw [Int.mul_add, Int.mul_add, c1, c2]
 have z : ∀ u v : Int, x * u + y * v = 0 -> aS b * u + aS a * v = 0 := fun u v e => by
  have : x * (aS b * u + aS a * v) = aS b * (x * u + y * v) + v * (x * aS a - y * aS b) := by grind
  rw [e, l, Int.sub_self, Int.mul_zero, Int.mul_zero, Int.add_zero] at this
  exact (Int.mul_eq_zero.mp this).resolve_left (by omega)
 exact ⟨z _ _ e1, z _ _ e2⟩
theorem kL {xs : List Int} {ws : List Sp} (L : rY xs) (h : wsum xs ws = (0, 0)) : wsum (b6 xs) ws = (0, 0) := by
 obtain ⟨g, gp, bk⟩ := L.back
 have key : ∀ (f : Sp -> Int) (l : List Int) (us : List Sp), (List.zipWith (fun s w => s * f w) (l.map (g * ·)) us).sum = g * (List.zipWith (fun s w => s * f w) l us).sum := fun f l => by
  induction l with
  | nil => intro us; simp
  | cons s l ih =>
   intro us
   cases us with
   | nil => simp
   | cons u us =>
    simp only [List.map_cons, List.zipWith_cons_cons, List.sum_cons]
    rw [ih us, Int.mul_add, Int.mul_assoc]
 unfold wsum at h ⊢
 rw [<- bk] at h
 rw [Prod.mk.injEq] at h ⊢
 rw [key (fun w => w.1), key (fun w => w.2)] at h
 have z : ∀ t : Int, g * t = 0 -> t = 0 := fun t e => (Int.mul_eq_zero.mp e).resolve_left (by omega)
 exact ⟨z _ h.1, z _ h.2⟩
theorem zQ {ws : List Sp} {sh : List Int} (h3 : ws.length <= 3) (h : fQ ws = some sh) : Ao ws sh := by
 rcases ws with _ | ⟨a, _ | ⟨b, _ | ⟨e, _ | ⟨z, r⟩⟩⟩⟩
 ·cases h
 ·have h' : jj a = some sh := h
  unfold jj at h'
  split at h'
  ·rename_i c
   cases h'
   have := jD.mp c
   subst this
   exact ⟨rfl, by simp, rfl, by unfold wsum; simp⟩
  ·cases h'
 ·have h' : gN a b = some sh := h
  unfold gN at h'
  split at h'
  ·rename_i c
   cases h'
   have c' : fL a b := c
   have na : a ≠ (0, 0) := fun e => by have := c.2; rw [e] at this; unfold dt2 at this; simp at this
   have nb : b ≠ (0, 0) := fun e => by have := c.2; rw [e] at this; unfold dt2 at this; simp at this
   have L := iQ (xs := [aS b, aS a]) (by simp) fun x hx => by
    simp only [List.mem_cons, List.not_mem_nil, or_false] at hx
    rcases hx with rfl | rfl
    ·exact gW nb
    ·exact gW na
   obtain ⟨t1, t2⟩ := yI c'
   refine ⟨by unfold b6; simp, L.pos, L.one, kL L ?_⟩
   unfold wsum
   simp only [List.zipWith_cons_cons, List.zipWith_nil_left, List.sum_cons, List.sum_nil, Int.add_zero, t1, t2]
  ·cases h'
 ·have h' : gM a b e = some sh := h
  obtain ⟨b1, b2⟩ := yX a b e
  unfold gM at h'
  split at h'
  ·rename_i c
   cases h'
   have L := iQ (xs := [tn b e, tn e a, tn a b]) (by simp) fun x hx => by
    simp only [List.mem_cons, List.not_mem_nil, or_false] at hx
    rcases hx with rfl | rfl | rfl
    ·exact c.1
    ·exact c.2.1
    ·exact c.2.2
   refine ⟨by unfold b6; simp, L.pos, L.one, kL L ?_⟩
   unfold wsum
   simp only [List.zipWith_cons_cons, List.zipWith_nil_left, List.sum_cons, List.sum_nil, Int.add_zero]
   rw [<- Int.add_assoc, <- Int.add_assoc, b1, b2]
  ·split at h'
   ·rename_i c
    cases h'
    have L := iQ (xs := [-tn b e, -tn e a, -tn a b]) (by simp) fun x hx => by
     simp only [List.mem_cons, List.not_mem_nil, or_false] at hx
     rcases hx with rfl | rfl | rfl <;> omega
    refine ⟨by unfold b6; simp, L.pos, L.one, kL L ?_⟩
    unfold wsum
    simp only [List.zipWith_cons_cons, List.zipWith_nil_left, List.sum_cons, List.sum_nil, Int.add_zero, Int.neg_mul]
    rw [Prod.mk.injEq]
    omega
   ·cases h'
 ·exact absurd h3 (by simp)
theorem nM {ws : List Sp} : ∀ {pks : List (List Nat)} {pk : List Nat} {sh : List Int}, bH ws pks = some (pk, sh) -> pk ∈ pks /\ fQ (pkW ws pk) = some sh
 | [], _, _, h => by cases h
 | p :: q, pk, sh, h => by
  rw [show bH ws (p :: q) = (match fQ (pkW ws p) with | some sh => some (p, sh) | none => bH ws q) from rfl] at h
  cases hb : fQ (pkW ws p) with
  | none =>
   rw [hb] at h
   obtain ⟨a, b⟩ := nM h
   exact ⟨List.mem_cons_of_mem _ a, b⟩
  | some s =>
   rw [hb] at h
   cases h
   exact ⟨List.mem_cons_self, hb⟩
theorem pY {n : Nat} : ∀ {j : Nat} {pk : List Nat}, pk ∈ lev n j -> pk.Pairwise (· < ·)
 | 0, pk, h => by
  simp only [lev, List.mem_singleton] at h
  subst h
  exact .nil
 | j + 1, pk, h => by
  simp only [lev, List.mem_flatMap] at h
  obtain ⟨q, hq, h⟩ := h
  have ih := pY hq
  unfold nxt at h
  obtain ⟨k, hk, rfl⟩ := List.mem_map.mp h
  rw [List.mem_range'_1] at hk
  refine List.pairwise_append.mpr ⟨ih, List.pairwise_singleton _ _, fun x hx y hy => ?_⟩
  rw [List.mem_singleton.mp hy]
  have hf : x < cz q := by
   unfold cz
   cases e : q.getLast? with
   | none => rw [List.getLast?_eq_none_iff.mp e] at hx; cases hx
   | some l =>
    obtain ⟨q', rfl⟩ := List.getLast?_eq_some_iff.mp e
    rcases List.mem_append.mp hx with z | z
    ·have := (List.pairwise_append.mp ih).2.2 x z l (by simp)
     show x < l + 1
     omega
    ·rw [List.mem_singleton.mp z]; exact Nat.lt_succ_self _
  omega
theorem mD : ∀ ps : List Sp, cW (ps.map spD) = true
 | [] => by rw [List.map_nil, cW]
 | p :: r => by
  rw [List.map_cons, cW, mD r]
  unfold spD
  simp only [lF, cW, Bool.and_true]
theorem Az {α : Type} (f : α -> D) (xs : List α) : ∃ ys : List α, PD.cutD (xs.map f) (some 3) (some 33) = ys.map f /\ ys.length <= 30 := by
 unfold PD.cutD
 have e1 : HT.sIx (xs.map f).length 0 (some 3) = min 3 (xs.map f).length := HT.rO _ _ 3
 have e2 : HT.sIx (xs.map f).length (xs.map f).length (some 33) = min 33 (xs.map f).length := HT.rO _ _ 33
 rw [e1, e2]
 refine ⟨(xs.drop (min 3 (xs.map f).length)).take (min 33 (xs.map f).length - min 3 (xs.map f).length), by rw [List.map_take, List.map_drop], ?_⟩
 rw [List.length_take]
 omega
def sX (ps : List Sp) (ws : List Int) : Int := (List.zipWith (fun (p : Sp) w => p.1 * w) ps ws).sum
def sY (ps : List Sp) (ws : List Int) : Int := (List.zipWith (fun (p : Sp) w => p.2 * w) ps ws).sum
def Prm (h : Tr) : Prop := 0 < h.1 /\ PM.g3 h.1 h.2.1 h.2.2 = 1
theorem uD {h : Tr} (p : Prm h) : cC h.1 h.2.1 h.2.2 = trD h := by
 have e : PM.dv3 h.1 h.2.1 h.2.2 h.1 = 1 := by
  unfold PM.dv3
  rw [if_neg (by have := p.1; omega), p.2]
  rfl
 unfold cC trD
 rw [e, Int.fdiv_one, Int.fdiv_one, Int.fdiv_one]
structure ph (ps : List Sp) (h : Tr) (pk : List Nat) (sh : List Int) : Prop where
 l0 : 0 < pk.length
 l3 : pk.length <= 3
 ls : sh.length = pk.length
 rise : pk.Pairwise (· < ·)
 lt : ∀ k ∈ pk, k < ps.length
 pos : ∀ s ∈ sh, 0 < s
 bd : ∀ s ∈ sh, Bd 900 s
 one : aT 0 sh = 1
 x : sh.sum * h.2.1 = h.1 * sX (pk.map fun k => ps.getD k (0, 0)) sh
 y : sh.sum * h.2.2 = h.1 * sY (pk.map fun k => ps.getD k (0, 0)) sh
theorem pA (h : Tr) : ∀ (qs : List Sp) (sh : List Int), sh.length = qs.length -> (wsum sh (qs.map (arS h))).1 = h.1 * sX qs sh - sh.sum * h.2.1 /\ (wsum sh (qs.map (arS h))).2 = h.1 * sY qs sh - sh.sum * h.2.2
 | [], [], _ => by unfold wsum sX sY; simp
 | [], _ :: _, h => by simp at h
 | _ :: _, [], h => by simp at h
 | q :: qs, s :: sh, hl => by
  obtain ⟨a, b⟩ := pA h qs sh (by simpa using hl)
  unfold wsum sX at a
  unfold wsum sY at b
  unfold wsum sX sY
  simp only [List.map_cons, List.zipWith_cons_cons, List.sum_cons] at a b ⊢
  rw [a, b]
  unfold arS
  constructor <;> grind
theorem pJ {n : Nat} {xs : List Int} (L : rY xs) (h : ∀ x ∈ xs, Bd n x) : ∀ s ∈ b6 xs, Bd n s := fun s hs => by
 obtain ⟨g, gp, bk⟩ := L.back
 have : g * s ∈ (b6 xs).map (g * ·) := List.mem_map.mpr ⟨s, hs, rfl⟩
 rw [bk] at this
 exact cX gp rfl (h _ this)
theorem zN {ws : List Sp} {sh : List Int} (hw : ∀ w ∈ ws, WB 400 w) (h3 : ws.length <= 3) (h : fQ ws = some sh) : ∀ s ∈ sh, Bd 900 s := by
 rcases ws with _ | ⟨a, _ | ⟨b, _ | ⟨e, _ | ⟨z, r⟩⟩⟩⟩
 ·cases h
 ·have h' : jj a = some sh := h
  unfold jj at h'
  split at h'
  ·cases h'
   intro s hs
   rw [List.mem_singleton.mp hs]
   unfold Bd
   exact Nat.lt_of_lt_of_le (show 1 < 2 ^ 1 by decide) (Nat.pow_le_pow_right (by decide) (by decide))
  ·cases h'
 ·have h' : gN a b = some sh := h
  unfold gN at h'
  split at h'
  ·rename_i c
   cases h'
   have na : a ≠ (0, 0) := fun e => by have := c.2; rw [e] at this; unfold dt2 at this; simp at this
   have nb : b ≠ (0, 0) := fun e => by have := c.2; rw [e] at this; unfold dt2 at this; simp at this
   have L := iQ (xs := [aS b, aS a]) (by simp) fun x hx => by
    simp only [List.mem_cons, List.not_mem_nil, or_false] at hx
    rcases hx with rfl | rfl
    ·exact gW nb
    ·exact gW na
   refine pJ L fun x hx => ?_
   simp only [List.mem_cons, List.not_mem_nil, or_false] at hx
   rcases hx with rfl | rfl
   ·exact (ka (hw b (by simp))).mono (by decide)
   ·exact (ka (hw a (by simp))).mono (by decide)
  ·cases h'
 ·have h' : gM a b e = some sh := h
  have ha := hw a (by simp)
  have hb := hw b (by simp)
  have he := hw e (by simp)
  have b1 : Bd 900 (tn b e) := Bd.mono (m := 801) ((hb.x.mul he.y).sub (he.x.mul hb.y)) (by decide)
  have b2 : Bd 900 (tn e a) := Bd.mono (m := 801) ((he.x.mul ha.y).sub (ha.x.mul he.y)) (by decide)
  have b3 : Bd 900 (tn a b) := Bd.mono (m := 801) ((ha.x.mul hb.y).sub (hb.x.mul ha.y)) (by decide)
  unfold gM at h'
  split at h'
  ·rename_i c
   cases h'
   have L := iQ (xs := [tn b e, tn e a, tn a b]) (by simp) fun x hx => by
    simp only [List.mem_cons, List.not_mem_nil, or_false] at hx
    rcases hx with rfl | rfl | rfl
    ·exact c.1
    ·exact c.2.1
    ·exact c.2.2
   refine pJ L fun x hx => ?_
   simp only [List.mem_cons, List.not_mem_nil, or_false] at hx
   rcases hx with rfl | rfl | rfl
   ·exact b1
   ·exact b2
   ·exact b3
  ·split at h'
   ·rename_i c
    cases h'
    have L := iQ (xs := [-tn b e, -tn e a, -tn a b]) (by simp) fun x hx => by
     simp only [List.mem_cons, List.not_mem_nil, or_false] at hx
     rcases hx with rfl | rfl | rfl <;> omega
    refine pJ L fun x hx => ?_
    simp only [List.mem_cons, List.not_mem_nil, or_false] at hx
    rcases hx with rfl | rfl | rfl
    ·exact bT b1
    ·exact bT b2
    ·exact bT b3
   ·cases h'
 ·exact absurd h3 (by simp)
theorem xr {ps : List Sp} {h : Tr} {pk : List Nat} {sh : List Int} (hb : ∀ p ∈ ps, WB 40 p) (hP : PB 120 h) (e : bH (ps.map (arS h)) (cc ps.length) = some (pk, sh)) : ph ps h pk sh := by
 obtain ⟨hm, hbl⟩ := nM e
 have hlev : ∃ j, 0 < j /\ j <= 3 /\ pk ∈ lev ps.length j := by
  unfold cc at hm
  rcases List.mem_append.mp hm with q | q
  ·exact ⟨1, by decide, by decide, q⟩
  ·rcases List.mem_append.mp q with q | q
   ·exact ⟨2, by decide, by decide, q⟩
   ·exact ⟨3, by decide, by decide, q⟩
 obtain ⟨j, j0, j3, hj⟩ := hlev
 obtain ⟨hl, hlt⟩ := kf hj
 have ep : pkW (ps.map (arS h)) pk = (pk.map fun k => ps.getD k (0, 0)).map (arS h) := by
  unfold pkW
  rw [List.map_map]
  apply List.map_congr_left
  intro k hk
  have := hlt k hk
  simp only [Function.comp, List.getD_eq_getElem?_getD, List.getElem?_map, List.getElem?_eq_getElem this, Option.map_some, Option.getD_some]
 have lw : (pkW (ps.map (arS h)) pk).length = j := by unfold pkW; rw [List.length_map, hl]
 have wB : ∀ w ∈ pkW (ps.map (arS h)) pk, WB 400 w := fun w hw => by
  rw [ep] at hw
  obtain ⟨p, hp, rfl⟩ := List.mem_map.mp hw
  obtain ⟨k, hk, rfl⟩ := List.mem_map.mp hp
  have lk := hlt k hk
  have B := hb (ps.getD k (0, 0)) (by rw [List.getD_eq_getElem?_getD, List.getElem?_eq_getElem lk]; exact List.getElem_mem lk)
  refine ⟨?_, ?_⟩
  ·show Bd 400 (h.1 * _ - 1 * h.2.1); rw [Int.one_mul]; exact Bd.mono (m := 121) (((hP.b.mul B.x).mono (by decide)).sub hP.x) (by decide)
  ·show Bd 400 (h.1 * _ - 1 * h.2.2); rw [Int.one_mul]; exact Bd.mono (m := 121) (((hP.b.mul B.y).mono (by decide)).sub hP.y) (by decide)
 have B := zQ (by omega) hbl
 have bd := zN wB (by omega) hbl
 have s := B.sum
 have ls : sh.length = pk.length := by rw [B.len, lw, hl]
 rw [ep] at s
 obtain ⟨x1, x2⟩ := pA h (pk.map fun k => ps.getD k (0, 0)) sh (by rw [ls, List.length_map])
 rw [s] at x1 x2
 have x1' : 0 = h.1 * sX (pk.map fun k => ps.getD k (0, 0)) sh - sh.sum * h.2.1 := x1
 have x2' : 0 = h.1 * sY (pk.map fun k => ps.getD k (0, 0)) sh - sh.sum * h.2.2 := x2
 exact ⟨by omega, by omega, ls, pY hj, hlt, B.pos, bd, B.one, by omega, by omega⟩
theorem oz : ∀ (xs ys : List Int), xs.Pairwise (· < ·) -> ys.Pairwise (· < ·) -> (∀ k, k ∈ xs ↔ k ∈ ys) -> xs = ys
 | [], [], _, _, _ => rfl
 | [], y :: _, _, _, h => by have := (h y).mpr List.mem_cons_self; cases this
 | x :: _, [], _, _, h => by have := (h x).mp List.mem_cons_self; cases this
 | x :: xs, y :: ys, ox, oy, h => by
  obtain ⟨x1, x2⟩ := List.pairwise_cons.mp ox
  obtain ⟨y1, y2⟩ := List.pairwise_cons.mp oy
  have e : x = y := by
   rcases List.mem_cons.mp ((h x).mp List.mem_cons_self) with e | e
   ·exact e
   ·rcases List.mem_cons.mp ((h y).mpr List.mem_cons_self) with e' | e'
    ·exact e'.symm
    ·have := y1 x e; have := x1 y e'; omega
  subst e
  rw [oz xs ys x2 y2 fun k => ⟨fun hk => ?_, fun hk => ?_⟩]
  ·rcases List.mem_cons.mp ((h k).mp (List.mem_cons_of_mem _ hk)) with e | e
   ·have := x1 k hk; omega
   ·exact e
  ·rcases List.mem_cons.mp ((h k).mpr (List.mem_cons_of_mem _ hk)) with e | e
   ·have := y1 k hk; omega
   ·exact e
theorem tw {w x y : Int} {h : Tr} (hw : 0 < w) (h0 : 0 < h.1) (e1 : w * h.2.1 = h.1 * x) (e2 : w * h.2.2 = h.1 * y) : cC w x y = cC h.1 h.2.1 h.2.2 := by
 rw [<- nk x y (Int.ne_of_gt hw) h0, <- nk h.2.1 h.2.2 (Int.ne_of_gt h0) hw, Int.mul_comm x, Int.mul_comm y, <- e1, <- e2, Int.mul_comm h.1 w, Int.mul_comm h.2.1 w, Int.mul_comm h.2.2 w]
def ip (ps : List Sp) (h : Tr) (Q : D -> Prop) : Prop :=
 match bH (ps.map (arS h)) (cc ps.length) with
 | some r => Q (.tup [.str "in", pkD r.1, .lst true (r.2.map D.int)])
 | none => ∀ g : Tr, j7 ps h g -> (∀ p ∈ ps, 0 <= gvS g (1, p.1, p.2)) -> gvS g h < 0 -> Bd 300 g.1 -> Bd 300 g.2.1 -> Bd 300 g.2.2 -> Q (.tup [.str "out", trD g])
def fx (ps : List Sp) (h : Tr) (d : D) : Prop := (∃ pk sh, bH (ps.map (arS h)) (cc ps.length) = some (pk, sh) /\ d = .tup [.str "in", pkD pk, .lst true (sh.map D.int)]) ∨ (bH (ps.map (arS h)) (cc ps.length) = none /\ ∃ g, j7 ps h g /\ d = .tup [.str "out", trD g])
theorem fx.non {ps : List Sp} {h : Tr} {d : D} (x : fx ps h d) : eO d = false := by
 rcases x with ⟨_, _, _, rfl⟩ | ⟨_, _, _, rfl⟩ <;> rfl
theorem fx.uniq {ps : List Sp} {h : Tr} {d d' : D} (x : fx ps h d) (y : fx ps h d') : d = d' := by
 rcases x with ⟨a, b, e, rfl⟩ | ⟨e, g, o1, rfl⟩ <;> rcases y with ⟨a', b', e', rfl⟩ | ⟨e', g', o2, rfl⟩
 ·rw [e] at e'; cases e'; rfl
 ·rw [e] at e'; cases e'
 ·rw [e] at e'; cases e'
 ·rw [o1.uniq o2]
theorem fx.ok {ps : List Sp} {h : Tr} {d : D} (x : fx ps h d) : okD d := by
 have sI : PyData.strOk "in" = true := by decide +kernel
 have sO : PyData.strOk "out" = true := by decide +kernel
 rcases x with ⟨a, b, e, rfl⟩ | ⟨e, g, o1, rfl⟩
 ·have ep : pkD a = .lst true ((a.map fun (k : Nat) => (k : Int)).map D.int) := by unfold pkD; rw [List.map_map]; rfl
  exact (OkN.tup (.cons (dO 1 _ sI) (.cons (by rw [ep]; exact OkN.map (OkN.int 0)) (.cons (OkN.map (OkN.int 0)) (.nil _))))).ok
 ·exact (OkN.tup (.cons (dO 1 _ sO) (.cons (OkN.tup (.cons (.int _ _) (.cons (.int _ _) (.cons (.int _ _) (.nil _))))) (.nil _)))).ok
theorem gY {ps : List Sp} {h : Tr} {Q : D -> Prop} (q : ∀ d, fx ps h d -> Q d) : ip ps h Q := by
 unfold ip
 cases hc : bH (ps.map (arS h)) (cc ps.length) with
 | some r => exact q _ (.inl ⟨r.1, r.2, hc, rfl⟩)
 | none => exact fun g o1 _ _ _ _ _ => q _ (.inr ⟨hc, g, o1, rfl⟩)
def mi (κ : Cls) : DSp := fun ds Q Ed => ∃ (n : Int), ds = [.int n] /\ (Q (.int (sg n)))
theorem lT (κ : Cls) (n : Int) (Q : D -> Prop) (Ed : Value -> Prop) : mi κ [.int n] Q Ed = (Q (.int (sg n))) := by
 apply propext
 constructor
 ·rintro ⟨x0, e, q⟩
  simp only [T3, List.cons.injEq, D.int.injEq, D.tup.injEq, D.lst.injEq, and_true, true_and] at e
  obtain rfl := e
  exact q
 ·intro q; exact ⟨_, rfl, q⟩
def c8 (κ : Cls) : DSp := fun ds Q Ed => ∃ (a : Int) (b : Int), ds = [.int a, .int b] /\ (Q (.int (Int.gcd a b : Int)))
theorem eS (κ : Cls) (a : Int) (b : Int) (Q : D -> Prop) (Ed : Value -> Prop) : c8 κ [.int a, .int b] Q Ed = (Q (.int (Int.gcd a b : Int))) := by
 apply propext
 constructor
 ·rintro ⟨x0, x1, e, q⟩
  simp only [T3, List.cons.injEq, D.int.injEq, D.tup.injEq, D.lst.injEq, and_true, true_and] at e
  obtain ⟨rfl, rfl⟩ := e
  exact q
 ·intro q; exact ⟨_, _, rfl, q⟩
def dP (κ : Cls) : DSp := fun ds Q Ed => ∃ (ns : List Int), ds = [.lst false (ns.map D.int)] /\ (ns.length < 100 /\ aT 0 ns ≠ 0 /\ Bd 1000 (aT 0 ns) /\ Q (.lst true ((b6 ns).map D.int)))
theorem dU (κ : Cls) (ns : List Int) (Q : D -> Prop) (Ed : Value -> Prop) : dP κ [.lst false (ns.map D.int)] Q Ed = (ns.length < 100 /\ aT 0 ns ≠ 0 /\ Bd 1000 (aT 0 ns) /\ Q (.lst true ((b6 ns).map D.int))) := by
 apply propext
 constructor
 ·rintro ⟨x0, e, q⟩
  simp only [T3, List.cons.injEq, D.int.injEq, D.tup.injEq, D.lst.injEq, and_true, true_and] at e
  have e_ns := e
  have f_ns := iJ e_ns
  subst f_ns
  exact q
 ·intro q; exact ⟨_, rfl, q⟩
def kY (κ : Cls) : DSp := fun ds Q Ed => ∃ (n : Int) (s : Int), ds = [.int n, .int s] /\ (∃ m t : Nat, n = (m : Int) /\ s = (t : Int) /\ m <= 60 /\ t <= 3 /\ Q (.lst true ((lev m t).map pkD)))
theorem kE (κ : Cls) (n : Int) (s : Int) (Q : D -> Prop) (Ed : Value -> Prop) : kY κ [.int n, .int s] Q Ed = (∃ m t : Nat, n = (m : Int) /\ s = (t : Int) /\ m <= 60 /\ t <= 3 /\ Q (.lst true ((lev m t).map pkD))) := by
 apply propext
 constructor
 ·rintro ⟨x0, x1, e, q⟩
  simp only [T3, List.cons.injEq, D.int.injEq, D.tup.injEq, D.lst.injEq, and_true, true_and] at e
  obtain ⟨rfl, rfl⟩ := e
  exact q
 ·intro q; exact ⟨_, _, rfl, q⟩
def lr (κ : Cls) : DSp := fun ds Q Ed => ∃ (g0 g1 g2 : Int) (p0 p1 p2 : Int), ds = [T3 g0 g1 g2, T3 p0 p1 p2] /\ (Bd 1000 g0 /\ Bd 1000 g1 /\ Bd 1000 g2 /\ Bd 1000 p0 /\ Bd 1000 p1 /\ Bd 1000 p2 /\ Q (.int (g0 * p0 + g1 * p1 + g2 * p2)))
theorem kB (κ : Cls) (g0 g1 g2 : Int) (p0 p1 p2 : Int) (Q : D -> Prop) (Ed : Value -> Prop) : lr κ [T3 g0 g1 g2, T3 p0 p1 p2] Q Ed = (Bd 1000 g0 /\ Bd 1000 g1 /\ Bd 1000 g2 /\ Bd 1000 p0 /\ Bd 1000 p1 /\ Bd 1000 p2 /\ Q (.int (g0 * p0 + g1 * p1 + g2 * p2))) := by
 apply propext
 constructor
 ·rintro ⟨x0, x1, x2, x3, x4, x5, e, q⟩
  simp only [T3, List.cons.injEq, D.int.injEq, D.tup.injEq, D.lst.injEq, and_true, true_and] at e
  obtain ⟨⟨rfl, rfl, rfl⟩, ⟨rfl, rfl, rfl⟩⟩ := e
  exact q
 ·intro q; exact ⟨_, _, _, _, _, _, rfl, q⟩
def j6 (κ : Cls) : DSp := fun ds Q Ed => ∃ (g0 g1 g2 : Int) (p0 p1 p2 : Int), ds = [T3 g0 g1 g2, T3 p0 p1 p2] /\ (Bd 1000 g0 /\ Bd 1000 g1 /\ Bd 1000 g2 /\ Bd 1000 p0 /\ Bd 1000 p1 /\ Bd 1000 p2 /\ Q (.int (sg (g0 * p0 + g1 * p1 + g2 * p2))))
theorem ja (κ : Cls) (g0 g1 g2 : Int) (p0 p1 p2 : Int) (Q : D -> Prop) (Ed : Value -> Prop) : j6 κ [T3 g0 g1 g2, T3 p0 p1 p2] Q Ed = (Bd 1000 g0 /\ Bd 1000 g1 /\ Bd 1000 g2 /\ Bd 1000 p0 /\ Bd 1000 p1 /\ Bd 1000 p2 /\ Q (.int (sg (g0 * p0 + g1 * p1 + g2 * p2)))) := by
 apply propext
 constructor
 ·rintro ⟨x0, x1, x2, x3, x4, x5, e, q⟩
  simp only [T3, List.cons.injEq, D.int.injEq, D.tup.injEq, D.lst.injEq, and_true, true_and] at e
  obtain ⟨⟨rfl, rfl, rfl⟩, ⟨rfl, rfl, rfl⟩⟩ := e
  exact q
 ·intro q; exact ⟨_, _, _, _, _, _, rfl, q⟩
def gh (κ : Cls) : DSp := fun ds Q Ed => ∃ (a0 a1 a2 : Int) (b0 b1 b2 : Int), ds = [T3 a0 a1 a2, T3 b0 b1 b2] /\ (Bd 200 a0 /\ Bd 200 a1 /\ Bd 200 a2 /\ Bd 200 b0 /\ Bd 200 b1 /\ Bd 200 b2 /\ Q (T3 (a1 * b2 - b1 * a2) (a2 * b0 - b2 * a0) (a0 * b1 - b0 * a1)))
theorem fR (κ : Cls) (a0 a1 a2 : Int) (b0 b1 b2 : Int) (Q : D -> Prop) (Ed : Value -> Prop) : gh κ [T3 a0 a1 a2, T3 b0 b1 b2] Q Ed = (Bd 200 a0 /\ Bd 200 a1 /\ Bd 200 a2 /\ Bd 200 b0 /\ Bd 200 b1 /\ Bd 200 b2 /\ Q (T3 (a1 * b2 - b1 * a2) (a2 * b0 - b2 * a0) (a0 * b1 - b0 * a1))) := by
 apply propext
 constructor
 ·rintro ⟨x0, x1, x2, x3, x4, x5, e, q⟩
  simp only [T3, List.cons.injEq, D.int.injEq, D.tup.injEq, D.lst.injEq, and_true, true_and] at e
  obtain ⟨⟨rfl, rfl, rfl⟩, ⟨rfl, rfl, rfl⟩⟩ := e
  exact q
 ·intro q; exact ⟨_, _, _, _, _, _, rfl, q⟩
def bS (κ : Cls) : DSp := fun ds Q Ed => ∃ (p0 p1 p2 : Int) (w : Sp), ds = [T3 p0 p1 p2, spD w] /\ (Bd 200 p0 /\ Bd 200 p1 /\ Bd 200 p2 /\ WB 200 w /\ Q (T3 (-(w.1 * p1 + w.2 * p2)) (w.1 * p0) (w.2 * p0)))
theorem gI (κ : Cls) (p0 p1 p2 : Int) (w : Sp) (Q : D -> Prop) (Ed : Value -> Prop) : bS κ [T3 p0 p1 p2, spD w] Q Ed = (Bd 200 p0 /\ Bd 200 p1 /\ Bd 200 p2 /\ WB 200 w /\ Q (T3 (-(w.1 * p1 + w.2 * p2)) (w.1 * p0) (w.2 * p0))) := by
 apply propext
 constructor
 ·rintro ⟨x0, x1, x2, x3, e, q⟩
  simp only [T3, List.cons.injEq, D.int.injEq, D.tup.injEq, D.lst.injEq, and_true, true_and] at e
  obtain ⟨⟨rfl, rfl, rfl⟩, e_w⟩ := e
  have f_w := bF e_w
  subst f_w
  exact q
 ·intro q; exact ⟨_, _, _, _, rfl, q⟩
def ft (κ : Cls) : DSp := fun ds Q Ed => ∃ (d : D), ds = [d] /\ (∃ p : Sp, d = spD p /\ Q (plS p))
theorem iR (κ : Cls) (d : D) (Q : D -> Prop) (Ed : Value -> Prop) : ft κ [d] Q Ed = (∃ p : Sp, d = spD p /\ Q (plS p)) := by
 apply propext
 constructor
 ·rintro ⟨x0, e, q⟩
  simp only [T3, List.cons.injEq, D.int.injEq, D.tup.injEq, D.lst.injEq, and_true, true_and] at e
  obtain rfl := e
  exact q
 ·intro q; exact ⟨_, rfl, q⟩
def jy (κ : Cls) : DSp := fun ds Q Ed => ∃ (a0 a1 a2 : Int) (b0 b1 b2 : Int) (c0 c1 c2 : Int), ds = [T3 a0 a1 a2, T3 b0 b1 b2, T3 c0 c1 c2] /\ (Bd 1000 a0 /\ Bd 1000 a1 /\ Bd 1000 a2 /\ Bd 1000 b0 /\ Bd 1000 b1 /\ Bd 1000 b2 /\ Bd 1000 c0 /\ Bd 1000 c1 /\ Bd 1000 c2 /\ Q (.int (sw a0 a1 a2 b0 b1 b2 c0 c1 c2)))
theorem iF (κ : Cls) (a0 a1 a2 : Int) (b0 b1 b2 : Int) (c0 c1 c2 : Int) (Q : D -> Prop) (Ed : Value -> Prop) : jy κ [T3 a0 a1 a2, T3 b0 b1 b2, T3 c0 c1 c2] Q Ed = (Bd 1000 a0 /\ Bd 1000 a1 /\ Bd 1000 a2 /\ Bd 1000 b0 /\ Bd 1000 b1 /\ Bd 1000 b2 /\ Bd 1000 c0 /\ Bd 1000 c1 /\ Bd 1000 c2 /\ Q (.int (sw a0 a1 a2 b0 b1 b2 c0 c1 c2))) := by
 apply propext
 constructor
 ·rintro ⟨x0, x1, x2, x3, x4, x5, x6, x7, x8, e, q⟩
  simp only [T3, List.cons.injEq, D.int.injEq, D.tup.injEq, D.lst.injEq, and_true, true_and] at e
  obtain ⟨⟨rfl, rfl, rfl⟩, ⟨rfl, rfl, rfl⟩, ⟨rfl, rfl, rfl⟩⟩ := e
  exact q
 ·intro q; exact ⟨_, _, _, _, _, _, _, _, _, rfl, q⟩
def eW (κ : Cls) : DSp := fun ds Q Ed => ∃ (a0 a1 a2 : Int) (b0 b1 b2 : Int), ds = [T3 a0 a1 a2, T3 b0 b1 b2] /\ (Bd 200 a0 /\ Bd 200 a1 /\ Bd 200 a2 /\ Bd 200 b0 /\ Bd 200 b1 /\ Bd 200 b2 /\ Q (.tup [.int (a0 * b1 - b0 * a1), .int (a0 * b2 - b0 * a2)]))
theorem fu (κ : Cls) (a0 a1 a2 : Int) (b0 b1 b2 : Int) (Q : D -> Prop) (Ed : Value -> Prop) : eW κ [T3 a0 a1 a2, T3 b0 b1 b2] Q Ed = (Bd 200 a0 /\ Bd 200 a1 /\ Bd 200 a2 /\ Bd 200 b0 /\ Bd 200 b1 /\ Bd 200 b2 /\ Q (.tup [.int (a0 * b1 - b0 * a1), .int (a0 * b2 - b0 * a2)])) := by
 apply propext
 constructor
 ·rintro ⟨x0, x1, x2, x3, x4, x5, e, q⟩
  simp only [T3, List.cons.injEq, D.int.injEq, D.tup.injEq, D.lst.injEq, and_true, true_and] at e
  obtain ⟨⟨rfl, rfl, rfl⟩, ⟨rfl, rfl, rfl⟩⟩ := e
  exact q
 ·intro q; exact ⟨_, _, _, _, _, _, rfl, q⟩
def kl (κ : Cls) : DSp := fun ds Q Ed => ∃ (a : Sp) (b : Sp), ds = [spD a, spD b] /\ (WB 400 a /\ WB 400 b /\ Q (.int (tn a b)))
theorem l7 (κ : Cls) (a : Sp) (b : Sp) (Q : D -> Prop) (Ed : Value -> Prop) : kl κ [spD a, spD b] Q Ed = (WB 400 a /\ WB 400 b /\ Q (.int (tn a b))) := by
 apply propext
 constructor
 ·rintro ⟨x0, x1, e, q⟩
  simp only [T3, List.cons.injEq, D.int.injEq, D.tup.injEq, D.lst.injEq, and_true, true_and] at e
  obtain ⟨e_a, e_b⟩ := e
  have f_a := bF e_a
  subst f_a
  have f_b := bF e_b
  subst f_b
  exact q
 ·intro q; exact ⟨_, _, rfl, q⟩
def iM (κ : Cls) : DSp := fun ds Q Ed => ∃ (w : Sp), ds = [spD w] /\ (Q (spD (bkW w)))
theorem gq (κ : Cls) (w : Sp) (Q : D -> Prop) (Ed : Value -> Prop) : iM κ [spD w] Q Ed = (Q (spD (bkW w))) := by
 apply propext
 constructor
 ·rintro ⟨x0, e, q⟩
  simp only [T3, List.cons.injEq, D.int.injEq, D.tup.injEq, D.lst.injEq, and_true, true_and] at e
  have e_w := e
  have f_w := bF e_w
  subst f_w
  exact q
 ·intro q; exact ⟨_, rfl, q⟩
def gk (κ : Cls) : DSp := fun ds Q Ed => ∃ (w : Sp), ds = [spD w] /\ (Q (spD (lfW w)))
theorem fM (κ : Cls) (w : Sp) (Q : D -> Prop) (Ed : Value -> Prop) : gk κ [spD w] Q Ed = (Q (spD (lfW w))) := by
 apply propext
 constructor
 ·rintro ⟨x0, e, q⟩
  simp only [T3, List.cons.injEq, D.int.injEq, D.tup.injEq, D.lst.injEq, and_true, true_and] at e
  have e_w := e
  have f_w := bF e_w
  subst f_w
  exact q
 ·intro q; exact ⟨_, rfl, q⟩
def kT (κ : Cls) : DSp := fun ds Q Ed => ∃ (ps : List Sp), ds = [.lst false (ps.map plS)] /\ (ps.length < 64 /\ (∀ p ∈ ps, SB p) /\ Q (.lst true ((aY [] ps).reverse.map plS)))
theorem iC (κ : Cls) (ps : List Sp) (Q : D -> Prop) (Ed : Value -> Prop) : kT κ [.lst false (ps.map plS)] Q Ed = (ps.length < 64 /\ (∀ p ∈ ps, SB p) /\ Q (.lst true ((aY [] ps).reverse.map plS))) := by
 apply propext
 constructor
 ·rintro ⟨x0, e, q⟩
  simp only [T3, List.cons.injEq, D.int.injEq, D.tup.injEq, D.lst.injEq, and_true, true_and] at e
  have e_ps := e
  have f_ps := q9 e_ps
  subst f_ps
  exact q
 ·intro q; exact ⟨_, rfl, q⟩
def mE (κ : Cls) : DSp := fun ds Q Ed => ∃ (ps : List Sp), ds = [.lst false (ps.map spD)] /\ (ps.length < 64 /\ (∀ p ∈ ps, SB p) /\ ∀ ys, cg ys ps -> ys.length <= ps.length -> Q (.lst true ((bO ys).map plS)))
theorem lY (κ : Cls) (ps : List Sp) (Q : D -> Prop) (Ed : Value -> Prop) : mE κ [.lst false (ps.map spD)] Q Ed = (ps.length < 64 /\ (∀ p ∈ ps, SB p) /\ ∀ ys, cg ys ps -> ys.length <= ps.length -> Q (.lst true ((bO ys).map plS))) := by
 apply propext
 constructor
 ·rintro ⟨x0, e, q⟩
  simp only [T3, List.cons.injEq, D.int.injEq, D.tup.injEq, D.lst.injEq, and_true, true_and] at e
  have e_ps := e
  have f_ps := cF e_ps
  subst f_ps
  exact q
 ·intro q; exact ⟨_, rfl, q⟩
def fq (κ : Cls) : DSp := fun ds Q Ed => ∃ (a : Sp) (b : Sp), ds = [plS a, plS b] /\ (SB a /\ SB b /\ Q (.lst true ((dX a b).map trD)))
theorem da (κ : Cls) (a : Sp) (b : Sp) (Q : D -> Prop) (Ed : Value -> Prop) : fq κ [plS a, plS b] Q Ed = (SB a /\ SB b /\ Q (.lst true ((dX a b).map trD))) := by
 apply propext
 constructor
 ·rintro ⟨x0, x1, e, q⟩
  simp only [T3, List.cons.injEq, D.int.injEq, D.tup.injEq, D.lst.injEq, and_true, true_and] at e
  obtain ⟨e_a, e_b⟩ := e
  have f_a := mC e_a
  subst f_a
  have f_b := mC e_b
  subst f_b
  exact q
 ·intro q; exact ⟨_, _, rfl, q⟩
def jY (κ : Cls) : DSp := fun ds Q Ed => ∃ (hs : List Sp), ds = [.lst false (hs.map plS)] /\ (0 < hs.length /\ hs.length < 200 /\ (∀ p ∈ hs, SB p) /\ Q (.lst true ((aX hs).map trD)))
theorem jP (κ : Cls) (hs : List Sp) (Q : D -> Prop) (Ed : Value -> Prop) : jY κ [.lst false (hs.map plS)] Q Ed = (0 < hs.length /\ hs.length < 200 /\ (∀ p ∈ hs, SB p) /\ Q (.lst true ((aX hs).map trD))) := by
 apply propext
 constructor
 ·rintro ⟨x0, e, q⟩
  simp only [T3, List.cons.injEq, D.int.injEq, D.tup.injEq, D.lst.injEq, and_true, true_and] at e
  have e_hs := e
  have f_hs := q9 e_hs
  subst f_hs
  exact q
 ·intro q; exact ⟨_, rfl, q⟩
def ib (κ : Cls) : DSp := fun ds Q Ed => ∃ (w : Sp), ds = [spD w] /\ (Q (.int (aS w)))
theorem jG (κ : Cls) (w : Sp) (Q : D -> Prop) (Ed : Value -> Prop) : ib κ [spD w] Q Ed = (Q (.int (aS w))) := by
 apply propext
 constructor
 ·rintro ⟨x0, e, q⟩
  simp only [T3, List.cons.injEq, D.int.injEq, D.tup.injEq, D.lst.injEq, and_true, true_and] at e
  have e_w := e
  have f_w := bF e_w
  subst f_w
  exact q
 ·intro q; exact ⟨_, rfl, q⟩
def eP (κ : Cls) : DSp := fun ds Q Ed => ∃ (a : Sp) (b : Sp), ds = [spD a, spD b] /\ (WB 400 a /\ WB 400 b /\ Q (.bl (decide (tn a b = 0 /\ dt2 a b < 0))))
theorem fB (κ : Cls) (a : Sp) (b : Sp) (Q : D -> Prop) (Ed : Value -> Prop) : eP κ [spD a, spD b] Q Ed = (WB 400 a /\ WB 400 b /\ Q (.bl (decide (tn a b = 0 /\ dt2 a b < 0)))) := by
 apply propext
 constructor
 ·rintro ⟨x0, x1, e, q⟩
  simp only [T3, List.cons.injEq, D.int.injEq, D.tup.injEq, D.lst.injEq, and_true, true_and] at e
  obtain ⟨e_a, e_b⟩ := e
  have f_a := bF e_a
  subst f_a
  have f_b := bF e_b
  subst f_b
  exact q
 ·intro q; exact ⟨_, _, rfl, q⟩
def c9 (κ : Cls) : DSp := fun ds Q Ed => ∃ (a : Sp) (b : Sp), ds = [spD a, spD b] /\ (WB 400 a /\ WB 400 b /\ Q (oL (gN a b)))
theorem eG (κ : Cls) (a : Sp) (b : Sp) (Q : D -> Prop) (Ed : Value -> Prop) : c9 κ [spD a, spD b] Q Ed = (WB 400 a /\ WB 400 b /\ Q (oL (gN a b))) := by
 apply propext
 constructor
 ·rintro ⟨x0, x1, e, q⟩
  simp only [T3, List.cons.injEq, D.int.injEq, D.tup.injEq, D.lst.injEq, and_true, true_and] at e
  obtain ⟨e_a, e_b⟩ := e
  have f_a := bF e_a
  subst f_a
  have f_b := bF e_b
  subst f_b
  exact q
 ·intro q; exact ⟨_, _, rfl, q⟩
def cI (κ : Cls) : DSp := fun ds Q Ed => ∃ (a : Sp) (b : Sp) (e : Sp), ds = [spD a, spD b, spD e] /\ (WB 400 a /\ WB 400 b /\ WB 400 e /\ Q (oL (gM a b e)))
theorem de (κ : Cls) (a : Sp) (b : Sp) (e : Sp) (Q : D -> Prop) (Ed : Value -> Prop) : cI κ [spD a, spD b, spD e] Q Ed = (WB 400 a /\ WB 400 b /\ WB 400 e /\ Q (oL (gM a b e))) := by
 apply propext
 constructor
 ·rintro ⟨x0, x1, x2, e, q⟩
  simp only [T3, List.cons.injEq, D.int.injEq, D.tup.injEq, D.lst.injEq, and_true, true_and] at e
  obtain ⟨e_a, e_b, e_e⟩ := e
  have f_a := bF e_a
  subst f_a
  have f_b := bF e_b
  subst f_b
  have f_e := bF e_e
  subst f_e
  exact q
 ·intro q; exact ⟨_, _, _, rfl, q⟩
def jg (κ : Cls) : DSp := fun ds Q Ed => ∃ (ws : List Sp), ds = [.lst false (ws.map spD)] /\ (0 < ws.length /\ ws.length < 4 /\ (∀ w ∈ ws, WB 400 w) /\ Q (oL (fQ ws)))
theorem fV (κ : Cls) (ws : List Sp) (Q : D -> Prop) (Ed : Value -> Prop) : jg κ [.lst false (ws.map spD)] Q Ed = (0 < ws.length /\ ws.length < 4 /\ (∀ w ∈ ws, WB 400 w) /\ Q (oL (fQ ws))) := by
 apply propext
 constructor
 ·rintro ⟨x0, e, q⟩
  simp only [T3, List.cons.injEq, D.int.injEq, D.tup.injEq, D.lst.injEq, and_true, true_and] at e
  have e_ws := e
  have f_ws := cF e_ws
  subst f_ws
  exact q
 ·intro q; exact ⟨_, rfl, q⟩
def d9 (κ : Cls) : DSp := fun ds Q Ed => ∃ (a : Int), ds = [.int a] /\ (Q (.bl true))
theorem hG (κ : Cls) (a : Int) (Q : D -> Prop) (Ed : Value -> Prop) : d9 κ [.int a] Q Ed = (Q (.bl true)) := by
 apply propext
 constructor
 ·rintro ⟨x0, e, q⟩
  simp only [T3, List.cons.injEq, D.int.injEq, D.tup.injEq, D.lst.injEq, and_true, true_and] at e
  obtain rfl := e
  exact q
 ·intro q; exact ⟨_, rfl, q⟩
def cZ (κ : Cls) : DSp := fun ds Q Ed => ∃ (a : Int) (b : Int), ds = [.int a, .int b] /\ (Q (.int (Int.gcd a b : Int)))
theorem fW (κ : Cls) (a : Int) (b : Int) (Q : D -> Prop) (Ed : Value -> Prop) : cZ κ [.int a, .int b] Q Ed = (Q (.int (Int.gcd a b : Int))) := by
 apply propext
 constructor
 ·rintro ⟨x0, x1, e, q⟩
  simp only [T3, List.cons.injEq, D.int.injEq, D.tup.injEq, D.lst.injEq, and_true, true_and] at e
  obtain ⟨rfl, rfl⟩ := e
  exact q
 ·intro q; exact ⟨_, _, rfl, q⟩
def gR (κ : Cls) : DSp := fun ds Q Ed => ∃ (g0 g1 g2 : Int) (p0 p1 p2 : Int), ds = [T3 g0 g1 g2, T3 p0 p1 p2] /\ (Bd 1000 g0 /\ Bd 1000 g1 /\ Bd 1000 g2 /\ Bd 1000 p0 /\ Bd 1000 p1 /\ Bd 1000 p2 /\ Q (.int (g0 * p0 + g1 * p1 + g2 * p2)))
theorem ik (κ : Cls) (g0 g1 g2 : Int) (p0 p1 p2 : Int) (Q : D -> Prop) (Ed : Value -> Prop) : gR κ [T3 g0 g1 g2, T3 p0 p1 p2] Q Ed = (Bd 1000 g0 /\ Bd 1000 g1 /\ Bd 1000 g2 /\ Bd 1000 p0 /\ Bd 1000 p1 /\ Bd 1000 p2 /\ Q (.int (g0 * p0 + g1 * p1 + g2 * p2))) := by
 apply propext
 constructor
 ·rintro ⟨x0, x1, x2, x3, x4, x5, e, q⟩
  simp only [T3, List.cons.injEq, D.int.injEq, D.tup.injEq, D.lst.injEq, and_true, true_and] at e
  obtain ⟨⟨rfl, rfl, rfl⟩, ⟨rfl, rfl, rfl⟩⟩ := e
  exact q
 ·intro q; exact ⟨_, _, _, _, _, _, rfl, q⟩
def fb (κ : Cls) : DSp := fun ds Q Ed => ∃ (ns : List Int) (k : Int), ds = [.lst false (ns.map D.int), .int k] /\ (0 <= k /\ ns.length <= 63 /\ Q (.int (ns.getD k.toNat 0)))
theorem fX (κ : Cls) (ns : List Int) (k : Int) (Q : D -> Prop) (Ed : Value -> Prop) : fb κ [.lst false (ns.map D.int), .int k] Q Ed = (0 <= k /\ ns.length <= 63 /\ Q (.int (ns.getD k.toNat 0))) := by
 apply propext
 constructor
 ·rintro ⟨x0, x1, e, q⟩
  simp only [T3, List.cons.injEq, D.int.injEq, D.tup.injEq, D.lst.injEq, and_true, true_and] at e
  obtain ⟨e_ns, rfl⟩ := e
  have f_ns := iJ e_ns
  subst f_ns
  exact q
 ·intro q; exact ⟨_, _, rfl, q⟩
def dH (κ : Cls) : DSp := fun ds Q Ed => ∃ (ps : List Sp) (h0 h1 h2 : Int), ds = [.lst false (ps.map spD), T3 h0 h1 h2] /\ (0 < ps.length /\ ps.length < 64 /\ (∀ p ∈ ps, SB p) /\ PB 120 (h0, h1, h2) /\ (∀ ys, cg ys ps -> ∃ g ∈ aX (bO ys), gvS g (h0, h1, h2) < 0) /\ ∀ ys g, cg ys ps -> (aX (bO ys)).find? (fun b => decide (gvS b (h0, h1, h2) < 0)) = some g -> g ∈ aX (bO ys) -> gvS g (h0, h1, h2) < 0 -> Q (trD g))
theorem eV (κ : Cls) (ps : List Sp) (h0 h1 h2 : Int) (Q : D -> Prop) (Ed : Value -> Prop) : dH κ [.lst false (ps.map spD), T3 h0 h1 h2] Q Ed = (0 < ps.length /\ ps.length < 64 /\ (∀ p ∈ ps, SB p) /\ PB 120 (h0, h1, h2) /\ (∀ ys, cg ys ps -> ∃ g ∈ aX (bO ys), gvS g (h0, h1, h2) < 0) /\ ∀ ys g, cg ys ps -> (aX (bO ys)).find? (fun b => decide (gvS b (h0, h1, h2) < 0)) = some g -> g ∈ aX (bO ys) -> gvS g (h0, h1, h2) < 0 -> Q (trD g)) := by
 apply propext
 constructor
 ·rintro ⟨x0, x1, x2, x3, e, q⟩
  simp only [T3, List.cons.injEq, D.int.injEq, D.tup.injEq, D.lst.injEq, and_true, true_and] at e
  obtain ⟨e_ps, ⟨rfl, rfl, rfl⟩⟩ := e
  have f_ps := cF e_ps
  subst f_ps
  exact q
 ·intro q; exact ⟨_, _, _, _, rfl, q⟩
def eR (κ : Cls) : DSp := fun ds Q Ed => ∃ (ps : List Sp) (h0 h1 h2 : Int), ds = [.lst false (ps.map spD), T3 h0 h1 h2] /\ (0 < ps.length /\ ps.length <= 30 /\ (∀ p ∈ ps, SB p) /\ PB 120 (h0, h1, h2) /\ ip ps (h0, h1, h2) Q)
theorem dn (κ : Cls) (ps : List Sp) (h0 h1 h2 : Int) (Q : D -> Prop) (Ed : Value -> Prop) : eR κ [.lst false (ps.map spD), T3 h0 h1 h2] Q Ed = (0 < ps.length /\ ps.length <= 30 /\ (∀ p ∈ ps, SB p) /\ PB 120 (h0, h1, h2) /\ ip ps (h0, h1, h2) Q) := by
 apply propext
 constructor
 ·rintro ⟨x0, x1, x2, x3, e, q⟩
  simp only [T3, List.cons.injEq, D.int.injEq, D.tup.injEq, D.lst.injEq, and_true, true_and] at e
  obtain ⟨e_ps, ⟨rfl, rfl, rfl⟩⟩ := e
  have f_ps := cF e_ps
  subst f_ps
  exact q
 ·intro q; exact ⟨_, _, _, _, rfl, q⟩
def du (κ : Cls) : DSp := fun ds Q Ed => ∃ (c : Int) (m : Int), ds = [.int c, .int m] /\ (0 <= m /\ m < 1000 /\ Q (.lst true ((cn c m.toNat).map D.int)))
theorem gS (κ : Cls) (c : Int) (m : Int) (Q : D -> Prop) (Ed : Value -> Prop) : du κ [.int c, .int m] Q Ed = (0 <= m /\ m < 1000 /\ Q (.lst true ((cn c m.toNat).map D.int))) := by
 apply propext
 constructor
 ·rintro ⟨x0, x1, e, q⟩
  simp only [T3, List.cons.injEq, D.int.injEq, D.tup.injEq, D.lst.injEq, and_true, true_and] at e
  obtain ⟨rfl, rfl⟩ := e
  exact q
 ·intro q; exact ⟨_, _, rfl, q⟩
def iz (κ : Cls) : DSp := fun ds Q Ed => ∃ (k : Int) (c : Int), ds = [.int k, .int c] /\ (∀ p : Sp, WB 40 p -> Q (spD p))
theorem iV (κ : Cls) (k : Int) (c : Int) (Q : D -> Prop) (Ed : Value -> Prop) : iz κ [.int k, .int c] Q Ed = (∀ p : Sp, WB 40 p -> Q (spD p)) := by
 apply propext
 constructor
 ·rintro ⟨x0, x1, e, q⟩
  simp only [T3, List.cons.injEq, D.int.injEq, D.tup.injEq, D.lst.injEq, and_true, true_and] at e
  obtain ⟨rfl, rfl⟩ := e
  exact q
 ·intro q; exact ⟨_, _, rfl, q⟩
def dw (κ : Cls) : DSp := fun ds Q Ed => ∃ (b : Int) (x : Int) (y : Int), ds = [.int b, .int x, .int y] /\ (0 < b /\ Bd 2000 b /\ Bd 2000 x /\ Bd 2000 y /\ ∀ g p q r : Int, 0 < g -> g * p = b -> g * q = x -> g * r = y -> PM.g3 p q r = 1 -> cC b x y = T3 p q r -> Q (T3 p q r))
theorem gT (κ : Cls) (b : Int) (x : Int) (y : Int) (Q : D -> Prop) (Ed : Value -> Prop) : dw κ [.int b, .int x, .int y] Q Ed = (0 < b /\ Bd 2000 b /\ Bd 2000 x /\ Bd 2000 y /\ ∀ g p q r : Int, 0 < g -> g * p = b -> g * q = x -> g * r = y -> PM.g3 p q r = 1 -> cC b x y = T3 p q r -> Q (T3 p q r)) := by
 apply propext
 constructor
 ·rintro ⟨x0, x1, x2, e, q⟩
  simp only [T3, List.cons.injEq, D.int.injEq, D.tup.injEq, D.lst.injEq, and_true, true_and] at e
  obtain ⟨rfl, rfl, rfl⟩ := e
  exact q
 ·intro q; exact ⟨_, _, _, rfl, q⟩
def cN (κ : Cls) : DSp := fun ds Q Ed => ∃ (ps : List Sp) (ws : List Int), ds = [.lst false (ps.map spD), .lst false (ws.map D.int)] /\ (ps.length = ws.length /\ 0 < ps.length /\ ps.length <= 30 /\ (∀ p ∈ ps, WB 40 p) /\ (∀ w ∈ ws, 0 < w /\ Bd 900 w) /\ ∀ g p q r : Int, 0 < g -> g * p = ws.sum -> g * q = sX ps ws -> g * r = sY ps ws -> PM.g3 p q r = 1 -> cC ws.sum (sX ps ws) (sY ps ws) = T3 p q r -> Q (T3 p q r))
theorem bV (κ : Cls) (ps : List Sp) (ws : List Int) (Q : D -> Prop) (Ed : Value -> Prop) : cN κ [.lst false (ps.map spD), .lst false (ws.map D.int)] Q Ed = (ps.length = ws.length /\ 0 < ps.length /\ ps.length <= 30 /\ (∀ p ∈ ps, WB 40 p) /\ (∀ w ∈ ws, 0 < w /\ Bd 900 w) /\ ∀ g p q r : Int, 0 < g -> g * p = ws.sum -> g * q = sX ps ws -> g * r = sY ps ws -> PM.g3 p q r = 1 -> cC ws.sum (sX ps ws) (sY ps ws) = T3 p q r -> Q (T3 p q r)) := by
 apply propext
 constructor
 ·rintro ⟨x0, x1, e, q⟩
  simp only [T3, List.cons.injEq, D.int.injEq, D.tup.injEq, D.lst.injEq, and_true, true_and] at e
  obtain ⟨e_ps, e_ws⟩ := e
  have f_ps := cF e_ps
  subst f_ps
  have f_ws := iJ e_ws
  subst f_ws
  exact q
 ·intro q; exact ⟨_, _, rfl, q⟩
def gK (κ : Cls) : DSp := fun ds Q Ed => ∃ (ps : List Sp) (c : Int), ds = [.lst false (ps.map spD), .int c] /\ (0 < ps.length /\ ps.length <= 30 /\ (∀ p ∈ ps, WB 40 p) /\ ∀ h : Tr, PB 100 h -> Prm h -> (0 < ((cn c 12).getD 0 0).fmod 4 -> 0 < (((cn c 12).getD 0 0).fdiv 12).fmod 3 -> kM ps h) -> Q (trD h))
theorem hW (κ : Cls) (ps : List Sp) (c : Int) (Q : D -> Prop) (Ed : Value -> Prop) : gK κ [.lst false (ps.map spD), .int c] Q Ed = (0 < ps.length /\ ps.length <= 30 /\ (∀ p ∈ ps, WB 40 p) /\ ∀ h : Tr, PB 100 h -> Prm h -> (0 < ((cn c 12).getD 0 0).fmod 4 -> 0 < (((cn c 12).getD 0 0).fdiv 12).fmod 3 -> kM ps h) -> Q (trD h)) := by
 apply propext
 constructor
 ·rintro ⟨x0, x1, e, q⟩
  simp only [T3, List.cons.injEq, D.int.injEq, D.tup.injEq, D.lst.injEq, and_true, true_and] at e
  obtain ⟨e_ps, rfl⟩ := e
  have f_ps := cF e_ps
  subst f_ps
  exact q
 ·intro q; exact ⟨_, _, rfl, q⟩
def hU (κ : Cls) : DSp := fun ds Q Ed => ∃ (d : D) (ps : List Sp) (h0 h1 h2 : Int), ds = [d, .lst false (ps.map spD), T3 h0 h1 h2] /\ (ps.length <= 30 /\ (∀ p ∈ ps, WB 40 p) /\ Prm (h0, h1, h2) /\ ((∃ (pk : List Nat) (sh : List Int), d = .tup [.str "in", .lst false (pk.map fun (k : Nat) => D.int (k : Int)), .lst false (sh.map D.int)] /\ ph ps (h0, h1, h2) pk sh /\ Q (.bl true)) ∨ ∃ g : Tr, d = .tup [.str "out", trD g] /\ Q (.bl false)))
theorem gD (κ : Cls) (d : D) (ps : List Sp) (h0 h1 h2 : Int) (Q : D -> Prop) (Ed : Value -> Prop) : hU κ [d, .lst false (ps.map spD), T3 h0 h1 h2] Q Ed = (ps.length <= 30 /\ (∀ p ∈ ps, WB 40 p) /\ Prm (h0, h1, h2) /\ ((∃ (pk : List Nat) (sh : List Int), d = .tup [.str "in", .lst false (pk.map fun (k : Nat) => D.int (k : Int)), .lst false (sh.map D.int)] /\ ph ps (h0, h1, h2) pk sh /\ Q (.bl true)) ∨ ∃ g : Tr, d = .tup [.str "out", trD g] /\ Q (.bl false))) := by
 apply propext
 constructor
 ·rintro ⟨x0, x1, x2, x3, x4, e, q⟩
  simp only [T3, List.cons.injEq, D.int.injEq, D.tup.injEq, D.lst.injEq, and_true, true_and] at e
  obtain ⟨rfl, e_ps, ⟨rfl, rfl, rfl⟩⟩ := e
  have f_ps := cF e_ps
  subst f_ps
  exact q
 ·intro q; exact ⟨_, _, _, _, _, rfl, q⟩
def ji (κ : Cls) : DSp := fun ds Q Ed => ∃ (d : D) (ps : List Sp) (h0 h1 h2 : Int), ds = [d, .lst false (ps.map spD), T3 h0 h1 h2] /\ (∃ g : Tr, d = .tup [.str "out", trD g] /\ ps.length < 200 /\ (∀ p ∈ ps, WB 40 p) /\ PB 120 (h0, h1, h2) /\ (∀ p ∈ ps, 0 <= gvS g (1, p.1, p.2)) /\ gvS g (h0, h1, h2) < 0 /\ Bd 300 g.1 /\ Bd 300 g.2.1 /\ Bd 300 g.2.2 /\ Q (.bl true))
theorem jB (κ : Cls) (d : D) (ps : List Sp) (h0 h1 h2 : Int) (Q : D -> Prop) (Ed : Value -> Prop) : ji κ [d, .lst false (ps.map spD), T3 h0 h1 h2] Q Ed = (∃ g : Tr, d = .tup [.str "out", trD g] /\ ps.length < 200 /\ (∀ p ∈ ps, WB 40 p) /\ PB 120 (h0, h1, h2) /\ (∀ p ∈ ps, 0 <= gvS g (1, p.1, p.2)) /\ gvS g (h0, h1, h2) < 0 /\ Bd 300 g.1 /\ Bd 300 g.2.1 /\ Bd 300 g.2.2 /\ Q (.bl true)) := by
 apply propext
 constructor
 ·rintro ⟨x0, x1, x2, x3, x4, e, q⟩
  simp only [T3, List.cons.injEq, D.int.injEq, D.tup.injEq, D.lst.injEq, and_true, true_and] at e
  obtain ⟨rfl, e_ps, ⟨rfl, rfl, rfl⟩⟩ := e
  have f_ps := cF e_ps
  subst f_ps
  exact q
 ·intro q; exact ⟨_, _, _, _, _, rfl, q⟩
def iE (κ : Cls) : DSp := fun ds Q Ed => ∃ (d : D) (ps : List Sp) (h0 h1 h2 : Int), ds = [d, .lst false (ps.map spD), T3 h0 h1 h2] /\ (ps.length <= 30 /\ (∀ p ∈ ps, WB 40 p) /\ PB 120 (h0, h1, h2) /\ Prm (h0, h1, h2) /\ ((∃ (pk : List Nat) (sh : List Int), d = .tup [.str "in", .lst false (pk.map fun (k : Nat) => D.int (k : Int)), .lst false (sh.map D.int)] /\ ph ps (h0, h1, h2) pk sh) ∨ ∃ g : Tr, d = .tup [.str "out", trD g] /\ (∀ p ∈ ps, 0 <= gvS g (1, p.1, p.2)) /\ gvS g (h0, h1, h2) < 0 /\ Bd 300 g.1 /\ Bd 300 g.2.1 /\ Bd 300 g.2.2) /\ Q (.bl true))
theorem iK (κ : Cls) (d : D) (ps : List Sp) (h0 h1 h2 : Int) (Q : D -> Prop) (Ed : Value -> Prop) : iE κ [d, .lst false (ps.map spD), T3 h0 h1 h2] Q Ed = (ps.length <= 30 /\ (∀ p ∈ ps, WB 40 p) /\ PB 120 (h0, h1, h2) /\ Prm (h0, h1, h2) /\ ((∃ (pk : List Nat) (sh : List Int), d = .tup [.str "in", .lst false (pk.map fun (k : Nat) => D.int (k : Int)), .lst false (sh.map D.int)] /\ ph ps (h0, h1, h2) pk sh) ∨ ∃ g : Tr, d = .tup [.str "out", trD g] /\ (∀ p ∈ ps, 0 <= gvS g (1, p.1, p.2)) /\ gvS g (h0, h1, h2) < 0 /\ Bd 300 g.1 /\ Bd 300 g.2.1 /\ Bd 300 g.2.2) /\ Q (.bl true)) := by
 apply propext
 constructor
 ·rintro ⟨x0, x1, x2, x3, x4, e, q⟩
  simp only [T3, List.cons.injEq, D.int.injEq, D.tup.injEq, D.lst.injEq, and_true, true_and] at e
  obtain ⟨rfl, e_ps, ⟨rfl, rfl, rfl⟩⟩ := e
  have f_ps := cF e_ps
  subst f_ps
  exact q
 ·intro q; exact ⟨_, _, _, _, _, rfl, q⟩
def cP (κ : Cls) : DSp := fun ds Q Ed => ∃ (ps : List Sp) (h0 h1 h2 : Int), ds = [.lst false (ps.map spD), T3 h0 h1 h2] /\ (0 < ps.length /\ ps.length <= 30 /\ (∀ p ∈ ps, WB 40 p) /\ PB 100 (h0, h1, h2) /\ Prm (h0, h1, h2) /\ ip ps (h0, h1, h2) Q)
theorem cJ (κ : Cls) (ps : List Sp) (h0 h1 h2 : Int) (Q : D -> Prop) (Ed : Value -> Prop) : cP κ [.lst false (ps.map spD), T3 h0 h1 h2] Q Ed = (0 < ps.length /\ ps.length <= 30 /\ (∀ p ∈ ps, WB 40 p) /\ PB 100 (h0, h1, h2) /\ Prm (h0, h1, h2) /\ ip ps (h0, h1, h2) Q) := by
 apply propext
 constructor
 ·rintro ⟨x0, x1, x2, x3, e, q⟩
  simp only [T3, List.cons.injEq, D.int.injEq, D.tup.injEq, D.lst.injEq, and_true, true_and] at e
  obtain ⟨e_ps, ⟨rfl, rfl, rfl⟩⟩ := e
  have f_ps := cF e_ps
  subst f_ps
  exact q
 ·intro q; exact ⟨_, _, _, _, rfl, q⟩
section
variable {P : Program} {w : World} {K : PySem.W.Frag} {mg : Str -> Option Value} {base : Heap} {κ : Cls}
local macro_rules | `(tactic| walk_at "rd") => `(tactic| try simp only [sQ, sF, sZ, vn, wV, wM, dOp, dB, vm, dOr, vZ, rX, wu, sR, dIf, mI, dC, kb, pM, vQ, sM, nY, dCB, dIs, uN, uA, xi, xn, rD, je, wD, vF, u3, pR, ro, ow, gv, pW, uM, tm, v7, mr, mK, rk, qY, ir, kN, u6, uE, uL, List.map_cons, List.map_nil, y6, z9, bQ, oK, nA, cV, bJ, bj, bD, aL, cb, qa, lA, w7, uF, rA, at0, at1, at2, at3, List.append_nil, List.cons_append, List.nil_append, qG, rf, tZ, qE, qR, nL, qN, lM, m8, m9, mU, nN, true_and, false_and, and_false, false_or, or_false, exists_false, sW, n9, sd, qJ, rh, iO, zu, wF, gd2, Bool.false_eq_true, Bool.true_eq_false, if_false, if_true, decide_eq_true_eq, Bool.not_eq_eq_eq_not, Bool.not_true, Bool.not_false, decide_eq_false_iff_not, ite_not, oE, uk, xq, pE, vz, vW, vE, sV, j5, bP, tS, wR, n5, tP, u9, rg, uX, rN, oC, qj, we, oo, uj, vp, List.set_cons_zero, List.set_cons_succ, mB, xh, lT, eS, dU, kE, kB, ja, fR, gI, iR, iF, fu, l7, gq, fM, iC, lY, da, jP, jG, fB, eG, de, fV, hG, fW, ik, fX, eV, dn, gS, iV, gT, bV, hW, gD, jB, iK, cJ, fy, Ac, zx, dE, eU, cQ, jh, fg, me, oX, rQ])
local macro_rules | `(tactic| walk_at "rx") => `(tactic| try simp only [sQ, sF, sZ, vn, wV, wM, dOp, dB, vm, dOr, vZ, rX, wu, sR, dIf, mI, dC, kb, pM, vQ, sM, nY, dCB, dIs, uN, uA, xi, xn, rD, je, wD, vF, u3, pR, ro, ow, gv, pW, uM, tm, v7, mr, mK, rk, qY, kN, u6, uE, uL, List.map_cons, List.map_nil, y6, z9, bQ, oK, nA, cV, bJ, bj, bD, aL, cb, qa, lA, w7, uF, rA, at0, at1, at2, at3, List.append_nil, List.cons_append, List.nil_append, qG, rf, tZ, qE, qR, nL, qN, lM, m8, m9, mU, nN, true_and, false_and, and_false, false_or, or_false, exists_false, n9, sd, qJ, rh, iO, zu, wF, gd2, Bool.false_eq_true, Bool.true_eq_false, if_false, if_true, decide_eq_true_eq, Bool.not_eq_eq_eq_not, Bool.not_true, Bool.not_false, decide_eq_false_iff_not, ite_not, oE, uk, xq, pE, vz, vW, vE, sV, j5, bP, tS, wR, n5, tP, u9, rg, uX, rN, oC, qj, we, oo, uj, vp, List.set_cons_zero, List.set_cons_succ, mB, xh, lT, eS, dU, kE, kB, ja, fR, gI, iR, iF, fu, l7, gq, fM, iC, lY, da, jP, jG, fB, eG, de, fV, hG, fW, ik, fX, eV, dn, gS, iV, gT, bV, hW, gD, jB, iK, cJ, fy, Ac, zx, dE, eU, cQ, jh, fg, me, oX, rQ])
theorem xC {f : Addr} {fd : FuncData} (F : ax K "sign" "sign" oZ f fd) (C : COk K mg κ)   : aI P w K mg base (CX1 P w) 1 f fd ["number"] (aM K (mi κ)) := by
 refine ax.okN F xK (fun ds Q E h => by obtain ⟨_, rfl, _⟩ := h; rfl) fun cdv A outer s H E hr => ⟨_, (aj (aP (az jb (dv 0) aa) (aq (av aa)) aC) (aj (aP (az dm (dv 0) aa) (aq (av (bM aa))) aC) (aq (av aa)))), ?_⟩
 rintro ds Q Ed ⟨n, rfl, h⟩
 have e0 : aB ["number"] [.int n] = ([some (.val (.int n))] : Ro) := rfl
 rw [e0]; clear e0
 walk_at "rd"
 unfold sg at h
 split
 ·rename_i h0; rw [if_pos h0] at h; exact h
 ·rename_i h0
  rw [if_neg h0] at h
  split
  ·rename_i h1; rw [if_pos h1] at h; exact h
  ·rename_i h1; rw [if_neg h1] at h; exact h
theorem kx {f : Addr} {fd : FuncData} (F : ax K "common_divisor" "common_divisor" dG f fd) (C : COk K mg κ)  (z_abs : mg "abs" = none) : aI P w K mg base (CX1 P w) 1 f fd ["one", "other"] (aM K (c8 κ)) := by
 refine ax.okN F cj (fun ds Q E h => by obtain ⟨_, _, rfl, _⟩ := h; rfl) fun cdv A outer s H E hr => ⟨_, (aj (kQ PassesOwn.never (az gG (dv 1) aa) (aj (aG 2 cj.nd (ai aH (dv 0) (dv 1))) (aj (aG 0 cj.nd (dv 1)) (aq (aG 1 cj.nd (dv 2)))))) (aq (av (aE lL (by rfl) z_abs boot_abs (ae (dv 0) af))))), ?_⟩
 rintro ds Q Ed ⟨a, b, rfl, h⟩
 have e0 : aB ["one", "other", "rest"] [.int a, .int b] = ([some (.val (.int a)), some (.val (.int b)), none] : Ro) := rfl
 rw [e0]; clear e0
 refine ⟨fun m ρ => ∃ (x y : Int) (r : Option Sl), ρ = [some (.val (.int x)), some (.val (.int y)), r] /\ Int.gcd x y = Int.gcd a b /\ m = y.natAbs, ⟨_, a, b, none, rfl, rfl, rfl⟩, ?_⟩
 rintro m ρ ⟨x, y, r, rfl, hg, rfl⟩
 walk_at "rd"
 by_cases hy : y = 0
 ·subst hy
  rw [PM.nI] at hg
  rw [if_pos rfl, hg]
  exact h
 ·rw [if_neg hy]
  exact ⟨hy, _, PM.nG x hy, y, x.fmod y, _, rfl, (PM.pB x y).trans hg, rfl⟩
theorem uZ {f : Addr} {fd : FuncData} (F : ax K "lowest" "lowest" jt f fd) (C : COk K mg κ) (h_common_divisor : Has P w K mg base "common_divisor" 1 ["one", "other"] (c8 κ))  : aI P w K mg base (CX1 P w) 2 f fd ["numbers"] (aM K (dP κ)) := by
 refine ax.okN F hJ (fun ds Q E h => by obtain ⟨_, rfl, _⟩ := h; rfl) fun cdv A outer s H E hr => ⟨_, (aj (aG 1 hJ.nd aa) (aj (cw PassesOwn.never rfl (bu (dv 0)) (bz 2 hJ.nd) (aq (aG 1 hJ.nd (au h_common_divisor (hr.mono (by decide)) (ae (dv 1) (ae (dv 2) af)))))) (aq (av (dN (by rfl) (by exact bB (osc := ao jt) (xs := ["number"]) (ns := ["divisor"]) (by decide +kernel)) (aZ.cons 1 aZ.nil) (bu (dv 0)) (fun _ _ _ _ _ => bW) (fun _ _ _ _ _ => (ai bo (dv 0) (dv 1)))))))), ?_⟩
 rintro ds Q Ed ⟨ns, rfl, h⟩
 have e0 : aB ["numbers", "divisor", "number"] [.lst false (ns.map D.int)] = ([some (.val (.lst false (ns.map D.int))), none, none] : Ro) := rfl
 rw [e0]; clear e0
 obtain ⟨hl, hz, hb, h⟩ := h
 walk_at "rx"
 refine PD.bN ns D.int (fun j ρ => ∃ v2 : Option Sl, ρ = [some (.val (.lst false (ns.map D.int))), some (.val (.int (aT 0 (ns.take j)))), v2]) (fun R q => ?_) ⟨none, rfl⟩ ?_ ?_
 ·walk_at "rd"
  exact q
 ·rintro j x ρ' hx ⟨v2, rfl⟩
  walk_at "rd"
  refine ⟨some (.val (.int x)), ?_⟩
  rw [List.take_succ, hx]
  show _ = [_, some (Sl.val (D.int (aT 0 (ns.take j ++ [x])))), _]
  rw [jJ]
 ·rintro ρ' ⟨v2, rfl⟩
  rw [List.take_length]
  walk_at "rx"
  refine PD.comp_map ns D.int (fun _ => true) (fun x => .int (x.fdiv (aT 0 ns))) (fun R q => ?_) (by rw [sizeLine_eq]; omega) (fun x hx K hK => ?_) (fun x hx _ K hK => ?_) ?_
  ·walk_at "rd"
   exact q
  ·walk_at "rd"
   exact hK
  ·walk_at "rd"
   exact ⟨⟨hz, hb.mono (by decide)⟩, hK⟩
  ·rw [List.filter_eq_self.mpr (fun _ _ => rfl)]
   unfold b6 at h
   rw [List.map_map] at h
   exact h
theorem wm {f : Addr} {fd : FuncData} (F : ax K "picks" "picks" kg f fd) (C : COk K mg κ)  (z_range : mg "range" = none) : aI P w K mg base (CX1 P w) 1 f fd ["count", "size"] (aM K (kY κ)) := by
 refine ax.okN F dI (fun ds Q E h => by obtain ⟨_, _, rfl, _⟩ := h; rfl) fun cdv A outer s H E hr => ⟨_, (aj (aG 2 dI.nd (cU (ae (cU af) af))) (aj (cw PassesOwn.never rfl (cT (by rfl) z_range (ae (dv 1) af)) (bz 3 dI.nd) (aj (lK 4 dI.nd af) (aj (cw PassesOwn.never rfl (bu (dv 2)) (bz 5 dI.nd) (aj (aG 6 dI.nd (kO (az jb (dv 3) aa) (ai aK (ak (dv 5) (bM aa)) aa) aa)) (aq (tN 4 (dN (by rfl) (by exact bB (osc := ao kg) (xs := ["number"]) (ns := ["pick"]) (by decide +kernel)) (aZ.cons 5 aZ.nil) (uQ (by rfl) z_range (ae (dv 6) (ae (dv 0) af))) (fun _ _ _ _ _ => bW) (fun _ _ _ _ _ => (ai aK (dv 1) (cU (ae (dv 0) af))))))))) (fZ 4 (aq (aG 2 dI.nd (dv 4))))))) (aq (av (dv 2))))), ?_⟩
 rintro ds Q Ed ⟨n, s, rfl, h⟩
 have e0 : aB ["count", "size", "found", "length", "longer", "pick", "first"] [.int n, .int s] = ([some (.val (.int n)), some (.val (.int s)), none, none, none, none, none] : Ro) := rfl
 rw [e0]; clear e0
 obtain ⟨m, t, rfl, rfl, hm, ht, h⟩ := h
 have sz : ∀ j, j <= 3 -> (lev m j).length <= 216000 := fun j hj => Nat.le_trans (rj m j) (Nat.le_trans (Nat.pow_le_pow_left hm j) (Nat.le_trans (Nat.pow_le_pow_right (by decide) hj) (by decide)))
 walk_at "rx"
 refine ⟨Nat.zero_le _, by rw [sizeLine_eq]; decide, ?_⟩
 refine PD.bN (List.range' 0 t) (fun (k : Nat) => D.int (k : Int)) (fun j ρ => ∃ v3 v4 v5 v6 : Option Sl, ρ = [some (.val (.int m)), some (.val (.int t)), some (.val (.lst true ((lev m j).map pkD))), v3, v4, v5, v6]) (fun R q => ?_) ⟨none, none, none, none, rfl⟩ ?_ ?_
 ·walk_at "rd"
  rw [k6]
  exact ⟨⟨by omega, by omega⟩, q⟩
 ·rintro j x ρ' hx ⟨v3, v4, v5, v6, rfl⟩
  obtain ⟨hj, ex⟩ := List.getElem?_eq_some_iff.mp hx
  rw [List.length_range'] at hj
  rw [List.getElem_range'] at ex
  have ex' : x = j := by omega
  subst ex'
  walk_at "rx"
  refine ⟨Nat.zero_le _, ?_⟩
  refine PD.rJ (lev m x) pkD (fun done ρ => ∃ v5 v6 : Option Sl, ρ = [some (.val (.int m)), some (.val (.int t)), some (.val (.lst true ((lev m x).map pkD))), some (.val (.int x)), some (.own ((done.flatMap (nxt m)).map pkD)), v5, v6]) (fun R q => ?_) ⟨_, _, rfl⟩ ?_ ?_
  ·walk_at "rd"
   exact q
  ·rintro done pk ρ2 hpk hlt ⟨v5, v6, rfl⟩
   obtain ⟨hlen, hlt'⟩ := kf hpk
   have hf : cz pk <= m := by
    unfold cz
    cases e : pk.getLast? with
    | none => exact Nat.zero_le _
    | some l => have := hlt' l (List.mem_of_getLast? e); exact this
   have dl : done.length * m <= 216000 * 60 := Nat.mul_le_mul (Nat.le_trans (Nat.le_of_lt hlt) (sz x (by omega))) hm
   have fl := pf m done
   have nl : (nxt m pk).length <= 60 := by unfold nxt; rw [List.length_map, List.length_range']; omega
   have rest : ∀ (v : D) (Qd : D -> Prop), v = .int (cz pk) -> Qd (.lst true ((nxt m pk).map pkD)) -> ir (n9 (kb (jX 6) (kb (jX 0) pM))) [5] kN (dOp n8 (jX 1) (sM (kb (jX 0) pM))) [some (.val (.int m)), some (.val (.int t)), some (.val (.lst true ((lev m x).map pkD))), some (.val (.int x)), some (.own ((done.flatMap (nxt m)).map pkD)), some (.val (pkD pk)), some (.val v)] Qd := by
    rintro v Qd rfl hQ
    refine PD.comp_map (List.range' (cz pk) (m - cz pk)) (fun (k : Nat) => D.int (k : Int)) (fun _ => true) (fun k => pkD (pk ++ [k])) (fun R q => ?_) (by rw [List.length_range', sizeLine_eq]; omega) (fun k hk K hK => ?_) (fun k hk _ K hK => ?_) ?_
    ·walk_at "rd"
     rw [xX]
     exact ⟨⟨by omega, by omega⟩, ⟨by omega, by omega⟩, q⟩
    ·walk_at "rd"
     exact hK
    ·unfold pkD at hK ⊢
     walk_at "rd"
     rw [List.map_append] at hK
     refine ⟨sz1 _, ?_, hK⟩
     rw [List.length_map, sizeLine_eq, hlen]
     show x + 1 <= _
     omega
    ·rw [List.filter_eq_self.mpr (fun _ _ => rfl)]
     unfold nxt at hQ
     rw [List.map_map] at hQ
     exact hQ
   have end_ : ∀ v : D, ∃ xs, D.lst true ((nxt m pk).map pkD) = D.lst true xs /\ (List.map pkD (List.flatMap (nxt m) done)).length + xs.length <= sizeLine /\ ∃ v5 v6 : Option Sl, ([some (Sl.val (D.int m)), some (Sl.val (D.int t)), some (Sl.val (D.lst true (List.map pkD (lev m x)))), some (Sl.val (D.int x)), some (Sl.own (List.map pkD (List.flatMap (nxt m) done) ++ xs)), some (Sl.val (pkD pk)), some (Sl.val v)] : Ro) = [some (Sl.val (D.int m)), some (Sl.val (D.int t)), some (Sl.val (D.lst true (List.map pkD (lev m x)))), some (Sl.val (D.int x)), some (Sl.own (List.map pkD (List.flatMap (nxt m) (done ++ [pk])))), v5, v6] := fun v =>
    ⟨_, rfl, by rw [List.length_map, List.length_map, sizeLine_eq]; omega, _, _, by rw [List.flatMap_append, List.map_append, List.flatMap_singleton]⟩
   walk_at "rx"
   by_cases hx0 : x = 0
   ·subst hx0
    have : pk = [] := List.eq_nil_of_length_eq_zero hlen
    subst this
    rw [if_neg (by omega)]
    exact rest _ _ rfl (end_ _)
   ·rw [if_pos (by omega)]
    have hne : pk ≠ [] := fun e => hx0 (by rw [<- hlen, e]; rfl)
    show tH (.lst true (pk.map fun (k : Nat) => D.int (k : Int))) _ _
    rw [lA]
    refine yF hne ?_
    rw [oE]
    exact rest _ _ (by congr 1; omega) (end_ _)
  ·rintro ρ2 ⟨v5, v6, rfl⟩
   walk_at "rd"
   exact ⟨_, _, _, _, rfl⟩
 ·rintro ρ' ⟨v3, v4, v5, v6, rfl⟩
  walk_at "rd"
  rw [List.length_range']
  exact h
theorem vN {f : Addr} {fd : FuncData} (F : ax K "value" "value" mR f fd) (C : COk K mg κ)   : aI P w K mg base (CX1 P w) 1 f fd ["gauge", "place"] (aM K (lr κ)) := by
 refine ax.okN F vh (fun ds Q E h => by obtain ⟨_, _, _, _, _, _, rfl, _⟩ := h; rfl) fun cdv A outer s H E hr => ⟨_, (aq (av (ai aK (ai aK (ai aA (ak (dv 0) aa) (ak (dv 1) aa)) (ai aA (ak (dv 0) aa) (ak (dv 1) aa))) (ai aA (ak (dv 0) aa) (ak (dv 1) aa))))), ?_⟩
 rintro ds Q Ed ⟨g0, g1, g2, p0, p1, p2, rfl, h⟩
 have e0 : aB ["gauge", "place"] [T3 g0 g1 g2, T3 p0 p1 p2] = ([some (.val (T3 g0 g1 g2)), some (.val (T3 p0 p1 p2))] : Ro) := rfl
 rw [e0]; clear e0
 obtain ⟨h0, h1, h2, k0, k1, k2, h⟩ := h
 have cm : ∀ {x y : Int}, Bd 1000 x -> Bd 1000 y -> CM x y := fun hx hy => .inr (.inr ⟨hx.mono (by decide), hy.mono (by decide)⟩)
 walk_at "rd"
 exact ⟨cm h0 k0, cm h1 k1, cm h2 k2, h⟩
theorem yn {f : Addr} {fd : FuncData} (F : ax K "side" "side" qm f fd) (C : COk K mg κ) (h_sign : Has P w K mg base "sign" 1 ["number"] (mi κ)) (h_value : Has P w K mg base "value" 1 ["gauge", "place"] (lr κ))  : aI P w K mg base (CX1 P w) 2 f fd ["gauge", "place"] (aM K (j6 κ)) := by
 refine ax.okN F yD (fun ds Q E h => by obtain ⟨_, _, _, _, _, _, rfl, _⟩ := h; rfl) fun cdv A outer s H E hr => ⟨_, (aq (av (au h_sign (hr.mono (by decide)) (ae (au h_value (hr.mono (by decide)) (ae (dv 0) (ae (dv 1) af))) af)))), ?_⟩
 rintro ds Q Ed ⟨g0, g1, g2, p0, p1, p2, rfl, h⟩
 have e0 : aB ["gauge", "place"] [T3 g0 g1 g2, T3 p0 p1 p2] = ([some (.val (T3 g0 g1 g2)), some (.val (T3 p0 p1 p2))] : Ro) := rfl
 rw [e0]; clear e0
 obtain ⟨h0, h1, h2, k0, k1, k2, h⟩ := h
 walk_at "rd"
 exact ⟨h0, h1, h2, k0, k1, k2, h⟩
theorem sT {f : Addr} {fd : FuncData} (F : ax K "crossed" "crossed" jF f fd) (C : COk K mg κ)   : aI P w K mg base (CX1 P w) 1 f fd ["one", "other"] (aM K (gh κ)) := by
 refine ax.okN F sL (fun ds Q E h => by obtain ⟨_, _, _, _, _, _, rfl, _⟩ := h; rfl) fun cdv A outer s H E hr => ⟨_, (aq (av (bg (ae (ai aR (ai aA (ak (dv 0) aa) (ak (dv 1) aa)) (ai aA (ak (dv 1) aa) (ak (dv 0) aa))) (ae (ai aR (ai aA (ak (dv 0) aa) (ak (dv 1) aa)) (ai aA (ak (dv 1) aa) (ak (dv 0) aa))) (ae (ai aR (ai aA (ak (dv 0) aa) (ak (dv 1) aa)) (ai aA (ak (dv 1) aa) (ak (dv 0) aa))) af)))))), ?_⟩
 rintro ds Q Ed ⟨a0, a1, a2, b0, b1, b2, rfl, h⟩
 have e0 : aB ["one", "other"] [T3 a0 a1 a2, T3 b0 b1 b2] = ([some (.val (T3 a0 a1 a2)), some (.val (T3 b0 b1 b2))] : Ro) := rfl
 rw [e0]; clear e0
 obtain ⟨h0, h1, h2, k0, k1, k2, h⟩ := h
 have cm : ∀ {x y : Int}, Bd 200 x -> Bd 200 y -> CM x y := fun hx hy => .inr (.inr ⟨hx.mono (by decide), hy.mono (by decide)⟩)
 walk_at "rd"
 exact ⟨cm h1 k2, cm k1 h2, cm h2 k0, cm k2 h0, cm h0 k1, cm k0 h1, sz3 _ _ _, h⟩
theorem um {f : Addr} {fd : FuncData} (F : ax K "facing" "facing" lG f fd) (C : COk K mg κ)   : aI P w K mg base (CX1 P w) 1 f fd ["place", "way"] (aM K (bS κ)) := by
 refine ax.okN F tR (fun ds Q E h => by obtain ⟨_, _, _, _, rfl, _⟩ := h; rfl) fun cdv A outer s H E hr => ⟨_, (aq (av (bg (ae (bM (ai aK (ai aA (ak (dv 1) aa) (ak (dv 0) aa)) (ai aA (ak (dv 1) aa) (ak (dv 0) aa)))) (ae (ai aA (ak (dv 1) aa) (ak (dv 0) aa)) (ae (ai aA (ak (dv 1) aa) (ak (dv 0) aa)) af)))))), ?_⟩
 rintro ds Q Ed ⟨p0, p1, p2, w, rfl, h⟩
 have e0 : aB ["place", "way"] [T3 p0 p1 p2, spD w] = ([some (.val (T3 p0 p1 p2)), some (.val (spD w))] : Ro) := rfl
 rw [e0]; clear e0
 obtain ⟨h0, h1, h2, hw, h⟩ := h
 unfold spD
 walk_at "rd"
 exact ⟨cmB hw.x h1, cmB hw.y h2, cmB hw.x h0, cmB hw.y h0, sz3 _ _ _, h⟩
theorem qq {f : Addr} {fd : FuncData} (F : ax K "place_of" "place_of" jo f fd) (C : COk K mg κ)   : aI P w K mg base (CX1 P w) 1 f fd ["spot"] (aM K (ft κ)) := by
 refine ax.okN F qC (fun ds Q E h => by obtain ⟨_, rfl, _⟩ := h; rfl) fun cdv A outer s H E hr => ⟨_, (aq (av (bg (ae aa (ae (ak (dv 0) aa) (ae (ak (dv 0) aa) af)))))), ?_⟩
 rintro ds Q Ed ⟨d, rfl, h⟩
 have e0 : aB ["spot"] [d] = ([some (.val (d))] : Ro) := rfl
 rw [e0]; clear e0
 obtain ⟨p, rfl, q⟩ := h
 unfold spD
 walk_at "rd"
 exact ⟨sz3 _ _ _, q⟩
theorem vD {f : Addr} {fd : FuncData} (F : ax K "swing" "swing" mM f fd) (C : COk K mg κ)   : aI P w K mg base (CX1 P w) 1 f fd ["one", "two", "three"] (aM K (jy κ)) := by
 refine ax.okN F vU (fun ds Q E h => by obtain ⟨_, _, _, _, _, _, _, _, _, rfl, _⟩ := h; rfl) fun cdv A outer s H E hr => ⟨_, (aq (av (ai aK (ai aK (ai aA (ak (dv 0) aa) (ai aR (ai aA (ak (dv 1) aa) (ak (dv 2) aa)) (ai aA (ak (dv 2) aa) (ak (dv 1) aa)))) (ai aA (ak (dv 1) aa) (ai aR (ai aA (ak (dv 2) aa) (ak (dv 0) aa)) (ai aA (ak (dv 0) aa) (ak (dv 2) aa))))) (ai aA (ak (dv 2) aa) (ai aR (ai aA (ak (dv 0) aa) (ak (dv 1) aa)) (ai aA (ak (dv 1) aa) (ak (dv 0) aa))))))), ?_⟩
 rintro ds Q Ed ⟨a0, a1, a2, b0, b1, b2, c0, c1, c2, rfl, h⟩
 have e0 : aB ["one", "two", "three"] [T3 a0 a1 a2, T3 b0 b1 b2, T3 c0 c1 c2] = ([some (.val (T3 a0 a1 a2)), some (.val (T3 b0 b1 b2)), some (.val (T3 c0 c1 c2))] : Ro) := rfl
 rw [e0]; clear e0
 obtain ⟨h0, h1, h2, k0, k1, k2, l0, l1, l2, h⟩ := h
 have cm : ∀ {x y : Int}, Bd 1000 x -> Bd 1000 y -> CM x y := fun hx hy => .inr (.inr ⟨hx.mono (by decide), hy.mono (by decide)⟩)
 have c3 : ∀ {x p q r s : Int}, Bd 1000 x -> Bd 1000 p -> Bd 1000 q -> Bd 1000 r -> Bd 1000 s -> CM x (p * q - r * s) := fun hx hp hq hr hs => .inr (.inr ⟨hx.mono (by decide), ((hp.mul hq).sub (hr.mul hs)).mono (by decide)⟩)
 walk_at "rd"
 exact ⟨cm k1 l2, cm l1 k2, c3 h0 k1 l2 l1 k2, cm l1 h2, cm h1 l2, c3 k0 l1 h2 h1 l2, cm h1 k2, cm k1 h2, c3 l0 h1 k2 k1 h2, h⟩
theorem vd {f : Addr} {fd : FuncData} (F : ax K "arrow" "arrow" mN f fd) (C : COk K mg κ)   : aI P w K mg base (CX1 P w) 1 f fd ["one", "other"] (aM K (eW κ)) := by
 refine ax.okN F vw (fun ds Q E h => by obtain ⟨_, _, _, _, _, _, rfl, _⟩ := h; rfl) fun cdv A outer s H E hr => ⟨_, (aq (av (bg (ae (ai aR (ai aA (ak (dv 0) aa) (ak (dv 1) aa)) (ai aA (ak (dv 1) aa) (ak (dv 0) aa))) (ae (ai aR (ai aA (ak (dv 0) aa) (ak (dv 1) aa)) (ai aA (ak (dv 1) aa) (ak (dv 0) aa))) af))))), ?_⟩
 rintro ds Q Ed ⟨a0, a1, a2, b0, b1, b2, rfl, h⟩
 have e0 : aB ["one", "other"] [T3 a0 a1 a2, T3 b0 b1 b2] = ([some (.val (T3 a0 a1 a2)), some (.val (T3 b0 b1 b2))] : Ro) := rfl
 rw [e0]; clear e0
 obtain ⟨h0, h1, h2, k0, k1, k2, h⟩ := h
 walk_at "rd"
 exact ⟨cmB h0 k1, cmB k0 h1, cmB h0 k2, cmB k0 h2, sz2 _ _, h⟩
theorem xH {f : Addr} {fd : FuncData} (F : ax K "turn" "turn" qn f fd) (C : COk K mg κ)   : aI P w K mg base (CX1 P w) 1 f fd ["one", "other"] (aM K (kl κ)) := by
 refine ax.okN F xB (fun ds Q E h => by obtain ⟨_, _, rfl, _⟩ := h; rfl) fun cdv A outer s H E hr => ⟨_, (aq (av (ai aR (ai aA (ak (dv 0) aa) (ak (dv 1) aa)) (ai aA (ak (dv 1) aa) (ak (dv 0) aa))))), ?_⟩
 rintro ds Q Ed ⟨a, b, rfl, h⟩
 have e0 : aB ["one", "other"] [spD a, spD b] = ([some (.val (spD a)), some (.val (spD b))] : Ro) := rfl
 rw [e0]; clear e0
 obtain ⟨ha, hb, h⟩ := h
 unfold spD
 walk_at "rd"
 exact ⟨cmB ha.x hb.y, cmB hb.x ha.y, h⟩
theorem xv {f : Addr} {fd : FuncData} (F : ax K "back" "back" qc f fd) (C : COk K mg κ)   : aI P w K mg base (CX1 P w) 1 f fd ["way"] (aM K (iM κ)) := by
 refine ax.okN F yu (fun ds Q E h => by obtain ⟨_, rfl, _⟩ := h; rfl) fun cdv A outer s H E hr => ⟨_, (aq (av (bg (ae (bM (ak (dv 0) aa)) (ae (bM (ak (dv 0) aa)) af))))), ?_⟩
 rintro ds Q Ed ⟨w, rfl, h⟩
 have e0 : aB ["way"] [spD w] = ([some (.val (spD w))] : Ro) := rfl
 rw [e0]; clear e0
 unfold spD at h ⊢
 walk_at "rd"
 exact ⟨sz2 _ _, h⟩
theorem sA {f : Addr} {fd : FuncData} (F : ax K "left_of" "left_of" jI f fd) (C : COk K mg κ)   : aI P w K mg base (CX1 P w) 1 f fd ["way"] (aM K (gk κ)) := by
 refine ax.okN F r9 (fun ds Q E h => by obtain ⟨_, rfl, _⟩ := h; rfl) fun cdv A outer s H E hr => ⟨_, (aq (av (bg (ae (bM (ak (dv 0) aa)) (ae (ak (dv 0) aa) af))))), ?_⟩
 rintro ds Q Ed ⟨w, rfl, h⟩
 have e0 : aB ["way"] [spD w] = ([some (.val (spD w))] : Ro) := rfl
 rw [e0]; clear e0
 unfold spD at h ⊢
 walk_at "rd"
 exact ⟨sz2 _ _, h⟩
theorem ve {f : Addr} {fd : FuncData} (F : ax K "chain" "chain" mO f fd) (C : COk K mg κ) (h_swing : Has P w K mg base "swing" 1 ["one", "two", "three"] (jy κ)) (z_len : mg "len" = none) : aI P w K mg base (CX1 P w) 2 f fd ["places"] (aM K (kT κ)) := by
 refine ax.okN F lC (fun ds Q E h => by obtain ⟨_, rfl, _⟩ := h; rfl) fun cdv A outer s H E hr => ⟨_, (aj (lK 1 lC.nd af) (aj (cw PassesOwn.never rfl (bu (dv 0)) (bz 2 lC.nd) (aj (kQ PassesOwn.never (yp 1 (pV (az jb (aE bq (by rfl) z_len boot_len (ae (dv 1) af)) aa) (qI (az wU (au h_swing (hr.mono (by decide)) (ae (ak (dv 1) (bM aa)) (ae (ak (dv 1) (bM aa)) (ae (dv 2) af)))) aa))).pt) (aq (zf 1))) (aq (jS 1 (dv 2))))) (fZ 1 (aq (av (dv 1)))))), ?_⟩
 rintro ds Q Ed ⟨ps, rfl, h⟩
 have e0 : aB ["places", "kept", "each"] [.lst false (ps.map plS)] = ([some (.val (.lst false (ps.map plS))), none, none] : Ro) := rfl
 rw [e0]; clear e0
 obtain ⟨hl, hb, h⟩ := h
 walk_at "rx"
 refine ⟨Nat.zero_le _, ?_⟩
 refine PD.rJ ps plS (fun done ρ => ∃ v : Option Sl, ρ = [some (.val (.lst false (ps.map plS))), some (.own ((aY [] done).reverse.map plS)), v] /\ (aY [] done).length <= done.length /\ ∀ p ∈ aY [] done, SB p) ?_ ?_ ?_ ?_
 ·intro R hR
  walk_at "rd"
  exact hR
 ·exact ⟨none, rfl, Nat.le_refl _, by simp [aY]⟩
 ·rintro done x ρ' hx hlt ⟨v, rfl, hL, hS⟩
  walk_at "rx"
  refine ⟨fun m ρ => ∃ st : List Sp, ρ = [some (.val (.lst false (ps.map plS))), some (.own (st.reverse.map plS)), some (.val (plS x))] /\ m = st.length /\ bG st x = bG (aY [] done) x /\ st.length <= done.length /\ ∀ p ∈ st, SB p, ⟨_, _, rfl, rfl, rfl, hL, hS⟩, ?_⟩
  rintro m ρ ⟨st, rfl, rfl, hp, hM, hB⟩
  have stop : bG st x = st -> ((st.reverse.map plS).length < sizeLine /\ ∃ v : Option Sl, ([some (.val (.lst false (ps.map plS))), some (.own (st.reverse.map plS ++ [plS x])), some (.val (plS x))] : Ro) = [some (.val (.lst false (ps.map plS))), some (.own ((aY [] (done ++ [x])).reverse.map plS)), v] /\ (aY [] (done ++ [x])).length <= (done ++ [x]).length /\ ∀ p ∈ aY [] (done ++ [x]), SB p) := fun e => by
   have e2 : aY [] (done ++ [x]) = x :: st := by rw [kH, <- hp, e]
   rw [e2]
   refine ⟨by rw [List.length_map, List.length_reverse, sizeLine_eq]; omega, _, by rw [List.reverse_cons, List.map_append]; rfl, by simp; omega, fun p hq => ?_⟩
   rcases List.mem_cons.mp hq with z | z
   ·rw [z]; exact hb x hx
   ·exact hB p z
  walk_at "rx"
  rcases st with _ | ⟨b, _ | ⟨a, r⟩⟩
  ·rw [if_neg (by simp)]; exact stop rfl
  ·rw [if_neg (by simp)]; exact stop rfl
  ·rw [if_pos (by simp; omega)]
   have eL : (b :: a :: r).reverse.map plS = r.reverse.map plS ++ [plS a] ++ [plS b] := by simp
   have Ba := hB a (by simp)
   have Bb := hB b (by simp)
   have Bx := hb x hx
   have o1 : Bd 1000 1 := by unfold Bd; decide
   refine ⟨_, by rw [eL]; exact tU _ _ _, _, by rw [eL]; exact vj _ _, ?_⟩
   try simp only [cQ]
   show jy κ [T3 1 a.1 a.2, T3 1 b.1 b.2, T3 1 x.1 x.2] _ _
   rw [iF]
   refine ⟨o1, Ba.x.mono (by decide), Ba.y.mono (by decide), o1, Bb.x.mono (by decide), Bb.y.mono (by decide), o1, Bx.x.mono (by decide), Bx.y.mono (by decide), ?_⟩
   rw [je]
   refine ⟨_, rfl, ?_⟩
   by_cases c : sw 1 a.1 a.2 1 b.1 b.2 1 x.1 x.2 <= 0
   ·have c' : cr a b x <= 0 := c
    rw [if_pos (by simpa using c)]
    refine ⟨by simp, (a :: r).length, by simp, a :: r, ?_, rfl, ?_, ?_, fun p hq => hB p (List.mem_cons_of_mem _ hq)⟩
    ·rw [eL, List.dropLast_concat]; simp
    ·rw [<- hp]; conv => rhs; unfold bG
     rw [if_pos c']
    ·simp at hM ⊢; omega
   ·have c' : ¬ cr a b x <= 0 := c
    rw [if_neg (by simpa using c)]
    exact stop (by unfold bG; rw [if_neg c'])
 ·rintro ρ' ⟨v, rfl, _⟩
  walk_at "rx"
  exact h
theorem yH {f : Addr} {fd : FuncData} (F : ax K "hull" "hull" l5 f fd) (C : COk K mg κ) (h_chain : Has P w K mg base "chain" 2 ["places"] (kT κ)) (h_place_of : Has P w K mg base "place_of" 1 ["spot"] (ft κ)) (z_len : mg "len" = none) (z_set : mg "set" = none) (z_sorted : mg "sorted" = none) : aI P w K mg base (CX1 P w) 3 f fd ["spots"] (aM K (mE κ)) := by
 refine ax.okN F rP (fun ds Q E h => by obtain ⟨_, rfl, _⟩ := h; rfl) fun cdv A outer s H E hr => ⟨_, (aj (eE 1 rP.nd (by rfl) (by exact bB (osc := ao l5) (xs := ["spot"]) (ns := []) (by decide +kernel)) aZ.nil (bu ((tJ rfl (by exact zI hr) (by rfl) z_sorted (by rfl) z_set (dv 0))).ped) (fun _ _ _ _ _ => bW) (fun _ _ _ _ _ => (au h_place_of (hr.mono (by decide)) (ae (dv 0) af)))) (aj (aP (az dm (aE bq (by rfl) z_len boot_len (ae (dv 1) af)) aa) (aq (av (dv 1))) aC) (aq (av (ai aK ((k7 (au h_chain (hr.mono (by decide)) (ae (dv 1) af)) fk (gr (bM aa)))).ped ((k7 (au h_chain (hr.mono (by decide)) (ae ((zd (dv 1))).ped af)) fk (gr (bM aa)))).ped))))), ?_⟩
 rintro ds Q Ed ⟨ps, rfl, h⟩
 have e0 : aB ["spots", "places"] [.lst false (ps.map spD)] = ([some (.val (.lst false (ps.map spD))), none] : Ro) := rfl
 rw [e0]; clear e0
 obtain ⟨hl, hb, h⟩ := h
 walk_at "rx"
 refine vS (P := fun ys => cg ys ps /\ ys.length <= ps.length) spD plS (fun R hR => ?_) (fun ys hy => by rw [sizeLine_eq]; omega) (fun ys hy x hx K k => ?_) fun ys hy => ?_
 ·refine ⟨_, rfl, false, ps.map spK, by rw [wX], by rw [List.length_map]; exact hl, fun k hk => ?_, fun zs hz => ?_⟩
  ·obtain ⟨p, _, e⟩ := List.mem_map.mp hk
   rw [<- e]
   exact List.cons_ne_nil _ _
  ·obtain ⟨ys, rfl, hy⟩ := uG hz
   rw [<- wX]
   exact ⟨true, _, rfl, hR ys ⟨hy, qe hy⟩⟩
 ·walk_at "rd"
  exact ⟨x, dE x, k⟩
 ·have ly := hy.2
  have bs : ∀ p ∈ ys, SB p := fun p hp => hb p ((hy.1.2 p).mp hp)
  have hQ := h ys hy.1 hy.2
  have l1 := gF [] ys
  have l2 := gF [] ys.reverse
  simp only [List.length_nil, List.length_reverse] at l1 l2
  unfold bO at hQ
  walk_at "rd"
  rw [List.length_map]
  split
  ·rename_i c
   rw [if_pos (by omega)] at hQ
   exact hQ
  ·rename_i c
   rw [if_neg (by omega)] at hQ
   refine ⟨by omega, bs, ?_⟩
   rw [<- List.map_reverse, jh, iC]
   refine ⟨by rw [List.length_reverse]; omega, fun p hp => bs p (List.mem_reverse.mp hp), true, _, rfl, ?_⟩
   rw [oG, oG]
   refine ⟨?_, ?_⟩
   ·rw [List.length_dropLast, List.length_dropLast, List.length_map, List.length_map, List.length_reverse, List.length_reverse, sizeLine_eq]; omega
   ·rw [<- List.map_dropLast, <- List.map_dropLast, <- List.map_append]; exact hQ
theorem mn {f : Addr} {fd : FuncData} (F : ax K "thin_bounds" "thin_bounds" fT f fd) (C : COk K mg κ) (h_arrow : Has P w K mg base "arrow" 1 ["one", "other"] (eW κ)) (h_back : Has P w K mg base "back" 1 ["way"] (iM κ)) (h_facing : Has P w K mg base "facing" 1 ["place", "way"] (bS κ)) (h_left_of : Has P w K mg base "left_of" 1 ["way"] (gk κ))  : aI P w K mg base (CX1 P w) 2 f fd ["one", "other"] (aM K (fq κ)) := by
 refine ax.okN F fe (fun ds Q E h => by obtain ⟨_, _, rfl, _⟩ := h; rfl) fun cdv A outer s H E hr => ⟨_, (aj (aG 2 fe.nd (kO (az (j4 (by exact hr.units)) (dv 0) (dv 1)) (au h_arrow (hr.mono (by decide)) (ae (dv 0) (ae (dv 1) af))) (bg (ae aa (ae aa af))))) (aj (aG 3 fe.nd (au h_left_of (hr.mono (by decide)) (ae (dv 2) af))) (aq (av (cU (ae (au h_facing (hr.mono (by decide)) (ae (dv 0) (ae (dv 2) af))) (ae (au h_facing (hr.mono (by decide)) (ae (dv 1) (ae (au h_back (hr.mono (by decide)) (ae (dv 2) af)) af))) (ae (au h_facing (hr.mono (by decide)) (ae (dv 0) (ae (dv 3) af))) (ae (au h_facing (hr.mono (by decide)) (ae (dv 0) (ae (au h_back (hr.mono (by decide)) (ae (dv 3) af)) af))) af))))))))), ?_⟩
 rintro ds Q Ed ⟨a, b, rfl, h⟩
 have e0 : aB ["one", "other", "along", "across"] [plS a, plS b] = ([some (.val (plS a)), some (.val (plS b)), none, none] : Ro) := rfl
 rw [e0]; clear e0
 obtain ⟨ha, hb, h⟩ := h
 have o1 : Bd 200 1 := by unfold Bd; decide
 have fc : ∀ (p w : Sp) (K : D -> Prop), SB p -> WB 62 w -> K (trD (cf p w)) -> bS κ [plS p, spD w] K fun _ => False := fun p w K hp hw hK => by
  show bS κ [T3 1 p.1 p.2, spD w] K _
  rw [gI]
  exact ⟨o1, hp.x.mono (by decide), hp.y.mono (by decide), hw.mono (by decide), hK⟩
 have bkB : ∀ {w : Sp}, WB 62 w -> WB 62 (bkW w) := fun hw => ⟨bT hw.x, bT hw.y⟩
 have lfB : ∀ {w : Sp}, WB 62 w -> WB 62 (lfW w) := fun hw => ⟨bT hw.y, hw.x⟩
 have all : ∀ w : Sp, WB 62 w -> Q (.lst true ([cf a w, cf b (bkW w), cf a (lfW w), cf a (bkW (lfW w))].map trD)) -> gk κ [spD w] (fun d_1 => bS κ [plS a, spD w] (fun x => iM κ [spD w] (fun x_1 => bS κ [plS b, aJ x_1] (fun x_2 => bS κ [plS a, aJ d_1] (fun x_3 => iM κ [aJ d_1] (fun x_4 => bS κ [plS a, aJ x_4] (fun x_5 => [x, x_2, x_3, x_5].length <= sizeLine /\ Q (D.lst true [x, x_2, x_3, x_5])) fun _ => False) fun _ => False) fun _ => False) fun _ => False) fun _ => False) fun _ => False) fun _ => False := fun w hw hQ => by
  rw [fM]
  refine fc a w _ ha hw ?_
  rw [gq, dE]
  refine fc b _ _ hb (bkB hw) ?_
  rw [dE]
  refine fc a _ _ ha (lfB hw) ?_
  rw [gq, dE]
  exact fc a _ _ ha (bkB (lfB hw)) ⟨sz4 _ _ _ _, hQ⟩
 unfold dX aN at h
 walk_at "rx"
 refine ⟨(uH a).ok, (uH b).ok, ?_⟩
 by_cases c : a = b
 ·rw [if_pos c] at h
  rw [if_neg (by rw [c, cM]; simp)]
  exact ⟨sz2 _ _, all (1, 0) ⟨by unfold Bd; decide, by unfold Bd; decide⟩ h⟩
 ·rw [if_neg c] at h
  rw [if_pos (by rw [zb]; simpa using c)]
  show eW κ [T3 1 a.1 a.2, T3 1 b.1 b.2] _ _
  rw [fu]
  refine ⟨o1, ha.x.mono (by decide), ha.y.mono (by decide), o1, hb.x.mono (by decide), hb.y.mono (by decide), ?_⟩
  have ab := oY ha hb
  unfold aN at ab
  rw [if_neg c] at ab
  exact all (1 * b.1 - 1 * a.1, 1 * b.2 - 1 * a.2) ab h
theorem ui {f : Addr} {fd : FuncData} (F : ax K "bounds" "bounds" i6 f fd) (C : COk K mg κ) (h_crossed : Has P w K mg base "crossed" 1 ["one", "other"] (gh κ)) (h_thin_bounds : Has P w K mg base "thin_bounds" 2 ["one", "other"] (fq κ)) (z_len : mg "len" = none) (z_range : mg "range" = none) : aI P w K mg base (CX1 P w) 3 f fd ["corners"] (aM K (jY κ)) := by
 refine ax.okN F ue (fun ds Q E h => by obtain ⟨_, rfl, _⟩ := h; rfl) fun cdv A outer s H E hr => ⟨_, (aj (aP (az dm (aE bq (by rfl) z_len boot_len (ae (dv 0) af)) aa) (aq (av (au h_thin_bounds (hr.mono (by decide)) (ae (ak (dv 0) aa) (ae (ak (dv 0) (bM aa)) af))))) aC) (aq (av (dN (by rfl) (by exact bB (osc := ao i6) (xs := ["index"]) (ns := ["corners"]) (by decide +kernel)) (aZ.cons 0 aZ.nil) (cT (by rfl) z_range (ae (aE bq (by rfl) z_len boot_len (ae (dv 0) af)) af)) (fun _ _ _ _ _ => bW) (fun _ _ _ _ _ => (au h_crossed (hr.mono (by decide)) (ae (ak (dv 1) (ai aR (dv 0) aa)) (ae (ak (dv 1) (dv 0)) af)))))))), ?_⟩
 rintro ds Q Ed ⟨hs, rfl, h⟩
 have e0 : aB ["corners"] [.lst false (hs.map plS)] = ([some (.val (.lst false (hs.map plS)))] : Ro) := rfl
 rw [e0]; clear e0
 obtain ⟨h0, hl, hb, h⟩ := h
 unfold aX at h
 have gt : ∀ i, i < hs.length -> hs[i]? = some (hs.getD i (0, 0)) := fun i hi => by
  rw [List.getD_eq_getElem?_getD, List.getElem?_eq_getElem hi]; rfl
 have gm : ∀ i, i < hs.length -> SB (hs.getD i (0, 0)) := fun i hi => hb _ (List.mem_of_getElem? (gt i hi))
 walk_at "rx"
 rw [List.length_map]
 by_cases c : hs.length < 3
 ·rw [if_pos (by omega)]
  rw [if_pos c] at h
  refine ⟨_, bA (j := 0) (by rw [List.getElem?_map, gt 0 h0]; rfl), _, uv (by rw [List.length_map]; exact h0) (by rw [List.length_map, List.getElem?_map, gt _ (by omega)]; rfl), ?_⟩
  rw [cQ, cQ, da]
  exact ⟨gm 0 h0, gm _ (by omega), h⟩
 ·rw [if_neg (by omega)]
  rw [if_neg c] at h
  refine PD.comp_map (List.range' 0 hs.length) (fun (k : Nat) => D.int (k : Int)) (fun _ => true) (fun k => trD (iN (cL hs k) (hs.getD k (0, 0)))) (fun R q => ?_) (by rw [List.length_range', sizeLine_eq]; omega) (fun k hk K hK => ?_) (fun k hk _ K hK => ?_) ?_
  ·walk_at "rd"
   rw [List.length_map, k6]
   exact ⟨⟨by omega, by omega⟩, q⟩
  ·walk_at "rd"
   exact hK
  ·have hk' : k < hs.length := by rw [List.mem_range'_1] at hk; omega
   have m1 : (k + hs.length - 1) % hs.length < hs.length := Nat.mod_lt _ h0
   have at1 : atI (hs.map plS) ((k : Int) - 1) = some (plS (cL hs k)) := by
    have := wq (hs.map plS) k 1 (by rw [List.length_map]; exact hk') (by rw [List.length_map]; exact h0)
    rw [List.length_map, List.getElem?_map, gt _ m1] at this
    exact this
   have at0 : atI (hs.map plS) (k : Int) = some (plS (hs.getD k (0, 0))) := bA (by rw [List.getElem?_map, gt k hk']; rfl)
   have B1 : SB (cL hs k) := gm _ m1
   have B0 := gm k hk'
   have o1 : Bd 200 1 := by unfold Bd; decide
   walk_at "rx"
   refine ⟨_, at1, _, at0, ?_⟩
   rw [cQ, cQ]
   show gh κ [T3 1 (cL hs k).1 (cL hs k).2, T3 1 (hs.getD k (0, 0)).1 (hs.getD k (0, 0)).2] _ _
   rw [fR]
   exact ⟨o1, B1.x.mono (by decide), B1.y.mono (by decide), o1, B0.x.mono (by decide), B0.y.mono (by decide), hK⟩
  ·rw [List.filter_eq_self.mpr (fun _ _ => rfl)]
   rw [List.map_map] at h
   exact h
theorem uf {f : Addr} {fd : FuncData} (F : ax K "length" "length" lx f fd) (C : COk K mg κ)  (z_abs : mg "abs" = none) : aI P w K mg base (CX1 P w) 1 f fd ["way"] (aM K (ib κ)) := by
 refine ax.okN F uO (fun ds Q E h => by obtain ⟨_, rfl, _⟩ := h; rfl) fun cdv A outer s H E hr => ⟨_, (aq (av (ai aK (aE lL (by rfl) z_abs boot_abs (ae (ak (dv 0) aa) af)) (aE lL (by rfl) z_abs boot_abs (ae (ak (dv 0) aa) af))))), ?_⟩
 rintro ds Q Ed ⟨w, rfl, h⟩
 have e0 : aB ["way"] [spD w] = ([some (.val (spD w))] : Ro) := rfl
 rw [e0]; clear e0
 unfold spD
 walk_at "rd"
 exact h
theorem lW {f : Addr} {fd : FuncData} (F : ax K "are_opposite" "are_opposite" fi f fd) (C : COk K mg κ) (h_turn : Has P w K mg base "turn" 1 ["one", "other"] (kl κ))  : aI P w K mg base (CX1 P w) 2 f fd ["one", "other"] (aM K (eP κ)) := by
 refine ax.okN F lP (fun ds Q E h => by obtain ⟨_, _, rfl, _⟩ := h; rfl) fun cdv A outer s H E hr => ⟨_, (aq (av (tY (jQ bU (au h_turn (hr.mono (by decide)) (ae (dv 0) (ae (dv 1) af))) aa) (oM (jQ dm (ai aK (ai aA (ak (dv 0) aa) (ak (dv 1) aa)) (ai aA (ak (dv 0) aa) (ak (dv 1) aa))) aa))))), ?_⟩
 rintro ds Q Ed ⟨a, b, rfl, h⟩
 have e0 : aB ["one", "other"] [spD a, spD b] = ([some (.val (spD a)), some (.val (spD b))] : Ro) := rfl
 rw [e0]; clear e0
 obtain ⟨ha, hb, h⟩ := h
 walk_at "rx"
 refine ⟨ha, hb, ?_⟩
 by_cases c : tn a b = 0
 ·rw [if_pos c]
  unfold spD
  walk_at "rd"
  refine ⟨cmB ha.x hb.x, cmB ha.y hb.y, ?_⟩
  have e : decide (tn a b = 0 /\ dt2 a b < 0) = decide (a.1 * b.1 + a.2 * b.2 < 0) := by
   rw [decide_eq_decide]
   exact ⟨fun q => q.2, fun q => ⟨c, q⟩⟩
  rw [e] at h
  exact h
 ·rw [if_neg c]
  rw [decide_eq_false (fun q => c q.1)] at h
  exact h
theorem kv {f : Addr} {fd : FuncData} (F : ax K "balance_of_two" "balance_of_two" dJ f fd) (C : COk K mg κ) (h_are_opposite : Has P w K mg base "are_opposite" 2 ["one", "other"] (eP κ)) (h_length : Has P w K mg base "length" 1 ["way"] (ib κ)) (h_lowest : Has P w K mg base "lowest" 2 ["numbers"] (dP κ))  : aI P w K mg base (CX1 P w) 3 f fd ["one", "other"] (aM K (c9 κ)) := by
 refine ax.okN F ky (fun ds Q E h => by obtain ⟨_, _, rfl, _⟩ := h; rfl) fun cdv A outer s H E hr => ⟨_, (aj (aP (dW (eN (au h_are_opposite (hr.mono (by decide)) (ae (dv 0) (ae (dv 1) af))))) (aq (av gJ)) aC) (aq (av (au h_lowest (hr.mono (by decide)) (ae (cU (ae (au h_length (hr.mono (by decide)) (ae (dv 1) af)) (ae (au h_length (hr.mono (by decide)) (ae (dv 0) af)) af))) af))))), ?_⟩
 rintro ds Q Ed ⟨a, b, rfl, h⟩
 have e0 : aB ["one", "other"] [spD a, spD b] = ([some (.val (spD a)), some (.val (spD b))] : Ro) := rfl
 rw [e0]; clear e0
 obtain ⟨ha, hb, h⟩ := h
 walk_at "rx"
 refine ⟨ha, hb, ?_⟩
 unfold gN at h
 split
 ·rename_i c
  rw [if_pos c] at h
  have na : a ≠ (0, 0) := fun e => by have := c.2; rw [e] at this; unfold dt2 at this; simp at this
  have la := gW na
  have ba : Bd 402 (aS a) := ka ha
  have bb : Bd 402 (aS b) := ka hb
  refine ⟨sz2 _ _, ?_⟩
  show dP κ [D.lst false ([aS b, aS a].map D.int)] _ _
  rw [dU]
  have g := xx (d := aS b) (x := aS a) (by omega)
  exact ⟨by simp, by show ((Int.gcd ((Int.gcd 0 (aS b) : Nat) : Int) (aS a) : Nat) : Int) ≠ 0; omega, vJ ba (by omega), h⟩
 ·rename_i c
  rw [if_neg c] at h
  exact h
theorem jC {f : Addr} {fd : FuncData} (F : ax K "balance_of_three" "balance_of_three" bZ f fd) (C : COk K mg κ) (h_lowest : Has P w K mg base "lowest" 2 ["numbers"] (dP κ)) (h_turn : Has P w K mg base "turn" 1 ["one", "other"] (kl κ)) (z_max : mg "max" = none) (z_min : mg "min" = none) : aI P w K mg base (CX1 P w) 3 f fd ["one", "two", "three"] (aM K (cI κ)) := by
 refine ax.okN F cH (fun ds Q E h => by obtain ⟨_, _, _, rfl, _⟩ := h; rfl) fun cdv A outer s H E hr => ⟨_, (aj (aG 3 cH.nd (cU (ae (au h_turn (hr.mono (by decide)) (ae (dv 1) (ae (dv 2) af))) (ae (au h_turn (hr.mono (by decide)) (ae (dv 2) (ae (dv 0) af))) (ae (au h_turn (hr.mono (by decide)) (ae (dv 0) (ae (dv 1) af))) af))))) (aj (aP (az dm (aE (qL rfl) (by rfl) z_max boot_max (ae (dv 3) af)) aa) (aq (eE 3 cH.nd (by rfl) (by exact bB (osc := ao bZ) (xs := ["each"]) (ns := []) (by decide +kernel)) aZ.nil (bu (dv 3)) (fun _ _ _ _ _ => bW) (fun _ _ _ _ _ => (bM (dv 0))))) aC) (aj (aP (az wU (aE (mh rfl) (by rfl) z_min boot_min (ae (dv 3) af)) aa) (aq (av gJ)) aC) (aq (av (au h_lowest (hr.mono (by decide)) (ae (dv 3) af))))))), ?_⟩
 rintro ds Q Ed ⟨a, b, e, rfl, h⟩
 have e0 : aB ["one", "two", "three", "turns"] [spD a, spD b, spD e] = ([some (.val (spD a)), some (.val (spD b)), some (.val (spD e)), none] : Ro) := rfl
 rw [e0]; clear e0
 obtain ⟨ha, hb, he, h⟩ := h
 have b1 : Bd 801 (tn b e) := (hb.x.mul he.y).sub (he.x.mul hb.y)
 have b2 : Bd 801 (tn e a) := (he.x.mul ha.y).sub (ha.x.mul he.y)
 have b3 : Bd 801 (tn a b) := (ha.x.mul hb.y).sub (hb.x.mul ha.y)
 unfold gM at h
 generalize e1 : tn b e = x at *
 generalize e2 : tn e a = y at *
 generalize e3 : tn a b = z at *
 have low : ∀ u v w : Int, Bd 801 w -> 0 < w -> Q (.lst true ((b6 [u, v, w]).map D.int)) -> dP κ [D.lst false ([u, v, w].map D.int)] Q fun _ => False := fun u v w bw pw q => by
  rw [dU]
  have hne : w ≠ 0 := by omega
  have gp : 0 < Int.gcd ((Int.gcd ((Int.gcd 0 u : Nat) : Int) v : Nat) : Int) w := Int.gcd_pos_iff.mpr (.inr hne)
  exact ⟨by simp, by show ((Int.gcd ((Int.gcd ((Int.gcd 0 u : Nat) : Int) v : Nat) : Int) w : Nat) : Int) ≠ 0; omega, (uU bw hne).mono (by decide), q⟩
 walk_at "rx"
 refine ⟨hb, he, he, ha, ha, hb, ?_⟩
 rw [e1, e2, e3]
 refine ⟨sz3 _ _ _, .inr ⟨true, [x, y, z], rfl, by simp, fun m hm hmx => ?_⟩⟩
 have m1 := hmx x (by simp)
 have m2 := hmx y (by simp)
 have m3 := hmx z (by simp)
 have mm : m = x ∨ m = y ∨ m = z := by simpa using hm
 split
 ·rename_i c
  refine PD.comp_map [x, y, z] D.int (fun _ => true) (fun k => .int (-k)) (fun R q => ?_) (by rw [sizeLine_eq]; simp) (fun k hk K hK => ?_) (fun k hk _ K hK => ?_) ?_
  ·walk_at "rd"
   exact q
  ·walk_at "rd"
   exact hK
  ·walk_at "rd"
   exact hK
  ·refine ⟨true, [-x, -y, -z], rfl, by simp, fun n hn hmn => ?_⟩
   have nn : n = -x ∨ n = -y ∨ n = -z := by simpa using hn
   rw [if_neg (by omega)] at h ⊢
   rw [if_pos (by omega)] at h
   exact low _ _ _ (bT b3) (by omega) h
 ·rename_i c
  refine ⟨true, [x, y, z], rfl, by simp, fun n hn hmn => ?_⟩
  have nn : n = x ∨ n = y ∨ n = z := by simpa using hn
  have n1 := hmn x (by simp)
  have n2 := hmn y (by simp)
  have n3 := hmn z (by simp)
  split
  ·rename_i d
   rw [if_neg (by omega), if_neg (by omega)] at h
   exact h
  ·rename_i d
   rw [if_pos (by omega)] at h
   exact low _ _ _ b3 (by omega) h
theorem si {f : Addr} {fd : FuncData} (F : ax K "balance" "balance" jT f fd) (C : COk K mg κ) (h_balance_of_three : Has P w K mg base "balance_of_three" 3 ["one", "two", "three"] (cI κ)) (h_balance_of_two : Has P w K mg base "balance_of_two" 3 ["one", "other"] (c9 κ)) (h_length : Has P w K mg base "length" 1 ["way"] (ib κ)) (z_len : mg "len" = none) : aI P w K mg base (CX1 P w) 4 f fd ["ways"] (aM K (jg κ)) := by
 refine ax.okN F sJ (fun ds Q E h => by obtain ⟨_, rfl, _⟩ := h; rfl) fun cdv A outer s H E hr => ⟨_, (aj (aP (az bU (aE bq (by rfl) z_len boot_len (ae (dv 0) af)) aa) (aq (av (kO (az bU (au h_length (hr.mono (by decide)) (ae (ak (dv 0) aa) af)) aa) (cU (ae aa af)) gJ))) aC) (aj (aP (az bU (aE bq (by rfl) z_len boot_len (ae (dv 0) af)) aa) (aq (av (au h_balance_of_two (hr.mono (by decide)) (ae (ak (dv 0) aa) (ae (ak (dv 0) aa) af))))) aC) (aq (av (au h_balance_of_three (hr.mono (by decide)) (ae (ak (dv 0) aa) (ae (ak (dv 0) aa) (ae (ak (dv 0) aa) af)))))))), ?_⟩
 rintro ds Q Ed ⟨ws, rfl, h⟩
 have e0 : aB ["ways"] [.lst false (ws.map spD)] = ([some (.val (.lst false (ws.map spD)))] : Ro) := rfl
 rw [e0]; clear e0
 obtain ⟨h0, h3, hw, h⟩ := h
 rcases ws with _ | ⟨a, _ | ⟨b, _ | ⟨e, _ | ⟨z, r⟩⟩⟩⟩
 ·simp at h0
 ·have h' : Q (oL (jj a)) := h
  unfold jj at h'
  walk_at "rx"
  rw [if_pos (by simp)]
  by_cases c : aS a = 0
  ·rw [if_pos c] at h' ⊢
   exact ⟨sz1 _, h'⟩
  ·rw [if_neg c] at h' ⊢
   exact h'
 ·have h' : Q (oL (gN a b)) := h
  have a0 : atI [spD a, spD b] 0 = some (spD a) := bA (j := 0) rfl
  have a1 : atI [spD a, spD b] 1 = some (spD b) := bA (j := 1) rfl
  walk_at "rx"
  rw [if_neg (by simp), if_pos (by simp)]
  exact ⟨hw a (by simp), hw b (by simp), h'⟩
 ·have h' : Q (oL (gM a b e)) := h
  walk_at "rx"
  rw [if_neg (by simp), if_neg (by simp)]
  exact ⟨hw a (by simp), hw b (by simp), hw e (by simp), h'⟩
 ·simp at h3
  omega
theorem qb {f : Addr} {fd : FuncData} (F : ax K "_law_whole" "_law_whole" iu f fd) (C : COk K mg κ)  (z_bool : mg "bool" = none) (z_int : mg "int" = none) (z_isinstance : mg "isinstance" = none) : aI P w K mg base (CX1 P w) 1 f fd ["_law_found"] (aM K (d9 κ)) := by
 refine ax.okN F qk (fun ds Q E h => by obtain ⟨_, rfl, _⟩ := h; rfl) fun cdv A outer s H E hr => ⟨_, (aq (av (tY (dM (by rfl) z_isinstance (by rfl) z_int boot_int (.inl rfl) (dv 0)) (oM (yS (dM (by rfl) z_isinstance (by rfl) z_bool boot_bool (.inr (.inl rfl)) (dv 0))))))), ?_⟩
 rintro ds Q Ed ⟨a, rfl, h⟩
 have e0 : aB ["_law_found"] [.int a] = ([some (.val (.int a))] : Ro) := rfl
 rw [e0]; clear e0
 walk_at "rd"
 exact h
theorem mf {f : Addr} {fd : FuncData} (F : ax K "_law_divisor" "_law_divisor" fO f fd) (C : COk K mg κ)  (z_abs : mg "abs" = none) : aI P w K mg base (CX1 P w) 1 f fd ["_law_one", "_law_other"] (aM K (cZ κ)) := by
 refine ax.okN F iP (fun ds Q E h => by obtain ⟨_, _, rfl, _⟩ := h; rfl) fun cdv A outer s H E hr => ⟨_, (aj (kQ PassesOwn.never (az gG (dv 1) aa) (aq (zj 0 1 rfl iP.nd (by decide) (ae (dv 1) (ae (ai aH (dv 0) (dv 1)) af))))) (aq (av (aE lL (by rfl) z_abs boot_abs (ae (dv 0) af))))), ?_⟩
 rintro ds Q Ed ⟨a, b, rfl, h⟩
 have e0 : aB ["_law_one", "_law_other"] [.int a, .int b] = ([some (.val (.int a)), some (.val (.int b))] : Ro) := rfl
 rw [e0]; clear e0
 walk_at "rx"
 refine ⟨fun m ρ => ∃ (x y : Int), ρ = [some (.val (.int x)), some (.val (.int y))] /\ Int.gcd x y = Int.gcd a b /\ m = y.natAbs, ⟨_, _, _, rfl, rfl, rfl⟩, ?_⟩
 rintro m ρ ⟨x, y, rfl, hg, rfl⟩
 walk_at "rd"
 by_cases hy : y = 0
 ·subst hy
  rw [PM.nI] at hg
  rw [if_pos rfl, hg]
  exact h
 ·rw [if_neg hy]
  refine ⟨hy, ?_⟩
  exact ⟨_, PM.nG x hy, y, x.fmod y, rfl, (PM.pB x y).trans hg, rfl⟩
theorem o8 {f : Addr} {fd : FuncData} (F : ax K "_law_value" "_law_value" iD f fd) (C : COk K mg κ)   : aI P w K mg base (CX1 P w) 1 f fd ["_law_gauge", "_law_point"] (aM K (gR κ)) := by
 refine ax.okN F oI (fun ds Q E h => by obtain ⟨_, _, _, _, _, _, rfl, _⟩ := h; rfl) fun cdv A outer s H E hr => ⟨_, (aq (av (ai aK (ai aK (ai aA (ak (dv 0) aa) (ak (dv 1) aa)) (ai aA (ak (dv 0) aa) (ak (dv 1) aa))) (ai aA (ak (dv 0) aa) (ak (dv 1) aa))))), ?_⟩
 rintro ds Q Ed ⟨g0, g1, g2, p0, p1, p2, rfl, h⟩
 have e0 : aB ["_law_gauge", "_law_point"] [T3 g0 g1 g2, T3 p0 p1 p2] = ([some (.val (T3 g0 g1 g2)), some (.val (T3 p0 p1 p2))] : Ro) := rfl
 rw [e0]; clear e0
 obtain ⟨h0, h1, h2, k0, k1, k2, h⟩ := h
 have cm : ∀ {x y : Int}, Bd 1000 x -> Bd 1000 y -> CM x y := fun hx hy => .inr (.inr ⟨hx.mono (by decide), hy.mono (by decide)⟩)
 walk_at "rd"
 exact ⟨cm h0 k0, cm h1 k1, cm h2 k2, h⟩
theorem mP {f : Addr} {fd : FuncData} (F : ax K "_law_cell_at" "_law_cell_at" fP f fd) (C : COk K mg κ)  (z_len : mg "len" = none) : aI P w K mg base (CX1 P w) 1 f fd ["_law_script", "_law_k"] (aM K (fb κ)) := by
 refine ax.okN F my (fun ds Q E h => by obtain ⟨_, _, rfl, _⟩ := h; rfl) fun cdv A outer s H E hr => ⟨_, (aj (aP (az dm (dv 1) (aE bq (by rfl) z_len boot_len (ae (dv 0) af))) (aq (av (ak (dv 0) (dv 1)))) aC) (aq (av aa))), ?_⟩
 rintro ds Q Ed ⟨ns, k, rfl, h⟩
 have e0 : aB ["_law_script", "_law_k"] [.lst false (ns.map D.int), .int k] = ([some (.val (.lst false (ns.map D.int))), some (.val (.int k))] : Ro) := rfl
 rw [e0]; clear e0
 obtain ⟨hk, hn, h⟩ := h
 walk_at "rd"
 rw [List.length_map]
 by_cases hl : k < ns.length
 ·rw [if_pos hl]
  exact ⟨_, wL hk hl, h⟩
 ·rw [if_neg hl]
  rw [List.getD_eq_getElem?_getD, List.getElem?_eq_none (by omega)] at h
  exact h
theorem k9 {f : Addr} {fd : FuncData} (F : ax K "parting_gauge" "parting_gauge" cK f fd) (C : COk K mg κ) (h_bounds : Has P w K mg base "bounds" 3 ["corners"] (jY κ)) (h_hull : Has P w K mg base "hull" 3 ["spots"] (mE κ)) (h_side : Has P w K mg base "side" 2 ["gauge", "place"] (j6 κ))  : aI P w K mg base (CX1 P w) 4 f fd ["spots", "place"] (aM K (dH κ)) := by
 refine ax.okN F lD (fun ds Q E h => by obtain ⟨_, _, _, _, rfl, _⟩ := h; rfl) fun cdv A outer s H E hr => ⟨_, (aq (av (ak (dN (by rfl) (by exact bB (osc := ao cK) (xs := ["gauge"]) (ns := ["place"]) (by decide +kernel)) (aZ.cons 1 aZ.nil) (bu (au h_bounds (hr.mono (by decide)) (ae (au h_hull (hr.mono (by decide)) (ae (dv 0) af)) af))) (fun _ _ _ _ _ => (zZ (az dm (au h_side (hr.mono (by decide)) (ae (dv 0) (ae (dv 1) af))) aa))) (fun _ _ _ _ _ => (dv 0))) aa))), ?_⟩
 rintro ds Q Ed ⟨ps, h0, h1, h2, rfl, h⟩
 have e0 : aB ["spots", "place"] [.lst false (ps.map spD), T3 h0 h1 h2] = ([some (.val (.lst false (ps.map spD))), some (.val (T3 h0 h1 h2))] : Ro) := rfl
 rw [e0]; clear e0
 obtain ⟨hz, hl, hb, hP, hex, h⟩ := h
 walk_at "rx"
 refine uh (P := fun gs : List Tr => ∃ ys, cg ys ps /\ gs = aX (bO ys) /\ gs.length < 1000 /\ ∀ g ∈ gs, GB g) trD (fun g => decide (gvS g (h0, h1, h2) < 0)) trD (fun R hR => ?_) (fun gs hg => by obtain ⟨_, _, _, q, _⟩ := hg; rw [sizeLine_eq]; omega) (fun gs hg g hm K hK => ?_) (fun gs hg g hm K hK => ?_) fun gs hg => ?_
 ·walk_at "rx"
  refine ⟨hl, hb, fun ys hy hyl => ?_⟩
  have g := ig hy
  have hh := g.len
  have sb : ∀ p ∈ bO ys, SB p := fun p hp => hb p (g.mem p hp)
  have l0 : 0 < (bO ys).length := by
   obtain ⟨a, r, e, _⟩ := g.some_ (List.ne_nil_of_length_pos hz)
   rw [e]; simp
  have bl := sk (bO ys)
  exact ⟨l0, by omega, sb, hR _ ⟨ys, hy, rfl, by omega, fun q hq => nj l0 sb hq⟩⟩
 ·obtain ⟨ys, hy, e, _, hB⟩ := hg
  have B := hB g hm
  walk_at "rx"
  show j6 κ [T3 g.1 g.2.1 g.2.2, T3 h0 h1 h2] _ _
  rw [ja]
  refine ⟨B.a.mono (by decide), B.b.mono (by decide), B.c.mono (by decide), hP.b.mono (by decide), hP.x.mono (by decide), hP.y.mono (by decide), ?_⟩
  rw [je]
  refine ⟨_, rfl, ?_⟩
  have e2 : decide (sg (g.1 * h0 + g.2.1 * h1 + g.2.2 * h2) < 0) = decide (gvS g (h0, h1, h2) < 0) := by
   rw [decide_eq_decide]
   show _ ↔ g.1 * h0 + g.2.1 * h1 + g.2.2 * h2 < 0
   unfold sg
   split
   ·omega
   ·split <;> omega
  rw [e2]
  exact hK
 ·walk_at "rx"
  exact hK
 ·obtain ⟨ys, hy, e, _, hB⟩ := hg
  obtain ⟨g, hgm, hneg⟩ := hex ys hy
  rw [<- e] at hgm
  have hf : g ∈ gs.filter fun g => decide (gvS g (h0, h1, h2) < 0) := List.mem_filter.mpr ⟨hgm, decide_eq_true hneg⟩
  cases hF : gs.filter fun g => decide (gvS g (h0, h1, h2) < 0) with
  | nil => rw [hF] at hf; cases hf
  | cons x r =>
   have hx := List.mem_filter.mp (show x ∈ gs.filter fun g => decide (gvS g (h0, h1, h2) < 0) by rw [hF]; simp)
   walk_at "rx"
   exact h ys x hy (by rw [<- e, <- List.head?_filter, hF]; rfl) (by rw [<- e]; exact hx.1) (of_decide_eq_true hx.2)
theorem rV {f : Addr} {fd : FuncData} (F : ax K "mixture" "mixture" fF f fd) (C : COk K mg κ) (h_arrow : Has P w K mg base "arrow" 1 ["one", "other"] (eW κ)) (h_balance : Has P w K mg base "balance" 4 ["ways"] (jg κ)) (h_parting_gauge : Has P w K mg base "parting_gauge" 4 ["spots", "place"] (dH κ)) (h_picks : Has P w K mg base "picks" 1 ["count", "size"] (kY κ)) (h_place_of : Has P w K mg base "place_of" 1 ["spot"] (ft κ)) (z_len : mg "len" = none) : aI P w K mg base (CX1 P w) 5 f fd ["spots", "place"] (aM K (eR κ)) := by
 refine ax.okN F eK (fun ds Q E h => by obtain ⟨_, _, _, _, rfl, _⟩ := h; rfl) fun cdv A outer s H E hr => ⟨_, (aj (aP (az bU (aE bq (by rfl) z_len boot_len (ae (dv 0) af)) aa) (aq wH) aC) (aj (aG 2 eK.nd (dN (by rfl) (by exact bB (osc := ao fF) (xs := ["spot"]) (ns := ["place"]) (by decide +kernel)) (aZ.cons 1 aZ.nil) (bu (dv 0)) (fun _ _ _ _ _ => bW) (fun _ _ _ _ _ => (au h_arrow (hr.mono (by decide)) (ae (dv 1) (ae (au h_place_of (hr.mono (by decide)) (ae (dv 0) af)) af)))))) (aj (cw PassesOwn.never rfl (qf (bg (ae aa (ae aa (ae aa af))))) (bz 3 eK.nd) (aq (cw PassesOwn.never rfl (bu (au h_picks (hr.mono (by decide)) (ae (aE bq (by rfl) z_len boot_len (ae (dv 0) af)) (ae (dv 3) af)))) (bz 4 eK.nd) (aj (aG 5 eK.nd (au h_balance (hr.mono (by decide)) (ae (dN (by rfl) (by exact bB (osc := ao fF) (xs := ["number"]) (ns := ["ways"]) (by decide +kernel)) (aZ.cons 2 aZ.nil) (bu (dv 4)) (fun _ _ _ _ _ => bW) (fun _ _ _ _ _ => (ak (dv 1) (dv 0)))) af))) (aq (aP (az ya (dv 5) gJ) (aq (av (bg (ae iY (ae (dv 4) (ae (dv 5) af)))))) aC)))))) (aq (av (bg (ae iY (ae (au h_parting_gauge (hr.mono (by decide)) (ae (dv 0) (ae (dv 1) af))) af)))))))), ?_⟩
 rintro ds Q Ed ⟨ps, h0, h1, h2, rfl, h⟩
 have e0 : aB ["spots", "place", "ways", "size", "numbers", "shares"] [.lst false (ps.map spD), T3 h0 h1 h2] = ([some (.val (.lst false (ps.map spD))), some (.val (T3 h0 h1 h2)), none, none, none, none] : Ro) := rfl
 rw [e0]; clear e0
 obtain ⟨hz, hl, hb, hP, h⟩ := h
 have o1 : Bd 200 1 := by unfold Bd; decide
 have hmx : bH (ps.map (arS (h0, h1, h2))) (cc ps.length) = bH (ps.map (arS (h0, h1, h2))) (mF ps.length 0) := by rw [wt]
 unfold ip at h
 have wB : ∀ w ∈ ps.map (arS (h0, h1, h2)), WB 400 w := fun w hw => by
  obtain ⟨p, hp, rfl⟩ := List.mem_map.mp hw
  have B := hb p hp
  refine ⟨?_, ?_⟩
  ·show Bd 400 (h0 * p.1 - 1 * h1); rw [Int.one_mul]; exact Bd.mono (m := 121) ((hP.b.mul B.x).sub hP.x) (by decide)
  ·show Bd 400 (h0 * p.2 - 1 * h2); rw [Int.one_mul]; exact Bd.mono (m := 121) ((hP.b.mul B.y).sub hP.y) (by decide)
 walk_at "rx"
 rw [List.length_map, if_neg (by omega)]
 refine PD.comp_map ps spD (fun _ => true) (fun p => spD (arS (h0, h1, h2) p)) (fun R q => ?_) (by rw [sizeLine_eq]; omega) (fun p hp K hK => ?_) (fun p hp _ K hK => ?_) ?_
 ·walk_at "rd"
  exact q
 ·walk_at "rd"
  exact hK
 ·have B := hb p hp
  walk_at "rx"
  refine ⟨p, rfl, ?_⟩
  show eW κ [T3 h0 h1 h2, T3 1 p.1 p.2] _ _
  rw [fu]
  exact ⟨hP.b.mono (by decide), hP.x.mono (by decide), hP.y.mono (by decide), o1, B.x.mono (by decide), B.y.mono (by decide), hK⟩
 rw [List.filter_eq_self.mpr (fun _ _ => rfl)]
 have em : ps.map (fun p => spD (arS (h0, h1, h2) p)) = (ps.map (arS (h0, h1, h2))).map spD := by rw [List.map_map]; rfl
 rw [em]
 have wl : (ps.map (arS (h0, h1, h2))).length = ps.length := List.length_map _
 have hov : bH (ps.map (arS (h0, h1, h2))) (cc ps.length) = none -> ∀ ys, cg ys ps -> ∃ g ∈ aX (bO ys), gvS g (h0, h1, h2) < 0 := fun e ys hy => by
  refine Classical.byContradiction fun hn => ?_
  refine qi (mV (ig hy) (List.ne_nil_of_length_pos hz) hP.b0 fun b hb' => ?_) e
  by_cases c : 0 <= gvS b (h0, h1, h2)
  ·exact c
  ·exact absurd ⟨b, hb', by omega⟩ hn
 generalize ps.map (arS (h0, h1, h2)) = ws at *
 refine PD.bN [1, 2, 3] (fun (k : Nat) => D.int (k : Int)) (fun j ρ => ∃ v3 v4 v5 : Option Sl, ρ = [some (.val (.lst false (ps.map spD))), some (.val (T3 h0 h1 h2)), some (.val (.lst true (ws.map spD))), v3, v4, v5] /\ bH ws (cc ps.length) = bH ws (mF ps.length j)) (fun R q => ?_) ⟨none, none, none, rfl, hmx⟩ ?_ ?_
 ·walk_at "rd"
  exact ⟨sz3 _ _ _, q⟩
 ·rintro j s ρ' hj ⟨v3, v4, v5, rfl, hm⟩
  have hj3 : j < 3 /\ s = j + 1 := by
   rcases j with _ | _ | _ | j
   ·simp at hj; omega
   ·simp at hj; omega
   ·simp at hj; omega
   ·simp at hj
  obtain ⟨hj3, rfl⟩ := hj3
  rw [uB _ hj3] at hm
  walk_at "rx"
  refine PD.bN (lev ps.length (j + 1)) pkD (fun i ρ => ∃ v4 v5 : Option Sl, ρ = [some (.val (.lst false (ps.map spD))), some (.val (T3 h0 h1 h2)), some (.val (.lst true (ws.map spD))), some (.val (.int ((j + 1 : Nat) : Int))), v4, v5] /\ bH ws (cc ps.length) = bH ws ((lev ps.length (j + 1)).drop i ++ mF ps.length (j + 1))) (fun R q => ?_) ⟨v4, v5, rfl, hm⟩ ?_ ?_
  ·walk_at "rx"
   exact ⟨ps.length, j + 1, by rw [List.length_map], rfl, by omega, by omega, q⟩
  ·rintro i pk ρ' hi ⟨v4, v5, rfl, hm⟩
   obtain ⟨hi', ei⟩ := List.getElem?_eq_some_iff.mp hi
   rw [List.drop_eq_getElem_cons hi', ei, List.cons_append, uq] at hm
   obtain ⟨pl, pb⟩ := kf (List.mem_of_getElem? hi)
   have gt : ∀ k, k < ws.length -> ws[k]? = some (ws.getD k (0, 0)) := fun k hk => by
    rw [List.getD_eq_getElem?_getD, List.getElem?_eq_getElem hk]; rfl
   walk_at "rx"
   refine PD.comp_map pk (fun (k : Nat) => D.int (k : Int)) (fun _ => true) (fun k => spD (ws.getD k (0, 0))) (fun R q => ?_) (by rw [sizeLine_eq]; omega) (fun k hk K hK => ?_) (fun k hk _ K hK => ?_) ?_
   ·unfold pkD
    walk_at "rd"
    exact q
   ·walk_at "rd"
    exact hK
   ·walk_at "rd"
    exact ⟨_, bA (by rw [List.getElem?_map, gt k (by have := pb k hk; omega)]; rfl), hK⟩
   rw [List.filter_eq_self.mpr (fun _ _ => rfl)]
   have ep : pk.map (fun k => spD (ws.getD k (0, 0))) = (pkW ws pk).map spD := by unfold pkW; rw [List.map_map]; rfl
   have lp : (pkW ws pk).length = j + 1 := by unfold pkW; rw [List.length_map, pl]
   rw [ep, bj, eU, fV]
   refine ⟨by omega, by omega, fun w hw => ?_, ?_⟩
   ·unfold pkW at hw
    obtain ⟨k, hk, rfl⟩ := List.mem_map.mp hw
    exact wB _ (List.mem_of_getElem? (gt k (by have := pb k hk; omega)))
   ·cases hb2 : fQ (pkW ws pk) with
    | none =>
     rw [hb2] at hm
     rw [if_neg (show ¬ eO (oL none) = false by decide)]
     exact ⟨_, _, rfl, hm⟩
    | some sh =>
     rw [hb2] at hm
     have hm' : bH ws (cc ps.length) = some (pk, sh) := hm
     rw [hm'] at h
     rw [if_pos (show eO (oL (some sh)) = false from rfl)]
     exact ⟨sz3 _ _ _, h⟩
  ·rintro ρ' ⟨v4, v5, rfl, hm⟩
   rw [List.drop_length, List.nil_append] at hm
   exact ⟨_, _, _, rfl, hm⟩
 ·rintro ρ' ⟨v3, v4, v5, rfl, hm⟩
  have hm' : bH ws (cc ps.length) = none := hm
  rw [hm'] at h
  have h' : ∀ g : Tr, j7 ps (h0, h1, h2) g -> (∀ p ∈ ps, 0 <= gvS g (1, p.1, p.2)) -> gvS g (h0, h1, h2) < 0 -> Bd 300 g.1 -> Bd 300 g.2.1 -> Bd 300 g.2.2 -> Q (.tup [.str "out", trD g]) := h
  walk_at "rx"
  refine ⟨hz, by omega, hb, hP, hov hm', fun ys g hy hf hg hneg => ⟨sz2 _ _, ?_⟩⟩
  have gd := ig hy
  have ne := List.ne_nil_of_length_pos hz
  have l0 : 0 < (bO ys).length := by
   obtain ⟨a, r, e, _⟩ := gd.some_ ne
   rw [e]; simp
  have B := nj l0 (fun p hp => hb p (gd.mem p hp)) hg
  exact h' g ⟨ys, hy, hf⟩ (fun p hp => kA gd ne hg hp) hneg (B.a.mono (by decide)) (B.b.mono (by decide)) (B.c.mono (by decide))
theorem nV {f : Addr} {fd : FuncData} (F : ax K "_law_stream" "_law_stream" gP f fd) (C : COk K mg κ)  (z_range : mg "range" = none) : aI P w K mg base (CX1 P w) 1 f fd ["_law_cell", "_law_many"] (aM K (du κ)) := by
 refine ax.okN F aU (fun ds Q E h => by obtain ⟨_, _, rfl, _⟩ := h; rfl) fun cdv A outer s H E hr => ⟨_, (aj (lK 2 aU.nd af) (aj (aG 3 aU.nd (dv 0)) (aj (cw PassesOwn.never rfl (cT (by rfl) z_range (ae (dv 1) af)) (bz 4 aU.nd) (aj (jS 2 (ai aH (dv 3) aa)) (aq (aG 3 aU.nd (ai bo (dv 3) aa))))) (aj (aP (az jb (dv 3) aa) (fZ 2 (aq (av (dv 2)))) aC) (aj (lK 2 aU.nd af) (aj (aG 5 aU.nd (ai aK (ai aH (dv 0) aa) aa)) (aj (aG 6 aU.nd (ai aK (ai aH (ai bo (dv 0) aa) aa) aa)) (aj (cw PassesOwn.never rfl (cT (by rfl) z_range (ae (dv 1) af)) (bz 4 aU.nd) (aj (aG 5 aU.nd (ai aH (ai aK (ai aK (ai aA (dv 5) aa) (ai aA (dv 4) (dv 4))) aa) aa)) (aj (aG 6 aU.nd (ai aH (ai aK (ai aA (dv 6) aa) (dv 5)) aa)) (aq (jS 2 (ai bo (dv 6) aa)))))) (fZ 2 (aq (av (dv 2)))))))))))), ?_⟩
 rintro ds Q Ed ⟨c, m, rfl, h⟩
 have e0 : aB ["_law_cell", "_law_many", "_law_found", "_law_rest", "_law_k", "_law_number", "_law_other"] [.int c, .int m] = ([some (.val (.int c)), some (.val (.int m)), none, none, none, none, none] : Ro) := rfl
 rw [e0]; clear e0
 obtain ⟨h0, h1, h⟩ := h
 obtain ⟨n, rfl⟩ : ∃ n : Nat, m = n := ⟨m.toNat, by omega⟩
 rw [show ((n : Int)).toNat = n from Int.toNat_natCast n] at h
 unfold cn at h
 walk_at "rx"
 refine ⟨Nat.zero_le _, ?_⟩
 refine PD.bN (List.range' 0 n) (fun (k : Nat) => D.int (k : Int)) (fun j ρ => ∃ (xs : List Int) (r : Int) (v : Option Sl), ρ = [some (.val (.int c)), some (.val (.int n)), some (.own (xs.map D.int)), some (.val (.int r)), v, none, none] /\ xs.length = j /\ stA (n - j) r xs = stA n c []) (fun R q => ?_) ⟨[], c, none, rfl, rfl, rfl⟩ ?_ ?_
 ·walk_at "rd"
  rw [k6]
  exact ⟨⟨by omega, by omega⟩, q⟩
 ·rintro j k ρ' hj ⟨xs, r, v, rfl, hlen, hst⟩
  obtain ⟨hj', _⟩ := List.getElem?_eq_some_iff.mp hj
  rw [List.length_range'] at hj'
  walk_at "rd"
  rw [show n - j = (n - (j + 1)) + 1 by omega] at hst
  exact ⟨by decide, by rw [List.length_map, sizeLine_eq]; omega, CD.lit, xs ++ [r.fmod 306783379], _, _, by rw [List.map_append]; rfl, by simp [hlen], hst⟩
 ·rintro ρ' ⟨xs, r, v, rfl, hlen, hst⟩
  rw [List.length_range'] at hlen hst
  rw [Nat.sub_self] at hst
  have hst' : stA n c [] = (xs, r) := hst.symm
  rw [hst'] at h
  walk_at "rx"
  split
  ·rename_i c0
   rw [if_pos c0] at h
   exact h
  ·rename_i c0
   rw [if_neg c0] at h
   refine ⟨Nat.zero_le _, by decide, CD.lit, by decide, ?_⟩
   refine PD.bN (List.range' 0 n) (fun (k : Nat) => D.int (k : Int)) (fun j ρ => ∃ (xs : List Int) (x y : Int) (v : Option Sl), ρ = [some (.val (.int c)), some (.val (.int n)), some (.own (xs.map D.int)), some (.val (.int r)), v, some (.val (.int x)), some (.val (.int y))] /\ xs.length = j /\ stB ((List.range' 0 n).drop j) x y xs = stB (List.range' 0 n) (c.fmod 2147483647 + 48271) ((c.fdiv 2147483647).fmod 2147483629 + 16807) []) (fun R q => ?_) ⟨[], _, _, v, rfl, rfl, rfl⟩ ?_ ?_
   ·walk_at "rd"
    rw [k6]
    exact ⟨⟨by omega, by omega⟩, q⟩
   ·rintro j k ρ' hj ⟨xs, x, y, v, rfl, hlen, hb⟩
    obtain ⟨hj', ek⟩ := List.getElem?_eq_some_iff.mp hj
    rw [List.drop_eq_getElem_cons hj', ek] at hb
    rw [List.length_range'] at hj'
    rw [List.getElem_range'] at ek
    walk_at "rd"
    exact ⟨.inr (.inl (by unfold Bd; decide)), .inl (bdl 1001 (by omega) (by decide)), by decide, .inr (.inl (by unfold Bd; decide)), by decide, CD.lit, by rw [List.length_map, sizeLine_eq]; omega, xs ++ [_], _, _, _, by rw [List.map_append]; rfl, by simp [hlen], hb⟩
   ·rintro ρ' ⟨xs, x, y, v, rfl, hlen, hb⟩
    rw [List.drop_length] at hb
    have hb' : xs = stB (List.range' 0 n) (c.fmod 2147483647 + 48271) ((c.fdiv 2147483647).fmod 2147483629 + 16807) [] := hb
    walk_at "rd"
    rw [hb']
    exact h
theorem qw {f : Addr} {fd : FuncData} (F : ax K "_law_spot" "_law_spot" i4 f fd) (C : COk K mg κ)   : aI P w K mg base (CX1 P w) 1 f fd ["_law_kind", "_law_cell"] (aM K (iz κ)) := by
 refine ax.okN F kI (fun ds Q E h => by obtain ⟨_, _, rfl, _⟩ := h; rfl) fun cdv A outer s H E hr => ⟨_, (aj (aP (az bU (dv 0) aa) (aq (av (bg (ae (ai aH (dv 1) aa) (ae (ai aH (ai bo (dv 1) aa) aa) af))))) aC) (aj (aP (az bU (dv 0) aa) (aq (av (bg (ae (ai aR (ai aH (dv 1) aa) aa) (ae (ai aR (ai aH (ai bo (dv 1) aa) aa) aa) af))))) aC) (aj (aP (az bU (dv 0) aa) (aj (aG 2 kI.nd (ai aR (ai aA aa (ai eJ aa aa)) aa)) (aq (av (bg (ae (ai aK (ai aR (ai aH (dv 1) (dv 2)) (ai eJ aa aa)) aa) (ae (ai aK (ai aR (ai aH (ai aA (ai aK (dv 1) (ai bo (dv 1) (dv 2))) aa) (dv 2)) (ai eJ aa aa)) aa) af)))))) aC) (aj (aP (az bU (dv 0) aa) (aq (av (bg (ae (ai aR (ai aA aa (ai aH (dv 1) aa)) aa) (ae (ai aR aa (ai aA aa (ai aH (dv 1) aa))) af))))) aC) (aj (aP (az bU (dv 0) aa) (aq (av (ak (cU (ae (bg (ae (ai aR (ai aH (dv 1) aa) aa) (ae aa af))) (ae (bg (ae (bM aa) (ae (ai aR (ai aH (dv 1) aa) aa) af))) af))) (ai bo (ai aH (ai bo (dv 1) aa) aa) aa)))) aC) (aj (aP (az bU (dv 0) aa) (aq (av (bg (ae (ai aR (ai aH (dv 1) aa) aa) (ae (ai aA (ai aR (ai aH (dv 1) aa) aa) (ai aR (ai aH (dv 1) aa) aa)) af))))) aC) (aj (aP (az bU (ai aH (dv 1) aa) aa) (aq (av (bg (ae (ai aR (ai aH (ai bo (dv 1) aa) aa) aa) (ae (ai aR (ai aH (ai bo (dv 1) aa) aa) aa) af))))) aC) (aq (av (bg (ae aa (ae (ai aK (bM (ai eJ aa aa)) aa) af)))))))))))), ?_⟩
 rintro ds Q Ed ⟨k, c, rfl, h⟩
 have e0 : aB ["_law_kind", "_law_cell", "_law_far"] [.int k, .int c] = ([some (.val (.int k)), some (.val (.int c)), none] : Ro) := rfl
 rw [e0]; clear e0
 walk_at "rd"
 have fin : ∀ a b : Int, Bd 40 a -> Bd 40 b -> Q (.tup [.int a, .int b]) := fun a b ha hb => h (a, b) ⟨ha, hb⟩
 have f3 := fun n : Int => fm (a := n) (b := 3) (by decide)
 have f5 := fun n : Int => fm (a := n) (b := 5) (by decide)
 have f7 := fun n : Int => fm (a := n) (b := 7) (by decide)
 have f9 := fun n : Int => fm (a := n) (b := 9) (by decide)
 have f11 := fun n : Int => fm (a := n) (b := 11) (by decide)
 have f41 := fun n : Int => fm (a := n) (b := 41) (by decide)
 have ff := fun n : Int => fm (a := n) (b := 2 * 1000000000000 - 1) (by decide)
 split
 ·exact ⟨by decide, CD.lit, by decide, sz2 _ _, fin _ _ (bdl 10 (by have := f3 c; omega) (by decide)) (bdl 10 (by have := f3 (c.fdiv 3); omega) (by decide))⟩
 ·split
  ·exact ⟨by decide, CD.lit, by decide, sz2 _ _, fin _ _ (bdl 10 (by have := f5 c; omega) (by decide)) (bdl 10 (by have := f5 (c.fdiv 5); omega) (by decide))⟩
  ·split
   ·rw [p12]
    exact ⟨tG, .inl (by unfold Bd; decide), by decide, tG, ⟨by decide, by unfold Bd; decide⟩, .inr (.inl (by unfold Bd; decide)), by decide, tG, sz2 _ _, fin _ _ (bdl 1000000000001 (by have := ff c; omega) (by decide)) (bdl 1000000000001 (by have := ff ((c + c.fdiv (2 * 1000000000000 - 1)) * 982451653); omega) (by decide))⟩
   ·split
    ·exact ⟨by decide, .inl (by unfold Bd; decide), by decide, .inl (by unfold Bd; decide), sz2 _ _, fin _ _ (bdl 100 (by have := f11 c; omega) (by decide)) (bdl 100 (by have := f11 c; omega) (by decide))⟩
    ·split
     ·have f16 := fm (a := c.fdiv 9) (b := 16) (by decide)
      refine ⟨by decide, sz2 _ _, by decide, sz2 _ _, sz2 _ _, CD.lit, by decide, CD.lit, ?_⟩
      generalize (c.fdiv 9).fmod 16 = n at f16 ⊢
      have e : n.fdiv 15 = n / 15 := Int.fdiv_eq_ediv_of_nonneg n (by decide)
      rw [e]
      refine pO (by omega) (by show n / 15 < 2; omega) fun d hd => ?_
      have b9 := f9 c
      simp only [List.mem_cons, List.not_mem_nil, or_false] at hd
      rcases hd with rfl | rfl
      ·exact fin _ _ (bdl 10 (by omega) (by decide)) (by unfold Bd; decide)
      ·exact fin _ _ (by unfold Bd; decide) (bdl 10 (by omega) (by decide))
     ·split
      ·have s := f41 c
       have bs : Bd 8 (c.fmod 41 - 20) := bdl 30 (by omega) (by decide)
       generalize c.fmod 41 - 20 = t at bs ⊢
       exact ⟨by decide, by decide, by decide, .inl (bs.mono (by decide)), sz2 _ _, fin _ _ (bs.mono (by decide)) ((bs.mul bs).mono (by decide))⟩
      ·refine ⟨by decide, ?_⟩
       split
       ·exact ⟨CD.lit, by decide, CD.lit, by decide, sz2 _ _, fin _ _ (bdl 10 (by have := f7 (c.fdiv 5); omega) (by decide)) (bdl 10 (by have := f7 (c.fdiv 35); omega) (by decide))⟩
       ·rw [p12]
        exact ⟨tG, sz2 _ _, fin _ _ (by unfold Bd; decide) (by unfold Bd; decide)⟩
theorem nW {f : Addr} {fd : FuncData} (F : ax K "_law_lowest" "_law_lowest" gC f fd) (C : COk K mg κ) (h_law_divisor : Has P w K mg base "_law_divisor" 1 ["_law_one", "_law_other"] (cZ κ))  : aI P w K mg base (CX1 P w) 2 f fd ["_law_by", "_law_x", "_law_y"] (aM K (dw κ)) := by
 refine ax.okN F jA (fun ds Q E h => by obtain ⟨_, _, _, rfl, _⟩ := h; rfl) fun cdv A outer s H E hr => ⟨_, (aj (aG 3 jA.nd (au h_law_divisor (hr.mono (by decide)) (ae (au h_law_divisor (hr.mono (by decide)) (ae (dv 0) (ae (dv 1) af))) (ae (dv 2) af)))) (aq (av (bg (ae (ai bo (dv 0) (dv 3)) (ae (ai bo (dv 1) (dv 3)) (ae (ai bo (dv 2) (dv 3)) af))))))), ?_⟩
 rintro ds Q Ed ⟨b, x, y, rfl, h⟩
 have e0 : aB ["_law_by", "_law_x", "_law_y", "_law_share"] [.int b, .int x, .int y] = ([some (.val (.int b)), some (.val (.int x)), some (.val (.int y)), none] : Ro) := rfl
 rw [e0]; clear e0
 obtain ⟨hb, bb, bx, by_, h⟩ := h
 walk_at "rd"
 refine AQ hb (bb.mono (by decide)) ?_
 have hz : ¬ (b = 0 /\ x = 0 /\ y = 0) := fun z => by omega
 have gp : 0 < PM.dv3 b x y b := by
  have := PM.fH (l := b) hz
  unfold PM.dv3 PM.g3 at this ⊢
  rw [if_neg (by omega)] at this ⊢
  omega
 exact h (PM.dv3 b x y b) _ _ _ gp (by rw [Int.mul_comm]; exact PM.gw (PM.ql b x y)) (by rw [Int.mul_comm]; exact PM.gw (PM.rS b x y)) (by rw [Int.mul_comm]; exact PM.gw (PM.sP b x y)) (PM.zS hz) rfl
theorem pG {f : Addr} {fd : FuncData} (F : ax K "_law_mixed" "_law_mixed" dh f fd) (C : COk K mg κ) (h_law_lowest : Has P w K mg base "_law_lowest" 2 ["_law_by", "_law_x", "_law_y"] (dw κ)) (z_sum : mg "sum" = none) (z_zip : mg "zip" = none) : aI P w K mg base (CX1 P w) 3 f fd ["_law_spots", "_law_shares"] (aM K (cN κ)) := by
 refine ax.okN F gz (fun ds Q E h => by obtain ⟨_, _, rfl, _⟩ := h; rfl) fun cdv A outer s H E hr => ⟨_, (aj (aG 2 gz.nd (aE (ot rfl) (by rfl) z_sum boot_sum (ae (dv 1) af))) (aj (aG 3 gz.nd (aE (ot rfl) (by rfl) z_sum boot_sum (ae (oQ (by rfl) (by exact bB (osc := ao dh) (xs := ["_law_spot_here", "_law_share"]) (ns := []) (by decide +kernel)) aZ.nil (.cons (.cons .nil)) (tX (by rfl) z_zip (ae (dv 0) (ae (dv 1) af))) (fun _ _ _ _ _ => bW) (fun _ _ _ _ _ => (ai aA (ak (dv 0) aa) (dv 1)))) af))) (aq (av (au h_law_lowest (hr.mono (by decide)) (ae (dv 2) (ae (dv 3) (ae (aE (ot rfl) (by rfl) z_sum boot_sum (ae (oQ (by rfl) (by exact bB (osc := ao dh) (xs := ["_law_spot_here", "_law_share"]) (ns := []) (by decide +kernel)) aZ.nil (.cons (.cons .nil)) (tX (by rfl) z_zip (ae (dv 0) (ae (dv 1) af))) (fun _ _ _ _ _ => bW) (fun _ _ _ _ _ => (ai aA (ak (dv 0) aa) (dv 1)))) af)) af)))))))), ?_⟩
 rintro ds Q Ed ⟨ps, ws, rfl, h⟩
 have e0 : aB ["_law_spots", "_law_shares", "_law_by", "_law_x"] [.lst false (ps.map spD), .lst false (ws.map D.int)] = ([some (.val (.lst false (ps.map spD))), some (.val (.lst false (ws.map D.int))), none, none] : Ro) := rfl
 rw [e0]; clear e0
 obtain ⟨hlw, hz, hl, hb, hw, h⟩ := h
 obtain ⟨zs, rfl, rfl⟩ := jr hlw
 rw [List.length_map] at hz hl
 have eX : sX (zs.map (·.1)) (zs.map (·.2)) = (zs.map fun z => z.1.1 * z.2).sum := by unfold sX; rw [List.zipWith_map, List.zipWith_self]
 have eY : sY (zs.map (·.1)) (zs.map (·.2)) = (zs.map fun z => z.1.2 * z.2).sum := by unfold sY; rw [List.zipWith_map, List.zipWith_self]
 rw [eX, eY] at h
 have P70 : ∀ z ∈ zs, z.1.1.natAbs * z.2.natAbs <= 2 ^ 940 /\ z.1.2.natAbs * z.2.natAbs <= 2 ^ 940 := fun z hzm => by
  have B := hb z.1 (List.mem_map.mpr ⟨z, hzm, rfl⟩)
  have w9 := Nat.le_of_lt (hw z.2 (List.mem_map.mpr ⟨z, hzm, rfl⟩)).2
  rw [show (2 : Nat) ^ 940 = 2 ^ 40 * 2 ^ 900 from Nat.pow_add 2 40 900]
  exact ⟨Nat.mul_le_mul (Nat.le_of_lt B.x) w9, Nat.mul_le_mul (Nat.le_of_lt B.y) w9⟩
 have hz3 : ∀ M : Nat, zs.length * M <= 30 * M := fun M => Nat.mul_le_mul_right _ hl
 have up : ∀ n : Nat, 30 * 2 ^ n < 2 ^ (n + 5) := fun n => by rw [Nat.pow_add]; have := Nat.pow_pos (n := n) (show 0 < 2 by decide); omega
 have sx : Bd 945 (zs.map fun z => z.1.1 * z.2).sum := by
  have := df (M := 2 ^ 940) (zs.map fun z => z.1.1 * z.2) fun x hx => by
   obtain ⟨z, hzm, rfl⟩ := List.mem_map.mp hx
   rw [Int.natAbs_mul]; exact (P70 z hzm).1
  rw [List.length_map] at this
  exact Nat.lt_of_le_of_lt (Nat.le_trans this (hz3 _)) (up 940)
 have sy : Bd 945 (zs.map fun z => z.1.2 * z.2).sum := by
  have := df (M := 2 ^ 940) (zs.map fun z => z.1.2 * z.2) fun x hx => by
   obtain ⟨z, hzm, rfl⟩ := List.mem_map.mp hx
   rw [Int.natAbs_mul]; exact (P70 z hzm).2
  rw [List.length_map] at this
  exact Nat.lt_of_le_of_lt (Nat.le_trans this (hz3 _)) (up 940)
 have sp : 0 < (zs.map (·.2)).sum := iX _ (by rw [List.length_map]; exact hz) fun x hx => (hw x hx).1
 have sb : Bd 905 (zs.map (·.2)).sum := by
  have := df (M := 2 ^ 900) (zs.map (·.2)) fun x hx => Nat.le_of_lt (hw x hx).2
  rw [List.length_map] at this
  exact Nat.lt_of_le_of_lt (Nat.le_trans this (hz3 _)) (up 900)
 have zp : ∀ R : List D -> Prop, R (zs.map fun z => .tup [spD z.1, .int z.2]) -> R (List.zipWith (fun a b => D.tup [a, b]) ((zs.map (·.1)).map spD) ((zs.map (·.2)).map D.int)) := fun R q => by
  have e : List.zipWith (fun a b => D.tup [a, b]) ((zs.map (·.1)).map spD) ((zs.map (·.2)).map D.int) = zs.map fun z => .tup [spD z.1, .int z.2] := by
   induction zs with
   | nil => rfl
   | cons z zs ih => simp [List.zipWith_map, List.zipWith_self]
  rw [e]; exact q
 have cmz : ∀ z ∈ zs, CM z.1.1 z.2 /\ CM z.1.2 z.2 := fun z hzm => by
  have B := hb z.1 (List.mem_map.mpr ⟨z, hzm, rfl⟩)
  exact ⟨.inl (B.x.mono (by decide)), .inl (B.y.mono (by decide))⟩
 walk_at "rx"
 refine ⟨false, _, rfl, ?_⟩
 refine PD.nc zs (fun z => [spD z.1, .int z.2]) (fun _ => true) (fun z => .int (z.1.1 * z.2)) (fun R q => ?_) (by rw [sizeLine_eq]; omega) (fun _ => rfl) (fun y hy K hk => ?_) (fun y hy _ K hk => ?_) ?_
 ·walk_at "rx"
  exact zp R q
 ·walk_at "rx"
  exact hk
 ·have es : spD y.1 = .tup [.int y.1.1, .int y.1.2] := rfl
  rw [es]
  walk_at "rx"
  exact ⟨(cmz y hy).1, hk⟩
 rw [List.filter_eq_self.mpr (fun _ _ => rfl)]
 refine ⟨true, zs.map fun z => z.1.1 * z.2, by rw [List.map_map]; rfl, ?_⟩
 refine PD.nc zs (fun z => [spD z.1, .int z.2]) (fun _ => true) (fun z => .int (z.1.2 * z.2)) (fun R q => ?_) (by rw [sizeLine_eq]; omega) (fun _ => rfl) (fun y hy K hk => ?_) (fun y hy _ K hk => ?_) ?_
 ·walk_at "rx"
  exact zp R q
 ·walk_at "rx"
  exact hk
 ·have es : spD y.1 = .tup [.int y.1.1, .int y.1.2] := rfl
  rw [es]
  walk_at "rx"
  exact ⟨(cmz y hy).2, hk⟩
 rw [List.filter_eq_self.mpr (fun _ _ => rfl)]
 exact ⟨true, zs.map fun z => z.1.2 * z.2, by rw [List.map_map]; rfl, sp, sb.mono (by decide), sx.mono (by decide), sy.mono (by decide), h⟩
theorem pU {f : Addr} {fd : FuncData} (F : ax K "_law_place" "_law_place" di f fd) (C : COk K mg κ) (h_law_lowest : Has P w K mg base "_law_lowest" 2 ["_law_by", "_law_x", "_law_y"] (dw κ)) (h_law_mixed : Has P w K mg base "_law_mixed" 3 ["_law_spots", "_law_shares"] (cN κ)) (h_law_stream : Has P w K mg base "_law_stream" 1 ["_law_cell", "_law_many"] (du κ)) (z_len : mg "len" = none) (z_range : mg "range" = none) : aI P w K mg base (CX1 P w) 4 f fd ["_law_spots", "_law_cell"] (aM K (gK κ)) := by
 refine ax.okN F bL (fun ds Q E h => by obtain ⟨_, _, rfl, _⟩ := h; rfl) fun cdv A outer s H E hr => ⟨_, (aj (aG 2 bL.nd (au h_law_stream (hr.mono (by decide)) (ae (dv 1) (ae aa af)))) (aj (aP (az bU (ai aH (ak (dv 2) aa) aa) aa) (aq (av (au h_law_lowest (hr.mono (by decide)) (ae (ai aK aa (ai aH (ak (dv 2) aa) (ai eJ aa aa))) (ae (ai aR (ak (dv 2) aa) (ak (dv 2) aa)) (ae (ai aR (ak (dv 2) aa) (ak (dv 2) aa)) af)))))) aC) (aj (aG 3 bL.nd (ai aK aa (ai aH (ai bo (ak (dv 2) aa) aa) aa))) (aj (eE 4 bL.nd (by rfl) (by exact bB (osc := ao di) (xs := ["_law_k"]) (ns := ["_law_xs", "_law_spots"]) (by decide +kernel)) (aZ.cons 2 (aZ.cons 0 aZ.nil)) (cT (by rfl) z_range (ae (dv 3) af)) (fun _ _ _ _ _ => bW) (fun _ _ _ _ _ => (ak (dv 2) (ai aH (ak (dv 1) (ai aK aa (dv 0))) (aE bq (by rfl) z_len boot_len (ae (dv 2) af)))))) (aj (eE 5 bL.nd (by rfl) (by exact bB (osc := ao di) (xs := ["_law_k"]) (ns := ["_law_xs"]) (by decide +kernel)) (aZ.cons 2 aZ.nil) (cT (by rfl) z_range (ae (dv 3) af)) (fun _ _ _ _ _ => bW) (fun _ _ _ _ _ => (ai aK aa (ai aH (ai aA (ak (dv 1) (ai aK aa (dv 0))) (ak (dv 1) aa)) (ak (cU (ae aa (ae (ai eJ aa aa) af))) (ai aH (ak (dv 1) aa) aa)))))) (aj (aG 6 bL.nd (au h_law_mixed (hr.mono (by decide)) (ae (dv 4) (ae (dv 5) af)))) (aj (aP (az bU (ai aH (ai bo (ak (dv 2) aa) aa) aa) aa) (aq (aG 6 bL.nd (au h_law_lowest (hr.mono (by decide)) (ae (ai aA (ak (dv 6) aa) (ai eJ aa aa)) (ae (ai aR (ai aK (ai aA (ak (dv 6) aa) (ai eJ aa aa)) (ai aH (ak (dv 2) aa) aa)) aa) (ae (ai aR (ai aK (ai aA (ak (dv 6) aa) (ai eJ aa aa)) (ai aH (ak (dv 2) aa) aa)) aa) af)))))) aC) (aq (av (dv 6)))))))))), ?_⟩
 rintro ds Q Ed ⟨ps, c, rfl, h⟩
 have e0 : aB ["_law_spots", "_law_cell", "_law_xs", "_law_many", "_law_some", "_law_shares", "_law_point"] [.lst false (ps.map spD), .int c] = ([some (.val (.lst false (ps.map spD))), some (.val (.int c)), none, none, none, none, none] : Ro) := rfl
 rw [e0]; clear e0
 obtain ⟨hz, hl, hb, h⟩ := h
 walk_at "rx"
 refine ⟨by decide, by decide, ?_⟩
 rw [show Int.toNat 12 = 12 from rfl]
 obtain ⟨hl12, hxb⟩ := rM c 12
 generalize cn c 12 = xs at *
 have gt : ∀ k, k < 12 -> xs[k]? = some (xs.getD k 0) := fun k hk => by
  rw [List.getD_eq_getElem?_getD, List.getElem?_eq_getElem (by omega)]; rfl
 have atk : ∀ k : Nat, k < 12 -> atI (xs.map D.int) (k : Int) = some (.int (xs.getD k 0)) := fun k hk => bA (by rw [List.getElem?_map, gt k hk]; rfl)
 have bk : ∀ k, k < 12 -> 0 <= xs.getD k 0 /\ xs.getD k 0 < 2147483647 := fun k hk => hxb _ (List.mem_of_getElem? (gt k hk))
 have a0 : atI (xs.map D.int) 0 = some (.int (xs.getD 0 0)) := atk 0 (by decide)
 have a1 : atI (xs.map D.int) 1 = some (.int (xs.getD 1 0)) := atk 1 (by decide)
 have a2 : atI (xs.map D.int) 2 = some (.int (xs.getD 2 0)) := atk 2 (by decide)
 have a3 : atI (xs.map D.int) 3 = some (.int (xs.getD 3 0)) := atk 3 (by decide)
 have a4 : atI (xs.map D.int) 4 = some (.int (xs.getD 4 0)) := atk 4 (by decide)
 have a5 : atI (xs.map D.int) 5 = some (.int (xs.getD 5 0)) := atk 5 (by decide)
 simp only [a0, a1, a2, a3, a4, a5]
 walk_at "rx"
 refine ⟨by decide, ?_⟩
 split
 ·rename_i c4
  rw [p6]
  have f1 := fm (a := xs.getD 1 0) (b := 1000000) (by decide)
  have b2 := bk 2 (by decide)
  have b3 := bk 3 (by decide)
  have b4 := bk 4 (by decide)
  have b5 := bk 5 (by decide)
  have B0 : Bd 60 (1 + (xs.getD 1 0).fmod 1000000) := bdl 1000002 (by omega) (by decide)
  have B1 : Bd 100 (xs.getD 2 0 - xs.getD 3 0) := bdl 2147483648 (by omega) (by decide)
  have B2 : Bd 100 (xs.getD 4 0 - xs.getD 5 0) := bdl 2147483648 (by omega) (by decide)
  exact ⟨cp6, by decide, by omega, B0.mono (by decide), B1.mono (by decide), B2.mono (by decide), fun g p q r hg e1 e2 e3 e4 _ => h (p, q, r) ⟨iS hg e1 (by omega), cX hg e1 B0, cX hg e2 B1, cX hg e3 B2⟩ ⟨iS hg e1 (by omega), e4⟩ fun c1 => absurd c1 (by rw [c4]; decide)⟩
 ·have f3 := fm (a := (xs.getD 0 0).fdiv 4) (b := 3) (by decide)
  obtain ⟨m, em⟩ : ∃ m : Nat, 1 + ((xs.getD 0 0).fdiv 4).fmod 3 = (m : Int) := ⟨(1 + ((xs.getD 0 0).fdiv 4).fmod 3).toNat, by omega⟩
  rw [em]
  have hm : 0 < m /\ m <= 3 := by omega
  refine ⟨CD.lit, by decide, ?_⟩
  refine jU (List.range' 0 m) (fun (k : Nat) => D.int (k : Int)) spD (fun p => p ∈ ps) (fun R q => ?_) (by rw [List.length_range', sizeLine_eq]; omega) (fun k hk K hK => ?_) fun qs hql hqB => ?_
  ·walk_at "rx"
   rw [k6]
   exact ⟨⟨by omega, by omega⟩, q⟩
  ·have hk' : k < 3 := by rw [List.mem_range'_1] at hk; omega
   have a6 : atI (xs.map D.int) (6 + (k : Int)) = some (.int (xs.getD (6 + k) 0)) := by
    have := atk (6 + k) (by omega)
    rw [Int.natCast_add] at this
    exact this
   walk_at "rx"
   rw [a6]
   walk_at "rx"
   have fz := fm (a := xs.getD (6 + k) 0) (b := ((ps.map spD).length : Nat)) (by rw [List.length_map]; omega)
   refine ⟨by rw [List.length_map]; omega, pO fz.1 fz.2 fun d hd => ?_⟩
   obtain ⟨p, hp, rfl⟩ := List.mem_map.mp hd
   exact hK p hp
  rw [List.length_range'] at hql
  refine jU (List.range' 0 m) (fun (k : Nat) => D.int (k : Int)) D.int (fun w => 0 < w /\ w <= 1000000000) (fun R q => ?_) (by rw [List.length_range', sizeLine_eq]; omega) (fun k hk K hK => ?_) fun ws hwl hwB => ?_
  ·walk_at "rx"
   rw [k6]
   exact ⟨⟨by omega, by omega⟩, q⟩
  ·have hk' : k < 3 := by rw [List.mem_range'_1] at hk; omega
   have a9 : atI (xs.map D.int) (9 + (k : Int)) = some (.int (xs.getD (9 + k) 0)) := by
    have := atk (9 + k) (by omega)
    rw [Int.natCast_add] at this
    exact this
   walk_at "rx"
   rw [a9, a1, a2]
   walk_at "rx"
   have bb := bk (9 + k) (by omega)
   have f2 := fm (a := xs.getD 2 0) (b := 2) (by decide)
   rw [p9]
   refine ⟨.inl (bdl 2147483648 (by omega) (by decide)), cp9, sz2 _ _, by decide, pO f2.1 f2.2 fun d hd => ?_⟩
   obtain ⟨v, rfl, hv⟩ : ∃ v : Int, d = .int v /\ (v = 3 ∨ v = 1000000000) := by
    simp only [List.mem_cons, List.not_mem_nil, or_false] at hd
    rcases hd with rfl | rfl
    ·exact ⟨_, rfl, .inl rfl⟩
    ·exact ⟨_, rfl, .inr rfl⟩
   walk_at "rx"
   have fv := fm (a := xs.getD (9 + k) 0 * xs.getD 1 0) (b := v) (by omega)
   exact ⟨by omega, hK _ ⟨by omega, by omega⟩⟩
  rw [List.length_range'] at hwl
  rw [bj, eU, bj, cb, bV]
  have w30 : ∀ w ∈ ws, Bd 30 w := fun w hw => by
   have := hwB w hw
   exact bdl 1000000001 (by omega) (by decide)
  refine ⟨by omega, by omega, by omega, fun p hp => hb p (hqB p hp), fun w hw => ⟨(hwB w hw).1, (w30 w hw).mono (by decide)⟩, fun g p q r hg e1 e2 e3 e4 _ => ?_⟩
  obtain ⟨zs, ez1, ez2⟩ := jr (ps := qs) (ws := ws) (by omega)
  have zl : zs.length <= 3 := by have := congrArg List.length ez1; rw [List.length_map] at this; omega
  have z0 : zs ≠ [] := fun e => by rw [e] at ez1; rw [ez1] at hql; simp at hql; omega
  have zm : ∀ z ∈ zs, z.1 ∈ ps /\ 0 < z.2 /\ WB 40 z.1 /\ Bd 30 z.2 := fun z hz' => by
   have m1 : z.1 ∈ qs := by rw [ez1]; exact List.mem_map.mpr ⟨z, hz', rfl⟩
   have m2 : z.2 ∈ ws := by rw [ez2]; exact List.mem_map.mpr ⟨z, hz', rfl⟩
   exact ⟨hqB _ m1, (hwB _ m2).1, hb _ (hqB _ m1), w30 _ m2⟩
  have eX : sX qs ws = (zs.map fun z => z.1.1 * z.2).sum := by rw [ez1, ez2]; unfold sX; rw [List.zipWith_map, List.zipWith_self]
  have eY : sY qs ws = (zs.map fun z => z.1.2 * z.2).sum := by rw [ez1, ez2]; unfold sY; rw [List.zipWith_map, List.zipWith_self]
  have wpos : 0 < ws.sum := iX _ (by omega) fun x hx => (hwB x hx).1
  have p0 : 0 < p := iS hg e1 wpos
  have mix : kM ps (p, q, r) := by
   refine ⟨zs, z0, fun z hz' => ⟨(zm z hz').1, (zm z hz').2.1⟩, ?_, ?_⟩
   ·show (zs.map (·.2)).sum * q = p * _
    rw [<- ez2, <- eX, <- e1, <- e2]
    grind
   ·show (zs.map (·.2)).sum * r = p * _
    rw [<- ez2, <- eY, <- e1, <- e3]
    grind
  have hz3 : ∀ M : Nat, zs.length * M <= 3 * M := fun M => Nat.mul_le_mul_right _ zl
  have up : ∀ n : Nat, 3 * 2 ^ n < 2 ^ (n + 2) := fun n => by rw [Nat.pow_add]; have := Nat.pow_pos (n := n) (show 0 < 2 by decide); omega
  have b1 : Bd 32 ws.sum := by
   have := df (M := 2 ^ 30) ws fun x hx => Nat.le_of_lt (w30 x hx)
   have lw : ws.length = zs.length := by rw [ez2, List.length_map]
   rw [lw] at this
   exact Nat.lt_of_le_of_lt (Nat.le_trans this (hz3 _)) (up 30)
  have b2 : Bd 72 (sX qs ws) := by
   rw [eX]
   have := df (M := 2 ^ 70) (zs.map fun z => z.1.1 * z.2) fun x hx => by
    obtain ⟨z, hzm, rfl⟩ := List.mem_map.mp hx
    rw [Int.natAbs_mul, show (2 : Nat) ^ 70 = 2 ^ 40 * 2 ^ 30 from Nat.pow_add 2 40 30]
    exact Nat.mul_le_mul (Nat.le_of_lt (zm z hzm).2.2.1.x) (Nat.le_of_lt (zm z hzm).2.2.2)
   rw [List.length_map] at this
   exact Nat.lt_of_le_of_lt (Nat.le_trans this (hz3 _)) (up 70)
  have b3 : Bd 72 (sY qs ws) := by
   rw [eY]
   have := df (M := 2 ^ 70) (zs.map fun z => z.1.2 * z.2) fun x hx => by
    obtain ⟨z, hzm, rfl⟩ := List.mem_map.mp hx
    rw [Int.natAbs_mul, show (2 : Nat) ^ 70 = 2 ^ 40 * 2 ^ 30 from Nat.pow_add 2 40 30]
    exact Nat.mul_le_mul (Nat.le_of_lt (zm z hzm).2.2.1.y) (Nat.le_of_lt (zm z hzm).2.2.2)
   rw [List.length_map] at this
   exact Nat.lt_of_le_of_lt (Nat.le_trans this (hz3 _)) (up 70)
  have h40 : Bd 32 p := cX hg e1 b1
  have hx : Bd 72 q := cX hg e2 b2
  have hy : Bd 72 r := cX hg e3 b3
  walk_at "rx"
  refine ⟨CD.lit, by decide, ?_⟩
  split
  ·rename_i c5
   rw [p4]
   have g3 := fm (a := xs.getD 3 0) (b := 3) (by decide)
   have g4 := fm (a := xs.getD 4 0) (b := 3) (by decide)
   have t4 : Bd 14 10000 := by unfold Bd; decide
   have s3 : ∀ {v : Int}, 0 <= v -> v < 3 -> Bd 2 v := fun a b => bdl 3 (by omega) (by decide)
   have o1 : Bd 2 1 := by unfold Bd; decide
   have C0 : Bd 60 (p * 10000) := Bd.mono (m := 46) (h40.mul t4) (by decide)
   have C1 : Bd 100 (q * 10000 + (xs.getD 3 0).fmod 3 - 1) := Bd.mono (m := 88) (((hx.mul t4).add ((s3 g3.1 g3.2).mono (by decide))).sub (o1.mono (by decide))) (by decide)
   have C2 : Bd 100 (r * 10000 + (xs.getD 4 0).fmod 3 - 1) := Bd.mono (m := 88) (((hy.mul t4).add ((s3 g4.1 g4.2).mono (by decide))).sub (o1.mono (by decide))) (by decide)
   have q0 := Int.mul_pos p0 (show (0 : Int) < 10000 by decide)
   exact ⟨cp4, cmB h40 t4, cp4, cmB hx t4, by decide, cp4, cmB hy t4, by decide, q0, C0.mono (by decide), C1.mono (by decide), C2.mono (by decide), fun g' p' q' r' hg' f1 f2 f3 f4 _ => h (p', q', r') ⟨iS hg' f1 q0, cX hg' f1 C0, cX hg' f2 C1, cX hg' f3 C2⟩ ⟨iS hg' f1 q0, f4⟩ fun _ c6 => absurd c6 (by rw [c5]; decide)⟩
  ·exact h (p, q, r) ⟨p0, h40.mono (by decide), hx.mono (by decide), hy.mono (by decide)⟩ ⟨p0, e4⟩ fun _ _ => mix
theorem tM {f : Addr} {fd : FuncData} (F : ax K "_law_in" "_law_in" jc f fd) (C : COk K mg κ) (h_law_divisor : Has P w K mg base "_law_divisor" 1 ["_law_one", "_law_other"] (cZ κ)) (h_law_mixed : Has P w K mg base "_law_mixed" 3 ["_law_spots", "_law_shares"] (cN κ)) (h_law_whole : Has P w K mg base "_law_whole" 1 ["_law_found"] (d9 κ)) (z_isinstance : mg "isinstance" = none) (z_len : mg "len" = none) (z_list : mg "list" = none) (z_max : mg "max" = none) (z_min : mg "min" = none) (z_set : mg "set" = none) (z_sorted : mg "sorted" = none) (z_tuple : mg "tuple" = none) : aI P w K mg base (CX1 P w) 4 f fd ["_law_found", "_law_spots", "_law_point"] (aM K (hU κ)) := by
 refine ax.okN F dS (fun ds Q E h => by obtain ⟨_, _, _, _, _, rfl, _⟩ := h; rfl) fun cdv A outer s H E hr => ⟨_, (aj (aP (cY (dW (eN (dM (by rfl) z_isinstance (by rfl) z_tuple boot_tuple (.inr (.inr (.inl rfl))) (dv 0)))) (cY (az gG (aE bq (by rfl) z_len boot_len (ae (dv 0) af)) aa) (gX (az (j4 (by exact hr.units)) (ak (dv 0) aa) iY)))).pt (aq (av dA)) aC) (aj (cw PassesOwn.never rfl (qf (y8 (dv 0) (gr aa) fk)) (bz 3 dS.nd) (aj (aP (cY (dW (eN (dM (by rfl) z_isinstance (by rfl) z_list boot_list (.inr (.inr (.inr (.inl rfl)))) (dv 3)))) (cY (az gG (aE bq (by rfl) z_len boot_len (ae (dv 3) af)) (aE bq (by rfl) z_len boot_len (ae (ak (dv 0) aa) af))) (cY (az dm (aE bq (by rfl) z_len boot_len (ae (dv 3) af)) aa) (gX (az jb (aE bq (by rfl) z_len boot_len (ae (dv 3) af)) aa))))).pt (aq (av dA)) aC) (aq (cw PassesOwn.never rfl (bu (dv 3)) (bz 6 dS.nd) (aq (aP (dW (eN (au h_law_whole (hr.mono (by decide)) (ae (dv 6) af)))) (aq (av dA)) aC)))))) (aj (aG 4 dS.nd aa) (aj (cw PassesOwn.never rfl (bu (ak (dv 0) aa)) (bz 5 dS.nd) (aq (aG 4 dS.nd (au h_law_divisor (hr.mono (by decide)) (ae (dv 4) (ae (dv 5) af)))))) (aj (aP (cY (az dm (aE (mh rfl) (by rfl) z_min boot_min (ae (ak (dv 0) aa) af)) aa) (cY (az gG (dv 4) aa) (cY (az dm (aE (mh rfl) (by rfl) z_min boot_min (ae (ak (dv 0) aa) af)) aa) (gX (az AD (aE (qL rfl) (by rfl) z_max boot_max (ae (ak (dv 0) aa) af)) (aE bq (by rfl) z_len boot_len (ae (dv 1) af))))))).pt (aq (av dA)) aC) (aj (aP (az (j4 (by exact hr.units)) (ak (dv 0) aa) ((qA rfl (by rfl) z_sorted (by rfl) z_set (ak (dv 0) aa))).ped) (aq (av dA)) aC) (aq (av (jQ (n6 (by exact hr.units)) (au h_law_mixed (hr.mono (by decide)) (ae (dN (by rfl) (by exact bB (osc := ao jc) (xs := ["_law_number"]) (ns := ["_law_spots"]) (by decide +kernel)) (aZ.cons 1 aZ.nil) (bu (ak (dv 0) aa)) (fun _ _ _ _ _ => bW) (fun _ _ _ _ _ => (ak (dv 1) (dv 0)))) (ae (ak (dv 0) aa) af))) (dv 2)))))))))), ?_⟩
 rintro ds Q Ed ⟨d, ps, h0, h1, h2, rfl, h⟩
 have e0 : aB ["_law_found", "_law_spots", "_law_point", "_law_row", "_law_by", "_law_share", "_law_number"] [d, .lst false (ps.map spD), T3 h0 h1 h2] = ([some (.val (d)), some (.val (.lst false (ps.map spD))), some (.val (T3 h0 h1 h2)), none, none, none, none] : Ro) := rfl
 rw [e0]; clear e0
 obtain ⟨hl, hb, hp, hd⟩ := h
 have sI : PyData.strOk "in" = true := by decide +kernel
 have okI : okD (.str "in") := (dO 0 _ sI).ok
 rcases hd with ⟨pk, sh, rfl, I, h⟩ | ⟨g, rfl, h⟩
 ·have ek : (pk.map fun (k : Nat) => D.int (k : Int)) = (pk.map fun (k : Nat) => (k : Int)).map D.int := by rw [List.map_map]; rfl
  rw [ek]
  have lk : (pk.map fun (k : Nat) => (k : Int)).length = pk.length := List.length_map _
  have l0 := I.l0
  have l3 := I.l3
  have ls := I.ls
  walk_at "rx"
  rw [if_pos (by simp)]
  refine ⟨okI, okI, ?_⟩
  rw [if_neg (by rw [cM]; simp)]
  refine PD.bN [pk.map fun (k : Nat) => (k : Int), sh] (fun l : List Int => D.lst false (l.map D.int)) (fun _ ρ => ∃ v3 v6 : Option Sl, ρ = [some (.val (.tup [.str "in", .lst false ((pk.map fun (k : Nat) => (k : Int)).map D.int), .lst false (sh.map D.int)])), some (.val (.lst false (ps.map spD))), some (.val (T3 h0 h1 h2)), v3, none, none, v6]) (fun R q => ?_) ⟨none, none, rfl⟩ ?_ ?_
  ·walk_at "rd"
   exact ⟨show ¬ (HT.sIx 3 0 (some 1) = 0 /\ HT.sIx 3 3 none = 3) by decide, q⟩
  ·rintro j l ρ' hj ⟨v3, v6, rfl⟩
   have ll : l.length = pk.length := by
    have := List.mem_of_getElem? hj
    simp only [List.mem_cons, List.not_mem_nil, or_false] at this
    rcases this with rfl | rfl
    ·exact lk
    ·exact ls
   walk_at "rx"
   rw [List.length_map, List.length_map, lk]
   rw [if_pos (by rw [ll]), if_neg (by omega), if_neg (by omega)]
   refine PD.bN l D.int (fun _ ρ => ∃ v6 : Option Sl, ρ = [some (.val (.tup [.str "in", .lst false ((pk.map fun (k : Nat) => (k : Int)).map D.int), .lst false (sh.map D.int)])), some (.val (.lst false (ps.map spD))), some (.val (T3 h0 h1 h2)), some (.val (.lst false (l.map D.int))), none, none, v6]) (fun R q => ?_) ⟨v6, rfl⟩ ?_ ?_
   ·walk_at "rd"
    exact q
   ·rintro i k ρ' hi ⟨v6, rfl⟩
    walk_at "rd"
    exact ⟨_, rfl⟩
   ·rintro ρ' ⟨v6, rfl⟩
    exact ⟨_, _, rfl⟩
  ·rintro ρ' ⟨v3, v6, rfl⟩
   walk_at "rx"
   refine PD.bN sh D.int (fun j ρ => ∃ v5 : Option Sl, ρ = [some (.val (.tup [.str "in", .lst false ((pk.map fun (k : Nat) => (k : Int)).map D.int), .lst false (sh.map D.int)])), some (.val (.lst false (ps.map spD))), some (.val (T3 h0 h1 h2)), v3, some (.val (.int (aT 0 (sh.take j)))), v5, v6]) (fun R q => ?_) ⟨none, rfl⟩ ?_ ?_
   ·walk_at "rd"
    exact q
   ·rintro j x ρ' hx ⟨v5, rfl⟩
    walk_at "rd"
    refine ⟨some (.val (.int x)), ?_⟩
    rw [List.take_succ, hx]
    show _ = [_, _, _, _, some (Sl.val (D.int (aT 0 (sh.take j ++ [x])))), _, _]
    rw [jJ]
   ·rintro ρ' ⟨v5, rfl⟩
    rw [List.take_length, I.one]
    have pkS : (pk.map fun (k : Nat) => (k : Int)).Pairwise (· < ·) := List.pairwise_map.mpr (I.rise.imp fun {a b} q => by omega)
    have gt : ∀ k, k < ps.length -> ps[k]? = some (ps.getD k (0, 0)) := fun k hk => by
     rw [List.getD_eq_getElem?_getD, List.getElem?_eq_getElem hk]; rfl
    have okK : ∀ (b : Bool) (ns : List Int), okD (.lst b (ns.map D.int)) := fun b ns => (OkN.map (OkN.int 0)).ok
    walk_at "rx"
    refine ⟨false, sh, rfl, by omega, fun m hm _ => ?_⟩
    rw [if_neg (by have := I.pos m hm; omega)]
    refine ⟨false, pk.map fun (k : Nat) => (k : Int), rfl, by omega, fun m hm _ => ?_⟩
    rw [if_neg (by obtain ⟨k, _, rfl⟩ := List.mem_map.mp hm; omega)]
    refine .inr ⟨false, pk.map fun (k : Nat) => (k : Int), rfl, by omega, fun m hm _ => ?_⟩
    rw [List.length_map, if_neg (by obtain ⟨k, hk, rfl⟩ := List.mem_map.mp hm; have := I.lt k hk; omega)]
    unfold nJ
    walk_at "rx"
    refine ⟨false, pk.map fun (k : Nat) => (k : Int), rfl, by omega, fun ms hs hmem => ?_⟩
    have em : ms = pk.map fun (k : Nat) => (k : Int) := oz ms _ hs pkS hmem
    subst em
    refine ⟨okK _ _, okK _ _, ?_⟩
    rw [if_neg (by rw [d8]; simp)]
    refine PD.comp_map pk (fun (k : Nat) => D.int (k : Int)) (fun _ => true) (fun k => spD (ps.getD k (0, 0))) (fun R q => ?_) (by rw [sizeLine_eq]; omega) (fun k hk K hK => ?_) (fun k hk _ K hK => ?_) ?_
    ·rw [<- ek]
     walk_at "rd"
     exact q
    ·walk_at "rd"
     exact hK
    ·walk_at "rd"
     exact ⟨_, bA (by rw [List.getElem?_map, gt k (I.lt k hk)]; rfl), hK⟩
    rw [List.filter_eq_self.mpr (fun _ _ => rfl)]
    have eq : pk.map (fun k => spD (ps.getD k (0, 0))) = (pk.map fun k => ps.getD k (0, 0)).map spD := by rw [List.map_map]; rfl
    rw [eq, bj, eU, bV]
    refine ⟨by rw [List.length_map]; omega, by rw [List.length_map]; exact l0, by rw [List.length_map]; omega, fun p hp' => ?_, fun s hs' => ⟨I.pos s hs', I.bd s hs'⟩, fun g p q r hg e1 e2 e3 e4 e5 => ⟨ua _ _ _, ua _ _ _, ?_⟩⟩
    ·obtain ⟨k, hk, rfl⟩ := List.mem_map.mp hp'
     exact hb _ (List.mem_of_getElem? (gt k (I.lt k hk)))
    ·have wp : 0 < sh.sum := iX _ (by omega) I.pos
     rw [<- e5, tw wp hp.1 I.x I.y, uD hp]
     show Q (.bl (eqD (trD (h0, h1, h2)) (trD (h0, h1, h2))))
     rw [cM]
     exact h
 ·have eg : trD g = .tup [.int g.1, .int g.2.1, .int g.2.2] := rfl
  rw [eg]
  walk_at "rx"
  rw [if_neg (by simp)]
  exact h
theorem sj {f : Addr} {fd : FuncData} (F : ax K "_law_out" "_law_out" jH f fd) (C : COk K mg κ) (h_law_value : Has P w K mg base "_law_value" 1 ["_law_gauge", "_law_point"] (gR κ)) (h_law_whole : Has P w K mg base "_law_whole" 1 ["_law_found"] (d9 κ)) (z_isinstance : mg "isinstance" = none) (z_len : mg "len" = none) (z_tuple : mg "tuple" = none) : aI P w K mg base (CX1 P w) 2 f fd ["_law_found", "_law_spots", "_law_point"] (aM K (ji κ)) := by
 refine ax.okN F i8 (fun ds Q E h => by obtain ⟨_, _, _, _, _, rfl, _⟩ := h; rfl) fun cdv A outer s H E hr => ⟨_, (aj (aP (cY (dW (eN (dM (by rfl) z_isinstance (by rfl) z_tuple boot_tuple (.inr (.inr (.inl rfl))) (dv 0)))) (cY (az gG (aE bq (by rfl) z_len boot_len (ae (dv 0) af)) aa) (gX (az (j4 (by exact hr.units)) (ak (dv 0) aa) iY)))).pt (aq (av dA)) aC) (aj (aP (cY (dW (eN (dM (by rfl) z_isinstance (by rfl) z_tuple boot_tuple (.inr (.inr (.inl rfl))) (ak (dv 0) aa)))) (gX (az gG (aE bq (by rfl) z_len boot_len (ae (ak (dv 0) aa) af)) aa))).pt (aq (av dA)) aC) (aj (cw PassesOwn.never rfl (qf (ak (dv 0) aa)) (bz 3 i8.nd) (aq (aP (dW (eN (au h_law_whole (hr.mono (by decide)) (ae (dv 3) af)))) (aq (av dA)) aC))) (aj (cw PassesOwn.never rfl (bu (dv 1)) (bz 4 i8.nd) (aq (aP (az dm (au h_law_value (hr.mono (by decide)) (ae (ak (dv 0) aa) (ae (bg (ae aa (ae (ak (dv 4) aa) (ae (ak (dv 4) aa) af)))) af))) aa) (aq (av dA)) aC))) (aq (av (jQ dm (au h_law_value (hr.mono (by decide)) (ae (ak (dv 0) aa) (ae (dv 2) af))) aa))))))), ?_⟩
 rintro ds Q Ed ⟨d, ps, h0, h1, h2, rfl, h⟩
 have e0 : aB ["_law_found", "_law_spots", "_law_point", "_law_number", "_law_spot_here"] [d, .lst false (ps.map spD), T3 h0 h1 h2] = ([some (.val (d)), some (.val (.lst false (ps.map spD))), some (.val (T3 h0 h1 h2)), none, none] : Ro) := rfl
 rw [e0]; clear e0
 obtain ⟨g, rfl, hl, hb, hP, hov, hneg, g0, g1, g2, h⟩ := h
 have sO : PyData.strOk "out" = true := by decide +kernel
 have okO : okD (.str "out") := (dO 0 _ sO).ok
 have eg : trD g = .tup [.int g.1, .int g.2.1, .int g.2.2] := rfl
 have o1 : Bd 1000 1 := by unfold Bd; decide
 rw [eg]
 walk_at "rx"
 rw [if_pos (by simp)]
 refine ⟨okO, okO, ?_⟩
 rw [if_neg (by rw [cM]; simp), if_pos (by simp)]
 refine PD.bN [g.1, g.2.1, g.2.2] D.int (fun _ ρ => ∃ v3 v4 : Option Sl, ρ = [some (.val (.tup [.str "out", .tup [.int g.1, .int g.2.1, .int g.2.2]])), some (.val (.lst false (ps.map spD))), some (.val (T3 h0 h1 h2)), v3, v4]) (fun R q => ?_) ⟨none, none, rfl⟩ ?_ ?_
 ·walk_at "rd"
  exact q
 ·rintro i k ρ' hi ⟨v3, v4, rfl⟩
  walk_at "rd"
  exact ⟨_, _, rfl⟩
 ·rintro ρ' ⟨v3, v4, rfl⟩
  walk_at "rx"
  refine PD.bN ps spD (fun _ ρ => ∃ v4 : Option Sl, ρ = [some (.val (.tup [.str "out", .tup [.int g.1, .int g.2.1, .int g.2.2]])), some (.val (.lst false (ps.map spD))), some (.val (T3 h0 h1 h2)), v3, v4]) (fun R q => ?_) ⟨v4, rfl⟩ ?_ ?_
  ·walk_at "rd"
   exact q
  ·rintro i p ρ' hi ⟨v4, rfl⟩
   have B := hb p (List.mem_of_getElem? hi)
   have ov := hov p (List.mem_of_getElem? hi)
   have es : spD p = .tup [.int p.1, .int p.2] := rfl
   rw [es]
   walk_at "rx"
   refine ⟨sz3 _ _ _, g0.mono (by decide), g1.mono (by decide), g2.mono (by decide), o1, B.x.mono (by decide), B.y.mono (by decide), ?_⟩
   have ov' : 0 <= g.1 * 1 + g.2.1 * p.1 + g.2.2 * p.2 := ov
   rw [if_neg (by omega)]
   exact ⟨_, rfl⟩
  ·rintro ρ' ⟨v4, rfl⟩
   walk_at "rx"
   refine ⟨g0.mono (by decide), g1.mono (by decide), g2.mono (by decide), hP.b.mono (by decide), hP.x.mono (by decide), hP.y.mono (by decide), ?_⟩
   have hn' : g.1 * h0 + g.2.1 * h1 + g.2.2 * h2 < 0 := hneg
   rw [decide_eq_true hn']
   exact h
theorem qr {f : Addr} {fd : FuncData} (F : ax K "_law_good" "_law_good" i7 f fd) (C : COk K mg κ) (h_law_in : Has P w K mg base "_law_in" 4 ["_law_found", "_law_spots", "_law_point"] (hU κ)) (h_law_out : Has P w K mg base "_law_out" 2 ["_law_found", "_law_spots", "_law_point"] (ji κ))  : aI P w K mg base (CX1 P w) 5 f fd ["_law_found", "_law_spots", "_law_point"] (aM K (iE κ)) := by
 refine ax.okN F qx (fun ds Q E h => by obtain ⟨_, _, _, _, _, rfl, _⟩ := h; rfl) fun cdv A outer s H E hr => ⟨_, (aq (av (AE (au h_law_in (hr.mono (by decide)) (ae (dv 0) (ae (dv 1) (ae (dv 2) af)))) (oM (au h_law_out (hr.mono (by decide)) (ae (dv 0) (ae (dv 1) (ae (dv 2) af)))))))), ?_⟩
 rintro ds Q Ed ⟨d, ps, h0, h1, h2, rfl, h⟩
 have e0 : aB ["_law_found", "_law_spots", "_law_point"] [d, .lst false (ps.map spD), T3 h0 h1 h2] = ([some (.val (d)), some (.val (.lst false (ps.map spD))), some (.val (T3 h0 h1 h2))] : Ro) := rfl
 rw [e0]; clear e0
 obtain ⟨hl, hb, hP, hp, hd, h⟩ := h
 walk_at "rx"
 refine ⟨hl, hb, hp, ?_⟩
 rcases hd with ⟨pk, sh, rfl, I⟩ | ⟨g, rfl, g1, g2, g3, g4, g5⟩
 ·left
  refine ⟨pk, sh, ?_, I, h⟩
  rw [bJ, aL, aL, aL, bD, bj, bj, cb, cV, bR _ (fun _ => bQ _)]
 ·right
  have e : aJ (.tup [.str "out", trD g]) = .tup [.str "out", trD g] := by rw [bJ, aL, aL, bD, cV, fg]
  exact ⟨g, e, g, e, by omega, hb, hP, g1, g2, g3, g4, g5, h⟩
theorem o5 {f : Addr} {fd : FuncData} (F : ax K "_law_asked" "_law_asked" iI f fd) (C : COk K mg κ) (h_law_good : Has P w K mg base "_law_good" 5 ["_law_found", "_law_spots", "_law_point"] (iE κ)) (h_mixture : Has P w K mg base "mixture" 5 ["spots", "place"] (eR κ)) (z_list : mg "list" = none) : aI P w K mg base (CX1 P w) 6 f fd ["_law_spots", "_law_point"] (aM K (cP κ)) := by
 refine ax.okB F dY (fun ds Q E h => by obtain ⟨_, _, _, _, rfl, _⟩ := h; rfl) fun cdv A outer s H E hr => ⟨_, (kh (aG 2 dY.nd ((yK (by rfl) z_list (dv 0))).ped) (kh (aG 3 dY.nd (au h_mixture (hr.mono (by decide)) (ae (dv 2) (ae (dv 1) af)))) (kh (aP (cY (dW (eN (au h_law_good (hr.mono (by decide)) (ae (dv 3) (ae (dv 0) (ae (dv 1) af)))))) (gX (az (j4 (by exact hr.units)) (dv 2) (dv 0)))).pt (aq (av gJ)) aC) (kh (aP (az (n6 (by exact hr.units)) (ak (dv 3) aa) iY) (aq (av (dv 3))) aC) (vi (ix := 3) (iy := 4) (by rfl) (by decide) (y4 dY.nd (by rfl) (by first | exact Or.inl rfl | exact Or.inr rfl) (zD (cD ub (cD (xb 3 (by rfl) z_list) (cD (xb 3 (by rfl) z_list) gy))))) (xj 3) (xj 3) (ze (av (dv 4)))))))), ?_⟩
 rintro ds Q Ed ⟨ps, h0, h1, h2, rfl, h⟩
 have e0 : aB ["_law_spots", "_law_point", "_law_handed", "_law_found", "_law_held"] [.lst false (ps.map spD), T3 h0 h1 h2] = ([some (.val (.lst false (ps.map spD))), some (.val (T3 h0 h1 h2)), none, none, none] : Ro) := rfl
 rw [e0]; clear e0
 obtain ⟨hz, hl, hb, hP, hp, h⟩ := h
 have hP2 : PB 120 (h0, h1, h2) := ⟨hP.b0, hP.b, hP.x.mono (by decide), hP.y.mono (by decide)⟩
 have okS : ∀ (b : Bool) (xs : List Sp), okD (.lst b (xs.map spD)) := fun b xs => (OkN.map t6).ok
 have sI : PyData.strOk "in" = true := by decide +kernel
 have sO : PyData.strOk "out" = true := by decide +kernel
 have okI : okD (.str "in") := (dO 0 _ sI).ok
 have okO : okD (.str "out") := (dO 0 _ sO).ok
 walk_at "rx"
 refine ⟨hz, hl, fun p hp => ((hb p hp).mono (by decide)).sb, hP2, ?_⟩
 unfold ip at h ⊢
 cases hc : bH (ps.map (arS (h0, h1, h2))) (cc ps.length) with
 | some res =>
  obtain ⟨pk, sh⟩ := res
  rw [hc] at h
  have I := xr hb hP2 hc
  have e1 : aJ (.tup [.str "in", pkD pk, .lst true (sh.map D.int)]) = .tup [.str "in", .lst false (pk.map fun (k : Nat) => D.int (k : Int)), .lst false (sh.map D.int)] := by
   unfold pkD
   rw [bJ, aL, aL, aL, bD, bj, bj, cb, cV, bR _ (fun _ => bQ _)]
  refine ⟨hl, hb, hP2, hp, .inl ⟨pk, sh, e1, I⟩, okS _ _, okS _ _, ?_⟩
  rw [if_neg (by rw [d8]; simp)]
  walk_at "rx"
  refine ⟨okI, okO, ?_⟩
  rw [if_neg (by rw [qF]; decide)]
  obtain ⟨k0, ks, ek⟩ : ∃ k0 ks, pk = k0 :: ks := by
   cases pk with
   | nil => exact absurd I.l0 (by simp)
   | cons a r => exact ⟨a, r, rfl⟩
  obtain ⟨n0, ns, en⟩ : ∃ n0 ns, sh = n0 :: ns := by
   cases sh with
   | nil => have := I.ls; have := I.l0; simp at *; omega
   | cons a r => exact ⟨a, r, rfl⟩
  have l3 := I.l3
  have ls := I.ls
  have epk : pkD pk = .lst true (((k0 : Int) :: ks.map fun (k : Nat) => (k : Int)).map D.int) := by
   rw [ek]
   unfold pkD
   rw [List.map_cons, List.map_cons, List.map_map]
   rfl
  refine ⟨.str "in", k0, n0, ks.map fun (k : Nat) => (k : Int), ns, by rw [epk, en]; rfl, ?_, ?_, ?_, ?_, ?_⟩
  ·rw [ek] at l3; simp at l3 ⊢; omega
  ·rw [en, ek] at ls; rw [ek] at l3; simp at ls l3 ⊢; omega
  ·intro j d j1 j2 hj
   rcases j with _ | _ | _ | _ | _ | j
   ·cases hj
    rcases ps with _ | ⟨p, ps⟩
    ·simp at hz
    ·exact .inr ⟨_, _, _, rfl, mD (p :: ps)⟩
   ·cases hj
    exact .inl (by unfold T3; simp only [lF, cW, Bool.and_true])
   ·cases hj
    rcases ps with _ | ⟨p, ps⟩
    ·simp at hz
    ·exact .inr ⟨_, _, _, rfl, mD (p :: ps)⟩
   ·exact absurd rfl j1
   ·exact absurd rfl j2
   ·simp at hj
  ·intro j x j1 j2 hj
   rcases j with _ | _ | _ | _ | _ | j
   ·cases hj
   ·cases hj
   ·cases hj
   ·cases hj
   ·cases hj
   ·simp at hj
  ·walk_at "rx"
   have h2 : Q (.tup [.str "in", pkD pk, .lst true (sh.map D.int)]) := h
   rw [epk, en] at h2
   exact h2
 | none =>
  rw [hc] at h
  intro g o1 g1 g2 g3 g4 g5
  have h' : Q (.tup [.str "out", trD g]) := h g o1 g1 g2 g3 g4 g5
  have e : aJ (.tup [.str "out", trD g]) = .tup [.str "out", trD g] := by rw [bJ, aL, aL, bD, cV, fg]
  refine ⟨hl, hb, hP2, hp, .inr ⟨g, e, g1, g2, g3, g4, g5⟩, okS _ _, okS _ _, ?_⟩
  rw [if_neg (by rw [d8]; simp)]
  walk_at "rx"
  refine ⟨okO, okO, ?_⟩
  rw [if_pos (cM _)]
  exact h'
theorem zE {f : Addr} {fd : FuncData} (F : ax K "law" "law" eA f fd) (C : COk K mg κ) (h_law_asked : Has P w K mg base "_law_asked" 6 ["_law_spots", "_law_point"] (cP κ)) (h_law_cell_at : Has P w K mg base "_law_cell_at" 1 ["_law_script", "_law_k"] (fb κ)) (h_law_in : Has P w K mg base "_law_in" 4 ["_law_found", "_law_spots", "_law_point"] (hU κ)) (h_law_mixed : Has P w K mg base "_law_mixed" 3 ["_law_spots", "_law_shares"] (cN κ)) (h_law_place : Has P w K mg base "_law_place" 4 ["_law_spots", "_law_cell"] (gK κ)) (h_law_spot : Has P w K mg base "_law_spot" 1 ["_law_kind", "_law_cell"] (iz κ)) (h_law_stream : Has P w K mg base "_law_stream" 1 ["_law_cell", "_law_many"] (du κ)) (h_mixture : Has P w K mg base "mixture" 5 ["spots", "place"] (eR κ)) (z_len : mg "len" = none) (z_range : mg "range" = none) : aI P w K mg base (CX1 P w) 7 f fd ["_law_script"] (aM K lZ) := by
 refine ax.okN F eB (fun ds Q E h => by obtain ⟨ns, rfl, _⟩ := h; rfl) fun cdv A outer s H E hr => ⟨_, (aj (aG 1 eB.nd (ai aH (au h_law_cell_at (hr.mono (by decide)) (ae (dv 0) (ae aa af))) aa)) (aj (eE 2 eB.nd (by rfl) (by exact bB (osc := ao eA) (xs := ["_law_cell"]) (ns := ["_law_kind"]) (by decide +kernel)) (aZ.cons 1 aZ.nil) (bu ((k7 (dv 0) (gr aa) (gr aa))).ped) (fun _ _ _ _ _ => bW) (fun _ _ _ _ _ => (au h_law_spot (hr.mono (by decide)) (ae (dv 1) (ae (dv 0) af))))) (aj (aP (az (n6 (by exact hr.units)) (dv 2) (cU af)) (aq (aG 2 eB.nd (cU (ae (au h_law_spot (hr.mono (by decide)) (ae (dv 1) (ae (au h_law_cell_at (hr.mono (by decide)) (ae (dv 0) (ae aa af))) af))) af)))) aC) (aj (aG 3 eB.nd (au h_law_stream (hr.mono (by decide)) (ae (au h_law_cell_at (hr.mono (by decide)) (ae (dv 0) (ae aa af))) (ae aa af)))) (aj (aG 4 eB.nd (au h_law_place (hr.mono (by decide)) (ae (dv 2) (ae (au h_law_cell_at (hr.mono (by decide)) (ae (dv 0) (ae aa af))) af)))) (aj (aG 5 eB.nd (au h_law_asked (hr.mono (by decide)) (ae (dv 2) (ae (dv 4) af)))) (aj (aG 6 eB.nd (au h_law_asked (hr.mono (by decide)) (ae (dv 2) (ae (au h_law_place (hr.mono (by decide)) (ae (dv 2) (ae (au h_law_cell_at (hr.mono (by decide)) (ae (dv 0) (ae aa af))) af))) af)))) (aj (aP (cY (az uV (dv 5) gJ) (gX (az uV (dv 6) gJ))).pt (aq (av dA)) aC) (aj (aP (pV (az jb (ai aH (ak (dv 3) aa) aa) aa) (pV (az jb (ai aH (ai bo (ak (dv 3) aa) aa) aa) aa) (qI (az (j4 (by exact hr.units)) (ak (dv 5) aa) iY)))).pt (aq (av dA)) aC) (aj (aG 7 eB.nd (au h_law_mixed (hr.mono (by decide)) (ae (dv 2) (ae (dN (by rfl) (by exact bB (osc := ao eA) (xs := ["_law_k"]) (ns := []) (by decide +kernel)) aZ.nil (cT (by rfl) z_range (ae (aE bq (by rfl) z_len boot_len (ae (dv 2) af)) af)) (fun _ _ _ _ _ => bW) (fun _ _ _ _ _ => (ai aK aa (dv 0)))) af)))) (aj (aP (dW (eN (au h_law_in (hr.mono (by decide)) (ae (au h_mixture (hr.mono (by decide)) (ae (dv 2) (ae (dv 7) af))) (ae (dv 2) (ae (dv 7) af)))))) (aq (av dA)) aC) (aq (av (jQ (n6 (by exact hr.units)) (au h_mixture (hr.mono (by decide)) (ae (dv 2) (ae (dv 4) af))) (dv 5))))))))))))))), ?_⟩
 rintro ds Q Ed ⟨ns, rfl, hl, h⟩
 have e0 : aB ["_law_script", "_law_kind", "_law_spots", "_law_xs", "_law_point", "_law_held", "_law_other", "_law_amid_all"] [.lst false (ns.map D.int)] = ([some (.val (.lst false (ns.map D.int))), none, none, none, none, none, none, none] : Ro) := rfl
 rw [e0]; clear e0
 have okS : ∀ (b : Bool) (xs : List Sp), okD (.lst b (xs.map spD)) := fun b xs => (OkN.map t6).ok
 have sI : PyData.strOk "in" = true := by decide +kernel
 have sO : PyData.strOk "out" = true := by decide +kernel
 have okI : okD (.str "in") := (dO 0 _ sI).ok
 have okO : okD (.str "out") := (dO 0 _ sO).ok
 refine cB (fun ρ => ∃ k : Int, ρ = [some (.val (.lst false (ns.map D.int))), some (.val (.int k)), none, none, none, none, none, none]) ?_ fun K hK => ?_
 ·rintro ρ' ⟨k, rfl⟩
  refine cB (fun ρ => ∃ ps : List Sp, ps.length <= 30 /\ (∀ p ∈ ps, WB 40 p) /\ ρ = [some (.val (.lst false (ns.map D.int))), some (.val (.int k)), some (.val (.lst true (ps.map spD))), none, none, none, none, none]) ?_ fun K hK => ?_
  ·rintro ρ' ⟨ps, pl, hB, rfl⟩
   refine cB (fun ρ => ∃ ps : List Sp, 0 < ps.length /\ ps.length <= 30 /\ (∀ p ∈ ps, WB 40 p) /\ ρ = [some (.val (.lst false (ns.map D.int))), some (.val (.int k)), some (.val (.lst true (ps.map spD))), none, none, none, none, none]) ?_ fun K hK => ?_
   ·rintro ρ' ⟨ps, p0, pl, hB, rfl⟩
    refine cB (fun ρ => ρ = [some (.val (.lst false (ns.map D.int))), some (.val (.int k)), some (.val (.lst true (ps.map spD))), some (.val (.lst true ((cn (ns.getD 1 0) 12).map D.int))), none, none, none, none]) ?_ fun K hK => ?_
    ·rintro ρ' rfl
     refine cB (fun ρ => ∃ hh : Tr, PB 100 hh /\ Prm hh /\ (0 < ((cn (ns.getD 1 0) 12).getD 0 0).fmod 4 -> 0 < (((cn (ns.getD 1 0) 12).getD 0 0).fdiv 12).fmod 3 -> kM ps hh) /\ ρ = [some (.val (.lst false (ns.map D.int))), some (.val (.int k)), some (.val (.lst true (ps.map spD))), some (.val (.lst true ((cn (ns.getD 1 0) 12).map D.int))), some (.val (trD hh)), none, none, none]) ?_ fun K hK => ?_
     ·rintro ρ' ⟨hh, hP, hPr, hMx, rfl⟩
      have hP2 : PB 120 hh := ⟨hP.b0, hP.b, hP.x.mono (by decide), hP.y.mono (by decide)⟩
      refine cB (fun ρ => ∃ d : D, fx ps hh d /\ ρ = [some (.val (.lst false (ns.map D.int))), some (.val (.int k)), some (.val (.lst true (ps.map spD))), some (.val (.lst true ((cn (ns.getD 1 0) 12).map D.int))), some (.val (trD hh)), some (.val d), none, none]) ?_ fun K hK => ?_
      ·rintro ρ' ⟨d, hd, rfl⟩
       refine cB (fun ρ => ∃ o : D, eO o = false /\ ρ = [some (.val (.lst false (ns.map D.int))), some (.val (.int k)), some (.val (.lst true (ps.map spD))), some (.val (.lst true ((cn (ns.getD 1 0) 12).map D.int))), some (.val (trD hh)), some (.val d), some (.val o), none]) ?_ fun K hK => ?_
       ·rintro ρ' ⟨o, ho, rfl⟩
        refine cB (fun ρ => ρ = [some (.val (.lst false (ns.map D.int))), some (.val (.int k)), some (.val (.lst true (ps.map spD))), some (.val (.lst true ((cn (ns.getD 1 0) 12).map D.int))), some (.val (trD hh)), some (.val d), some (.val o), none]) ?_ fun K hK => ?_
        ·rintro ρ' rfl
         refine cB (fun ρ => ρ = [some (.val (.lst false (ns.map D.int))), some (.val (.int k)), some (.val (.lst true (ps.map spD))), some (.val (.lst true ((cn (ns.getD 1 0) 12).map D.int))), some (.val (trD hh)), some (.val d), some (.val o), none]) ?_ fun K hK => ?_
         ·rintro ρ' rfl
          walk_at "rx"
          refine PD.comp_map (List.range' 0 ps.length) (fun (k : Nat) => D.int (k : Int)) (fun _ => true) (fun k => .int (1 + (k : Int))) (fun R q => ?_) (by rw [List.length_range', sizeLine_eq]; omega) (fun k hk K hK => ?_) (fun k hk _ K hK => ?_) ?_
          ·walk_at "rd"
           rw [List.length_map, k6]
           exact ⟨⟨by omega, by omega⟩, q⟩
          ·walk_at "rd"
           exact hK
          ·walk_at "rd"
           exact hK
          rw [List.filter_eq_self.mpr (fun _ _ => rfl)]
          obtain ⟨ws, ew, wl, wb⟩ : ∃ ws : List Int, (List.range' 0 ps.length).map (fun (k : Nat) => D.int (1 + (k : Int))) = ws.map D.int /\ ws.length = ps.length /\ ∀ w ∈ ws, 0 < w /\ Bd 5 w := by
           refine ⟨(List.range' 0 ps.length).map fun (k : Nat) => 1 + (k : Int), by rw [List.map_map]; rfl, by rw [List.length_map, List.length_range'], fun w hw => ?_⟩
           obtain ⟨k, hk, rfl⟩ := List.mem_map.mp hw
           have := (List.mem_range'_1.mp hk).2
           exact ⟨by omega, bdl 32 (by omega) (by decide)⟩
          rw [ew, bj, cb, bV]
          refine ⟨wl.symm, p0, pl, hB, fun w hw => ⟨(wb w hw).1, (wb w hw).2.mono (by decide)⟩, fun g p q r hg e1 e2 e3 e4 _ => ?_⟩
          obtain ⟨zs, ez1, ez2⟩ := jr (ps := ps) (ws := ws) wl.symm
          have zl : zs.length = ps.length := by have := congrArg List.length ez1; rw [List.length_map] at this; exact this.symm
          have z0 : zs ≠ [] := fun e => by rw [e] at zl; simp at zl; omega
          have zm : ∀ z ∈ zs, z.1 ∈ ps /\ 0 < z.2 /\ WB 40 z.1 /\ Bd 5 z.2 := fun z hz' => by
           have m1 : z.1 ∈ ps := by rw [ez1]; exact List.mem_map.mpr ⟨z, hz', rfl⟩
           have m2 : z.2 ∈ ws := by rw [ez2]; exact List.mem_map.mpr ⟨z, hz', rfl⟩
           exact ⟨m1, (wb _ m2).1, hB _ m1, (wb _ m2).2⟩
          have eX : sX ps ws = (zs.map fun z => z.1.1 * z.2).sum := by
           have : sX (zs.map (·.1)) (zs.map (·.2)) = (zs.map fun z => z.1.1 * z.2).sum := by unfold sX; rw [List.zipWith_map, List.zipWith_self]
           rw [<- ez1, <- ez2] at this; exact this
          have eY : sY ps ws = (zs.map fun z => z.1.2 * z.2).sum := by
           have : sY (zs.map (·.1)) (zs.map (·.2)) = (zs.map fun z => z.1.2 * z.2).sum := by unfold sY; rw [List.zipWith_map, List.zipWith_self]
           rw [<- ez1, <- ez2] at this; exact this
          have wpos : 0 < ws.sum := iX _ (by omega) fun x hx => (wb x hx).1
          have q0 : 0 < p := iS hg e1 wpos
          have mix : kM ps (p, q, r) := by
           refine ⟨zs, z0, fun z hz' => ⟨(zm z hz').1, (zm z hz').2.1⟩, ?_, ?_⟩
           ·show (zs.map (·.2)).sum * q = p * _
            rw [<- ez2, <- eX, <- e1, <- e2]
            grind
           ·show (zs.map (·.2)).sum * r = p * _
            rw [<- ez2, <- eY, <- e1, <- e3]
            grind
          have hz3 : ∀ M : Nat, zs.length * M <= 30 * M := fun M => Nat.mul_le_mul_right _ (by omega)
          have up : ∀ n : Nat, 30 * 2 ^ n < 2 ^ (n + 5) := fun n => by rw [Nat.pow_add]; have := Nat.pow_pos (n := n) (show 0 < 2 by decide); omega
          have b1 : Bd 10 ws.sum := by
           have := df (M := 2 ^ 5) ws fun x hx => Nat.le_of_lt (wb x hx).2
           rw [wl, <- zl] at this
           exact Nat.lt_of_le_of_lt (Nat.le_trans this (hz3 _)) (up 5)
          have b2 : Bd 50 (sX ps ws) := by
           rw [eX]
           have := df (M := 2 ^ 45) (zs.map fun z => z.1.1 * z.2) fun x hx => by
            obtain ⟨z, hzm, rfl⟩ := List.mem_map.mp hx
            rw [Int.natAbs_mul, show (2 : Nat) ^ 45 = 2 ^ 40 * 2 ^ 5 from Nat.pow_add 2 40 5]
            exact Nat.mul_le_mul (Nat.le_of_lt (zm z hzm).2.2.1.x) (Nat.le_of_lt (zm z hzm).2.2.2)
           rw [List.length_map] at this
           exact Nat.lt_of_le_of_lt (Nat.le_trans this (hz3 _)) (up 45)
          have b3 : Bd 50 (sY ps ws) := by
           rw [eY]
           have := df (M := 2 ^ 45) (zs.map fun z => z.1.2 * z.2) fun x hx => by
            obtain ⟨z, hzm, rfl⟩ := List.mem_map.mp hx
            rw [Int.natAbs_mul, show (2 : Nat) ^ 45 = 2 ^ 40 * 2 ^ 5 from Nat.pow_add 2 40 5]
            exact Nat.mul_le_mul (Nat.le_of_lt (zm z hzm).2.2.1.y) (Nat.le_of_lt (zm z hzm).2.2.2)
           rw [List.length_map] at this
           exact Nat.lt_of_le_of_lt (Nat.le_trans this (hz3 _)) (up 45)
          have hP3 : PB 120 (p, q, r) := ⟨q0, (cX hg e1 b1).mono (by decide), (cX hg e2 b2).mono (by decide), (cX hg e3 b3).mono (by decide)⟩
          have untT : aJ (T3 p q r) = T3 p q r := fg (p, q, r)
          have sbP : ∀ z ∈ ps, SB z := fun z hz => ((hB z hz).mono (by decide)).sb
          have ne := List.ne_nil_of_length_pos p0
          rw [untT, dn]
          refine ⟨p0, pl, sbP, hP3, gY fun d3 hd3 => ?_⟩
          rw [gD]
          refine ⟨pl, hB, ⟨q0, e4⟩, .inl ?_⟩
          rcases hd3 with ⟨pk, sh, em, rfl⟩ | ⟨em, g3, ⟨ys, hy, _⟩, _⟩
          ·refine ⟨pk, sh, ?_, xr hB hP3 em, true, rfl, ?_⟩
           ·unfold pkD
            rw [bJ, aL, aL, aL, bD, bj, bj, cb, cV, bR _ (fun _ => bQ _)]
           ·rw [if_neg (by simp)]
            show eR κ [D.lst false (List.map spD ps), T3 hh.1 hh.2.1 hh.2.2] _ _
            rw [dn]
            refine ⟨p0, pl, sbP, hP2, gY fun d4 hd4 => ⟨hd4.ok, hd.ok, ?_⟩⟩
            rw [fx.uniq hd4 hd, cM]
            exact h
          ·exact absurd em (nu ne q0 mix hy)
         ·obtain ⟨sl, _⟩ := rM (ns.getD 1 0) 12
          have gd : ∀ xs : List Int, 0 < xs.length -> atI (xs.map D.int) 0 = some (.int (xs.getD 0 0)) := fun xs hx => bA (j := 0) (by rw [List.getElem?_map, List.getD_eq_getElem?_getD, List.getElem?_eq_getElem hx]; rfl)
          have a0 := gd (cn (ns.getD 1 0) 12) (by rw [sl]; decide)
          walk_at "rx"
          simp only [a0]
          walk_at "rx"
          refine ⟨by decide, ?_⟩
          split
          ·rename_i c1
           refine ⟨CD.lit, by decide, ?_⟩
           split
           ·rename_i c2
            have ne := List.ne_nil_of_length_pos p0
            rcases hd with ⟨pk, sh, em, rfl⟩ | ⟨em, g3, ⟨ys, hy, _⟩, _⟩
            ·walk_at "rx"
             refine ⟨okI, okI, ?_⟩
             rw [if_neg (by rw [cM]; simp)]
             exact hK _ rfl
            ·exact absurd em (nu ne hP.b0 (hMx c1 c2) hy)
           ·exact hK _ rfl
          ·exact hK _ rfl
        ·walk_at "rx"
         rw [if_neg (by rw [hd.non]; simp), if_neg (by rw [ho]; simp)]
         exact hK _ rfl
       ·walk_at "rx"
        refine ⟨by decide, hl, p0, pl, hB, fun h2 hP3 hPr3 _ => ?_⟩
        show cP κ [D.lst false (List.map spD ps), T3 h2.1 h2.2.1 h2.2.2] _ _
        rw [cJ]
        exact ⟨p0, pl, hB, hP3, hPr3, gY fun d2 hd2 => hK _ ⟨d2, hd2.non, rfl⟩⟩
      ·walk_at "rx"
       show cP κ [D.lst false (List.map spD ps), T3 hh.1 hh.2.1 hh.2.2] _ _
       rw [cJ]
       exact ⟨p0, pl, hB, hP, hPr, gY fun d2 hd2 => hK _ ⟨d2, hd2, rfl⟩⟩
     ·walk_at "rx"
      exact ⟨by decide, hl, p0, pl, hB, fun hh hP hPr hMx => hK _ ⟨hh, hP, hPr, hMx, rfl⟩⟩
    ·walk_at "rx"
     exact ⟨by decide, hl, by decide, by decide, hK _ rfl⟩
   ·walk_at "rx"
    refine ⟨Nat.zero_le _, okS _ _, (OkN.lst (.nil 0)).ok, ?_⟩
    split
    ·exact ⟨by decide, hl, fun p hp => ⟨sz1 _, hK _ ⟨[p], by simp, by simp, by simpa using hp, rfl⟩⟩⟩
    ·rename_i c
     refine hK _ ⟨ps, ?_, pl, hB, rfl⟩
     cases ps with
     | nil => exact absurd (d8 _ _ _) c
     | cons z r => simp
  ·walk_at "rx"
   obtain ⟨ys, e, hy⟩ := Az D.int ns
   refine jU ys D.int spD (WB 40) (fun R q => ?_) (by rw [sizeLine_eq]; omega) (fun x hx K hK => ?_) fun ps hlp hP => ?_
   ·walk_at "rd"
    rw [e]
    exact q
   ·walk_at "rd"
    exact hK
   ·exact hK _ ⟨ps, by omega, hP, rfl⟩
 ·walk_at "rx"
  exact ⟨by decide, hl, by decide, hK _ ⟨_, rfl⟩⟩
end
theorem all_mk {l : PySem.W.OpenLaw} {w : World} {K : PySem.W.Frag} {h : Heap} {mg : Str -> Option Value} {fa f38 c_PlaneError c_TooFew : Addr} (X : K.In h) (G : h.Ns mainGlobals mg) (hfa : mg "law" = some (.ref fa))
  {od38 an38 : Option Addr} {sl38 : Array (Option Value)} {oc38 kV38 dc38 pm38 cd38 ct38 : Value}
  (e0 : FL K "sign" oZ)
  (e1 : FL K "common_divisor" dG)
  (e2 : FL K "lowest" jt)
  (e3 : FL K "picks" kg)
  (e4 : FL K "value" mR)
  (e5 : FL K "side" qm)
  (e6 : FL K "crossed" jF)
  (e7 : FL K "facing" lG)
  (e8 : FL K "place_of" jo)
  (e9 : FL K "swing" mM)
  (e10 : FL K "arrow" mN)
  (e11 : FL K "turn" qn)
  (e12 : FL K "back" qc)
  (e13 : FL K "left_of" jI)
  (e14 : FL K "chain" mO)
  (e15 : FL K "hull" l5)
  (e16 : FL K "thin_bounds" fT)
  (e17 : FL K "bounds" i6)
  (e18 : FL K "length" lx)
  (e19 : FL K "are_opposite" fi)
  (e20 : FL K "balance_of_two" dJ)
  (e21 : FL K "balance_of_three" bZ)
  (e22 : FL K "balance" jT)
  (e23 : FL K "_law_whole" iu)
  (e24 : FL K "_law_divisor" fO)
  (e25 : FL K "_law_value" iD)
  (e26 : FL K "_law_cell_at" fP)
  (e27 : FL K "parting_gauge" cK)
  (e28 : FL K "mixture" fF)
  (e29 : FL K "_law_stream" gP)
  (e30 : FL K "_law_spot" i4)
  (e31 : FL K "_law_lowest" gC)
  (e32 : FL K "_law_mixed" dh)
  (e33 : FL K "_law_place" di)
  (e34 : FL K "_law_in" jc)
  (e35 : FL K "_law_out" jH)
  (e36 : FL K "_law_good" i7)
  (e37 : FL K "_law_asked" iI)
  (a38 : PySem.W.nsIn K mainGlobals "law" = some (some (.ref f38))) (l38 : K.lookup f38 = some ⟨oc38, od38, .func (PySem.W.fnOf "law" "law" (c7 eA) (bK eA) (ao eA) .none kV38 dc38 pm38 an38 cd38 ct38), sl38⟩) (c38 : PySem.W.codeIn K cd38 "law" = true) (k38 : PySem.W.keepIn K (.ref f38) = true)
  (mg_PlaneError : PySem.W.nsIn K mainGlobals "PlaneError" = some (some (.ref c_PlaneError)))
  (mg_TooFew : PySem.W.nsIn K mainGlobals "TooFew" = some (some (.ref c_TooFew)))
  (exc_TooFew : PySem.W.excIn K c_TooFew xl "ValueError.__new__" = true)
  (xk_TooFew : PX.wk K c_TooFew = true)
  (kit_TooFew_PlaneError : PySem.W.kitOne K (.ref c_TooFew) (.ref c_PlaneError) = some true)
  (kit_TooFew_TooFew : PySem.W.kitOne K (.ref c_TooFew) (.ref c_TooFew) = some true)
  (kit_TooFew_ValueError : PySem.W.kitOne K (.ref c_TooFew) (.type "ValueError") = some true)
  (exm_TooFew_PlaneError : PySem.W.exmOne K (.ref c_TooFew) (.ref c_PlaneError) = some true)
  (exm_TooFew_TooFew : PySem.W.exmOne K (.ref c_TooFew) (.ref c_TooFew) = some true)
  (z_abs : PySem.W.nsIn K mainGlobals "abs" = some none) (z_bool : PySem.W.nsIn K mainGlobals "bool" = some none) (z_int : PySem.W.nsIn K mainGlobals "int" = some none) (z_isinstance : PySem.W.nsIn K mainGlobals "isinstance" = some none) (z_len : PySem.W.nsIn K mainGlobals "len" = some none) (z_list : PySem.W.nsIn K mainGlobals "list" = some none) (z_max : PySem.W.nsIn K mainGlobals "max" = some none) (z_min : PySem.W.nsIn K mainGlobals "min" = some none) (z_range : PySem.W.nsIn K mainGlobals "range" = some none) (z_set : PySem.W.nsIn K mainGlobals "set" = some none) (z_sorted : PySem.W.nsIn K mainGlobals "sorted" = some none) (z_sum : PySem.W.nsIn K mainGlobals "sum" = some none) (z_tuple : PySem.W.nsIn K mainGlobals "tuple" = some none) (z_zip : PySem.W.nsIn K mainGlobals "zip" = some none) :
  ∃ fd : FuncData, (∀ (s : Shared) (v : Value), BindsTo s fd ⟨[v], []⟩ [("_law_script", v)]) /\ ∀ base : Heap, K.In base -> base.Ns mainGlobals mg -> aI l.prog w K mg base (CX1 l.prog w) 7 fa fd ["_law_script"] (aM K lZ) := by
 have e := hfa.symm.trans (PySem.W.mg_of X G a38)
 cases e
 have z_abs := PySem.W.mg_none_of X G z_abs
 have z_bool := PySem.W.mg_none_of X G z_bool
 have z_int := PySem.W.mg_none_of X G z_int
 have z_isinstance := PySem.W.mg_none_of X G z_isinstance
 have z_len := PySem.W.mg_none_of X G z_len
 have z_list := PySem.W.mg_none_of X G z_list
 have z_max := PySem.W.mg_none_of X G z_max
 have z_min := PySem.W.mg_none_of X G z_min
 have z_range := PySem.W.mg_none_of X G z_range
 have z_set := PySem.W.mg_none_of X G z_set
 have z_sorted := PySem.W.mg_none_of X G z_sorted
 have z_sum := PySem.W.mg_none_of X G z_sum
 have z_tuple := PySem.W.mg_none_of X G z_tuple
 have z_zip := PySem.W.mg_none_of X G z_zip
 have C : COk K mg ⟨c_PlaneError, c_TooFew⟩ := ⟨PySem.W.mg_of X G mg_PlaneError, PySem.W.mg_of X G mg_TooFew, exc_TooFew, PX.eQ.of xk_TooFew, kit_TooFew_PlaneError, kit_TooFew_TooFew, kit_TooFew_ValueError, exm_TooFew_PlaneError, exm_TooFew_TooFew⟩
 refine ⟨PySem.W.fnOf "law" "law" (c7 eA) (bK eA) (ao eA) .none kV38 dc38 pm38 an38 cd38 ct38, fun s v => .of_eq rfl, fun base _ _ => ?_⟩
 have h_sign := e0.has l.prog w base X G fun F => xC F C
 have h_common_divisor := e1.has l.prog w base X G fun F => kx F C z_abs
 have h_lowest := e2.has l.prog w base X G fun F => uZ F C h_common_divisor
 have h_picks := e3.has l.prog w base X G fun F => wm F C z_range
 have h_value := e4.has l.prog w base X G fun F => vN F C
 have h_side := e5.has l.prog w base X G fun F => yn F C h_sign h_value
 have h_crossed := e6.has l.prog w base X G fun F => sT F C
 have h_facing := e7.has l.prog w base X G fun F => um F C
 have h_place_of := e8.has l.prog w base X G fun F => qq F C
 have h_swing := e9.has l.prog w base X G fun F => vD F C
 have h_arrow := e10.has l.prog w base X G fun F => vd F C
 have h_turn := e11.has l.prog w base X G fun F => xH F C
 have h_back := e12.has l.prog w base X G fun F => xv F C
 have h_left_of := e13.has l.prog w base X G fun F => sA F C
 have h_chain := e14.has l.prog w base X G fun F => ve F C h_swing z_len
 have h_hull := e15.has l.prog w base X G fun F => yH F C h_chain h_place_of z_len z_set z_sorted
 have h_thin_bounds := e16.has l.prog w base X G fun F => mn F C h_arrow h_back h_facing h_left_of
 have h_bounds := e17.has l.prog w base X G fun F => ui F C h_crossed h_thin_bounds z_len z_range
 have h_length := e18.has l.prog w base X G fun F => uf F C z_abs
 have h_are_opposite := e19.has l.prog w base X G fun F => lW F C h_turn
 have h_balance_of_two := e20.has l.prog w base X G fun F => kv F C h_are_opposite h_length h_lowest
 have h_balance_of_three := e21.has l.prog w base X G fun F => jC F C h_lowest h_turn z_max z_min
 have h_balance := e22.has l.prog w base X G fun F => si F C h_balance_of_three h_balance_of_two h_length z_len
 have h_law_whole := e23.has l.prog w base X G fun F => qb F C z_bool z_int z_isinstance
 have h_law_divisor := e24.has l.prog w base X G fun F => mf F C z_abs
 have h_law_value := e25.has l.prog w base X G fun F => o8 F C
 have h_law_cell_at := e26.has l.prog w base X G fun F => mP F C z_len
 have h_parting_gauge := e27.has l.prog w base X G fun F => k9 F C h_bounds h_hull h_side
 have h_mixture := e28.has l.prog w base X G fun F => rV F C h_arrow h_balance h_parting_gauge h_picks h_place_of z_len
 have h_law_stream := e29.has l.prog w base X G fun F => nV F C z_range
 have h_law_spot := e30.has l.prog w base X G fun F => qw F C
 have h_law_lowest := e31.has l.prog w base X G fun F => nW F C h_law_divisor
 have h_law_mixed := e32.has l.prog w base X G fun F => pG F C h_law_lowest z_sum z_zip
 have h_law_place := e33.has l.prog w base X G fun F => pU F C h_law_lowest h_law_mixed h_law_stream z_len z_range
 have h_law_in := e34.has l.prog w base X G fun F => tM F C h_law_divisor h_law_mixed h_law_whole z_isinstance z_len z_list z_max z_min z_set z_sorted z_tuple
 have h_law_out := e35.has l.prog w base X G fun F => sj F C h_law_value h_law_whole z_isinstance z_len z_tuple
 have h_law_good := e36.has l.prog w base X G fun F => qr F C h_law_in h_law_out
 have h_law_asked := e37.has l.prog w base X G fun F => o5 F C h_law_good h_mixture z_list
 exact zE (qW (st := eA) l38 c38 k38) C h_law_asked h_law_cell_at h_law_in h_law_mixed h_law_place h_law_spot h_law_stream h_mixture z_len z_range
end LW
theorem PySem.W.Fast.te791470363530918639 : True := trivial
def PySem.W.Fast.tw9868240901896078833 : PySem.Program := PySem.Challenge.pw_halvecut_k33_whole_in_or_out
theorem PySem.W.Fast.te9868240901896078833 : PySem.Challenge.pw_halvecut_k33_whole_in_or_out = PySem.W.Fast.tw9868240901896078833 := rfl
def PySem.W.Fast.tw5406285396382611710 : Unit := ()
def PySem.W.Fast.tw6944308473599774737 : Unit := ()
def PySem.W.Fast.tw10141262837952694906 : Unit := ()
def PySem.W.Fast.tw15358647088696938 : Unit := ()
def PySem.W.Fast.tw8091786725468592489 : Unit := ()
def PySem.W.Fast.tw4637896633887281064 : Unit := ()
def PySem.W.Fast.tw16800195346681995829 : Unit := ()
open PySem PySem.W PyProof.Rows
set_option maxRecDepth 100000 in
set_option maxHeartbeats 0 in
theorem PySem.Challenge.cw_halvecut_k33_whole_in_or_out_holds : PySem.Challenge.rw_halvecut_k33_whole_in_or_out.Holds := by
 w_on; o_law; k_head; (case hw => w_witness2)
 k_fill
 refine PD.walk (l := PySem.Challenge.rw_halvecut_k33_whole_in_or_out) (k := 7) (x := "_law_script") rfl rfl ⟨rfl, by decide, by decide⟩ (fun w h Y => PySem.W.kIn_of Y) (fun w => by kernel_rfl) ?F
 case F =>
  intro w mg fa h KX G hmg
  refine' LW.all_mk KX G hmg ?e0 ?e1 ?e2 ?e3 ?e4 ?e5 ?e6 ?e7 ?e8 ?e9 ?e10 ?e11 ?e12 ?e13 ?e14 ?e15 ?e16 ?e17 ?e18 ?e19 ?e20 ?e21 ?e22 ?e23 ?e24 ?e25 ?e26 ?e27 ?e28 ?e29 ?e30 ?e31 ?e32 ?e33 ?e34 ?e35 ?e36 ?e37 ?a38 ?l38 ?c38 ?k38 ?mg_PlaneError ?mg_TooFew ?exc_TooFew ?xk_TooFew ?kit_TooFew_PlaneError ?kit_TooFew_TooFew ?kit_TooFew_ValueError ?exm_TooFew_PlaneError ?exm_TooFew_TooFew ?z_abs ?z_bool ?z_int ?z_isinstance ?z_len ?z_list ?z_max ?z_min ?z_range ?z_set ?z_sorted ?z_sum ?z_tuple ?z_zip
  all_goals try (refine' PD.FL.mk ?a ?l ?c ?k; (case a => k_is); (case l => k_is); (case c => k_is); (case k => k_is))
  (case a38 => k_is)
  (case l38 => k_is)
  (case c38 => k_is)
  (case k38 => k_is)
  (case mg_PlaneError => k_is)
  (case mg_TooFew => k_is)
  (case exc_TooFew => kernel_rfl)
  (case xk_TooFew => kernel_rfl)
  (case kit_TooFew_PlaneError => kernel_rfl)
  (case kit_TooFew_TooFew => kernel_rfl)
  (case kit_TooFew_ValueError => kernel_rfl)
  (case exm_TooFew_PlaneError => kernel_rfl)
  (case exm_TooFew_TooFew => kernel_rfl)
  (case z_abs => k_is)
  (case z_bool => k_is)
  (case z_int => k_is)
  (case z_isinstance => k_is)
  (case z_len => k_is)
  (case z_list => k_is)
  (case z_max => k_is)
  (case z_min => k_is)
  (case z_range => k_is)
  (case z_set => k_is)
  (case z_sorted => k_is)
  (case z_sum => k_is)
  (case z_tuple => k_is)
  (case z_zip => k_is)
