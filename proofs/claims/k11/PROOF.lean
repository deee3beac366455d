import PyProof.Rows.All
import Wide.All
import OpenK.AllK
import Wide.FinOn
import Lean
import PyProof.EqAt
import PyProof.EqKinds
import PyProof.TupleCall
import PySem.Challenge.RW_halvecut_k11_dots_made
set_option Elab.async false
set_option linter.all false
set_option maxRecDepth 100000
abbrev zAA := @List.getElem?_set_ne
abbrev zAB := @PySem.Heap.get?_push_of_some
abbrev zAC := @PySem.Heap.lt_size
abbrev zAD := @List.getElem?_eq_some_iff
abbrev zAE := @List.getElem?_set_self
abbrev zAF := @List.length_map
abbrev zAG := @Nat.lt_of_lt_of_le
abbrev zAH := @Nat.le_refl
abbrev zAI := @List.mem_append_right
abbrev zAJ := @PySem.Heap.get?_push_size
abbrev zAK := @List.map_cons
abbrev zAL := @Bool.false_ne_true
abbrev zAM := @List.getElem?_append_right
abbrev zAN := @List.getElem?_map
abbrev zAO := @List.size_toArray
abbrev zAP := @List.cons.injEq
abbrev zAQ := @List.length_append
abbrev zAR := @Option.some.inj
abbrev zAS := @List.length_set
abbrev zAT := @Nat.ne_of_lt
abbrev zAU := @List.mem_cons
abbrev zAV := @List.getElem?_append_left
abbrev zAW := @Bool.and_eq_true
abbrev zAX := @Nat.mod_eq_of_lt
abbrev zAY := @List.getElem?_eq_none
abbrev zAZ := @Nat.zero_le
abbrev zAa := @Nat.le_trans
abbrev zAb := @List.mem_cons_of_mem
abbrev zAc := @List.lookup_cons
abbrev zAd := @Array.length_toList
abbrev zAe := @Nat.lt_irrefl
abbrev zAf := @List.mem_cons_self
abbrev zAg := @Nat.pow_succ
abbrev zAh := @List.length_take
abbrev zAi := @Nat.not_lt
abbrev zAj := @List.getElem?_replicate
abbrev zAk := @List.append_nil
abbrev zAl := @List.mem_append
abbrev zAm := @Array.getElem?_eq_some_iff
abbrev zAn := @List.cons_append
abbrev zAo := @List.not_mem_nil
abbrev zAp := @Array.append_assoc
abbrev zAq := @Array.getElem?_toList
abbrev zAr := @List.eq_nil_of_length_eq_zero
abbrev zAs := @PySem.Heap.size_push
abbrev zAt := @List.all_eq_true
abbrev zAu := @List.length_cons
abbrev zAv := @Bool.false_eq_true
abbrev zAw := @List.map_nil
abbrev zAx := @List.find?_cons
abbrev zAy := @List.mem_of_getElem?
abbrev zAz := @List.pairwise_append
abbrev zA0 := @List.filterMap_cons
abbrev zA1 := @PySem.Heap.IsTupleIter.typeIs
abbrev zA2 := @List.map_append
abbrev zA3 := @List.set_cons_succ
abbrev zA4 := @List.set_cons_zero
abbrev zA5 := @PySem.Heap.get?_update_other
abbrev zA6 := @List.length_singleton
abbrev zA7 := @List.length_drop
abbrev zA8 := @List.mem_append_left
abbrev zA9 := @Array.perm_iff_toList_perm
abbrev zBA := @Array.getElem?_eq_getElem
abbrev zBB := @Classical.byContradiction
abbrev zBC := @List.nil_append
abbrev zBD := @List.mem_filterMap
namespace L2
open PySem PySem.Spec PyProof.Rows
abbrev Key := Sum Int Str
def fU : Key -> Value -> Bool
 | .inl k, v => Value.isInt k v
 | .inr x, v => Value.isStrOf x v
def ub (w : World) : Key -> Int
 | .inl k => hashInt k
 | .inr x => hashStr w x
theorem aX : ∀ {k : Key} {v : Value}, fU k v = true -> (∃ i t, k = Sum.inl i /\ v = Value.int i t) ∨ (∃ x t, k = Sum.inr x /\ v = Value.str x t)
 | .inl i, v, h => by
  obtain ⟨t, e⟩ := Value.isInt_shape (k := i) (v := v) h
  exact .inl ⟨i, t, rfl, e⟩
 | .inr x, v, h => by
  obtain ⟨t, e⟩ := Value.isStrOf_shape (x := x) (v := v) h
  exact .inr ⟨x, t, rfl, e⟩
theorem nG (i : Int) (t : Tok) : fU (.inl i) (.int i t) = true := by simp [fU, Value.isInt]
theorem nI (x : Str) (t : Tok) : fU (.inr x) (.str x t) = true := by simp [fU, Value.isStrOf]
theorem rP (a b : Int) : decide ((Sum.inl a : Key) = Sum.inl b) = (a == b) := by
 by_cases e : a = b
 ·subst e; simp
 ·have h : ¬ (Sum.inl a : Key) = Sum.inl b := fun q => e (Sum.inl.inj q)
  rw [decide_eq_false h]
  exact (beq_eq_false_iff_ne.mpr e).symm
theorem rS (a b : Str) : decide ((Sum.inr a : Key) = Sum.inr b) = decide (a = b) := by
 by_cases e : a = b
 ·subst e; simp
 ·have h : ¬ (Sum.inr a : Key) = Sum.inr b := fun q => e (Sum.inr.inj q)
  rw [decide_eq_false h, decide_eq_false e]
theorem rQ (a : Int) (b : Str) : decide ((Sum.inl a : Key) = Sum.inr b) = false := decide_eq_false (fun q => nomatch q)
theorem rR (a : Str) (b : Int) : decide ((Sum.inr a : Key) = Sum.inl b) = false := decide_eq_false (fun q => nomatch q)
def bN (prog : Program) (w : World) : PySem.KeyKind prog w Key where
 is := fU
 hash := ub w
 inj := fun v a b ha hb => by
  rcases aX ha with ⟨i, t, rfl, rfl⟩ | ⟨x, t, rfl, rfl⟩
  ·rcases aX hb with ⟨j, u, rfl, e⟩ | ⟨y, u, rfl, e⟩
   ·injection e with e1 _; rw [e1]
   ·exact nomatch e
  ·rcases aX hb with ⟨j, u, rfl, e⟩ | ⟨y, u, rfl, e⟩
   ·exact nomatch e
   ·injection e with e1 _; rw [e1]
 byValue := fun k v h => by
  rcases aX h with ⟨i, t, rfl, rfl⟩ | ⟨x, t, rfl, rfl⟩ <;> rfl
 pyHash := fun hv h => by
  rcases aX hv with ⟨i, t, rfl, rfl⟩ | ⟨x, t, rfl, rfl⟩
  ·exact wpAny_pyHash_int h
  ·exact wpAny_pyHash_str h
 eqBool := fun hu hv h => by
  rcases aX hu with ⟨i, t, rfl, rfl⟩ | ⟨x, t, rfl, rfl⟩
  ·rcases aX hv with ⟨j, u, rfl, rfl⟩ | ⟨y, u, rfl, rfl⟩
   ·rw [rP] at h; exact wpAny_eqBool_int h
   ·rw [rQ] at h; exact SeqAt.EqAt.int_str i t y u _ _ _ _ h
  ·rcases aX hv with ⟨j, u, rfl, rfl⟩ | ⟨y, u, rfl, rfl⟩
   ·rw [rR] at h; exact SeqAt.EqAt.str_int x t j u _ _ _ _ h
   ·rw [rS] at h; exact wpAny_eqBool_str h
 «strs» := fun k x t v h => by
  rcases aX h with ⟨i, u, rfl, e⟩ | ⟨y, u, rfl, e⟩
  ·exact nomatch e
  ·injection e with e1 _
   subst e1
   cases v <;> rfl
theorem j2 (prog : Program) (w : World) (i : Int) (t : Tok) : (bN prog w).is (.inl i) (.int i t) = true := nG i t
theorem j3 (prog : Program) (w : World) (x : Str) (t : Tok) : (bN prog w).is (.inr x) (.str x t) = true := nI x t
end L2
namespace L2
open PySem PySem.Spec PyProof.Rows
inductive V where
 | non | bl (b : Bool) | int (i : Int) | str (x : Str) | byt (b : Array UInt8) | flt (b : UInt64) | ref (a : Addr) | ty (n : String)
 deriving DecidableEq
def RelV : V -> Value -> Prop
 | .non, u => u = Value.none
 | .bl b, u => u = Value.bool b
 | .int i, u => ∃ t, u = Value.int i t
 | .str x, u => ∃ t, u = Value.str x t
 | .byt b, u => ∃ t, u = Value.bytes b t
 | .flt b, u => ∃ t, u = Value.float b t
 | .ref a, u => u = Value.ref a
 | .ty n, u => u = Value.type n
abbrev Vals : List V -> List Value -> Prop := Paired RelV
theorem Vals.length {xs : List V} {us : List Value} (r : Vals xs us) : xs.length = us.length := Paired.length r
theorem Vals.get : ∀ {xs : List V} {us : List Value} {i : Nat} {x : V}, Vals xs us -> xs[i]? = some x -> ∃ u, us[i]? = some u /\ RelV x u
 | _, _, _, _, .nil, e => by simp at e
 | _, _, 0, _, .cons r _, e => by simp at e; subst e; exact ⟨_, rfl, r⟩
 | _, _, i + 1, x, .cons _ t, e => by
  obtain ⟨u, h1, h2⟩ := Vals.get (i := i) (x := x) t (by simpa using e)
  exact ⟨u, by simpa using h1, h2⟩
theorem Vals.set {x : V} {u : Value} (r : RelV x u) : ∀ {xs : List V} {us : List Value} (i : Nat), Vals xs us -> Vals (xs.set i x) (us.set i u)
 | _, _, _, .nil => .nil
 | _, _, 0, .cons _ t => .cons r t
 | _, _, i + 1, .cons q t => .cons q (Vals.set r i t)
theorem Vals.append : ∀ {xs ys : List V} {us ws : List Value}, Vals xs us -> Vals ys ws -> Vals (xs ++ ys) (us ++ ws)
 | _, _, _, _, .nil, s => s
 | _, _, _, _, .cons r t, s => .cons r (Vals.append t s)
theorem Vals.take : ∀ {xs : List V} {us : List Value} (n : Nat), Vals xs us -> Vals (xs.take n) (us.take n)
 | _, _, 0, _ => .nil
 | _, _, _ + 1, .nil => .nil
 | _, _, n + 1, .cons r t => .cons r (Vals.take n t)
theorem Vals.drop : ∀ {xs : List V} {us : List Value} (n : Nat), Vals xs us -> Vals (xs.drop n) (us.drop n)
 | _, _, 0, r => r
 | _, _, _ + 1, .nil => .nil
 | _, _, n + 1, .cons _ t => Vals.drop n t
theorem Vals.none_of : ∀ {xs : List V} {us : List Value} {i : Nat}, Vals xs us -> xs[i]? = none -> us[i]? = none := fun {xs us i} r e => by
 have h1 := r.length
 have h2 : xs.length <= i := List.getElem?_eq_none_iff.mp e
 exact List.getElem?_eq_none_iff.mpr (by omega)
def dW : Option V -> Option Value -> Prop
 | some v, some u => RelV v u
 | none, none => True
 | _, _ => False
def KV {κ : Type} : List (κ × V) -> List (κ × Value) -> Prop := Paired fun (p : κ × V) (q : κ × Value) => p.1 = q.1 /\ RelV p.2 q.2
def kV : Key -> V
 | .inl i => .int i
 | .inr x => .str x
inductive HO where
 | lst (xs : List V)
 | tup (xs : List V)
 | dK (kvs : List (Key × V)) | dT (kvs : List (List Key × V))
 | set (S : Int -> Bool) (n : Nat)
 | ins (C dx : Addr) (fs : List (Str × V))
 | own (x : Addr)
 | xd (fs : List (Str × V))
 | met (f x : Addr)
 | rng (lo hi : Int)
 | frz (o : Obj) (u : HO)
 | tbl (ps : Array Value)
 | ext (φ : Heap -> Prop)
abbrev Hp := Addr -> Option HO
def upd (H : Hp) (a : Addr) (o : HO) : Hp := fun b => if b = a then some o else H b
theorem aw {H : Hp} {a : Addr} {o : HO} : upd H a o a = some o := by unfold upd; rw [if_pos rfl]
theorem aj {H : Hp} {a b : Addr} {o : HO} (h : b ≠ a) : upd H a o b = H b := by unfold upd; rw [if_neg h]
theorem eU {H : Hp} {a b : Addr} {o u : HO} (h : H a = some o) (h' : H b = some u) (d : o ≠ u) : a ≠ b := by
 intro e; subst e; rw [h] at h'; exact d (zAR h')
theorem aA {H : Hp} {a b : Addr} {o : HO} (h : H a = some o) (h' : H b = none) : a ≠ b := by
 intro e; subst e; rw [h] at h'; cases h'
section
variable (P : Program) (w : World)
def aN (H : Hp) (h : Heap) (a : Addr) : HO -> Prop
 | .lst xs => xs.length <= sizeLine /\ ∃ (its : List Value) (n : Nat), Vals xs its /\ h.get? a = some { cls := .type "list", data := .seq its.toArray n }
 | .tup xs => xs.length <= sizeLine /\ ∃ its : List Value, Vals xs its /\ IsTup h a its.toArray
 | .dK kvs => kvs.length <= sizeLine /\ (a == sysModules) = false /\ ∃ vs, KV kvs vs /\ h.DictOf (bN P w) a vs
 | .dT kvs => kvs.length <= sizeLine /\ (a == sysModules) = false /\ ∃ xs : List (List Key × Addr × Value),
   Paired (fun (p : List Key × V) (q : List Key × Addr × Value) => p.1 = q.1 /\ H q.2.1 = some (.tup (p.1.map kV)) /\ RelV p.2 q.2.2) kvs xs ∧
   ∃ o es ep, h.get? a = some o /\ o.ExactDict /\ o.data = .dict es ep /\ es.toList = xs.map (entryOfKey (tupleKind (bN P w))) /\ (xs.map (·.1)).Nodup
 | .set S n => h.SetOf (intKind P w) a S n
 | .ins C dx fs => H dx = some (.own a) /\ fs.length <= 1000 /\ dx ≠ a /\ h.get? a = some (PySem.W.instObj C dx) ∧
   ∃ mA, h.Ns1 dx mA /\ (∀ f, dW (fs.lookup f) (mA f)) /\ PySem.Within mA (fs.map (·.1))
 | .own _ => ∃ o, h.get? a = some o
 | .xd fs => ∃ mA, h.Ns1 a mA /\ ∀ f, dW (fs.lookup f) (mA f)
 | .rng lo hi => ∃ t u v, h.get? a = some { cls := .type "range", data := .fields #[.int lo t, .int hi u, .int 1 v] }
 | .frz o u => h.get? a = some o /\ aN H h a u
 | .tbl ps => h.get? a = some { cls := .none, data := .fields ps }
 | .met f x => h.get? a = some (PySem.W.methodObj (.ref f) (.ref x))
 | .ext φ => φ h /\ (∃ o, h.get? a = some o) /\ ∀ h1 h2 : Heap, φ h1 -> (∀ o, h1.get? a = some o -> h2.get? a = some o) -> φ h2
def HOk (H : Hp) (h : Heap) : Prop := ∀ a o, H a = some o -> aN P w H h a o
end
section
variable {P : Program} {w : World} {H H' : Hp} {h h' : Heap} {a : Addr} {o : HO}
theorem aN.lt (x : aN P w H h a o) : a < h.objs.size := by
 cases o with
 | lst xs => obtain ⟨_, _, _, _, e⟩ := x; exact zAC e
 | tup xs => obtain ⟨_, _, _, p⟩ := x; exact p.lt
 | dK kvs => obtain ⟨_, _, _, _, o, _, _, e, _⟩ := x; exact zAC e
 | dT kvs => obtain ⟨_, _, _, _, o, _, _, e, _⟩ := x; exact zAC e
 | set S n => obtain ⟨o, _, _, _, e, _⟩ := x; exact zAC e
 | ins C dx fs => obtain ⟨_, _, _, e, _⟩ := x; exact zAC e
 | own y => obtain ⟨_, e⟩ := x; exact zAC e
 | xd fs => obtain ⟨_, ⟨_, _, _, e, _⟩, _⟩ := x; exact zAC e
 | rng lo hi => obtain ⟨_, _, _, e⟩ := x; exact zAC e
 | frz ob u => obtain ⟨e, _⟩ := x; exact zAC e
 | tbl ps => exact zAC (show h.get? a = some _ from x)
 | met f y => exact zAC (show h.get? a = some _ from x)
 | ext φ => obtain ⟨_, ⟨_, e⟩, _⟩ := x; exact zAC e
theorem Paired.mapP {α β : Type} {F G : α -> β -> Prop} : ∀ {l₁ : List α} {l₂ : List β}, Paired F l₁ l₂ -> (∀ a b, F a b -> G a b) -> Paired G l₁ l₂
 | _, _, .nil, _ => .nil
 | _, _, .cons r t, f => .cons (f _ _ r) (Paired.mapP t f)
theorem aN.stay (x : aN P w H h a o) (k : ∀ b u, (b = a ∨ H b = some (.own a)) -> h.get? b = some u -> h'.get? b = some u)
  (ho : ∀ b, H b = some (.own a) -> H' b = some (.own a)) (ht : ∀ b xs, H b = some (.tup xs) -> H' b = some (.tup xs)) : aN P w H' h' a o := by
 induction o with
 | lst xs => obtain ⟨z, its, n, r, e⟩ := x; exact ⟨z, its, n, r, k _ _ (.inl rfl) e⟩
 | tup xs => obtain ⟨z, its, r, ob, e, c⟩ := x; exact ⟨z, its, r, ob, k _ _ (.inl rfl) e, c⟩
 | dK kvs => obtain ⟨z, y, vs, r, ob, es, ep, e, c⟩ := x; exact ⟨z, y, vs, r, ob, es, ep, k _ _ (.inl rfl) e, c⟩
 | dT kvs =>
  obtain ⟨z, y, xs, r, ob, es, ep, e, c⟩ := x
  exact ⟨z, y, xs, Paired.mapP r fun p q z => ⟨z.1, ht _ _ z.2.1, z.2.2⟩, ob, es, ep, k _ _ (.inl rfl) e, c⟩
 | set S n => obtain ⟨ob, es, ep, t, e, c⟩ := x; exact ⟨ob, es, ep, t, k _ _ (.inl rfl) e, c⟩
 | ins C dx fs =>
  obtain ⟨d, z, ne, e, mA, ⟨od, es, ep, e2, c⟩, r⟩ := x
  exact ⟨ho _ d, z, ne, k _ _ (.inl rfl) e, mA, ⟨od, es, ep, k _ _ (.inr d) e2, c⟩, r⟩
 | own y => obtain ⟨ob, e⟩ := x; exact ⟨ob, k _ _ (.inl rfl) e⟩
 | xd fs => obtain ⟨mA, ⟨od, es, ep, e, c⟩, r⟩ := x; exact ⟨mA, ⟨od, es, ep, k _ _ (.inl rfl) e, c⟩, r⟩
 | rng lo hi => obtain ⟨t, u, v, e⟩ := x; exact ⟨t, u, v, k _ _ (.inl rfl) e⟩
 | frz ob u ih => obtain ⟨e, q⟩ := x; exact ⟨k _ _ (.inl rfl) e, ih q⟩
 | tbl ps =>
  have e : h.get? a = some { cls := .none, data := .fields ps } := x
  show h'.get? a = some { cls := .none, data := .fields ps }
  exact k a _ (.inl rfl) e
 | met f y =>
  have e : h.get? a = some (PySem.W.methodObj (.ref f) (.ref y)) := x
  show h'.get? a = some (PySem.W.methodObj (.ref f) (.ref y))
  exact k a _ (.inl rfl) e
 | ext φ => obtain ⟨p, ⟨o, e⟩, st⟩ := x; exact ⟨st _ _ p fun o q => k _ _ (.inl rfl) q, ⟨o, k _ _ (.inl rfl) e⟩, st⟩
theorem HOk.lt (x : HOk P w H h) (e : H a = some o) : a < h.objs.size := (x a o e).lt
theorem HOk.fresh (x : HOk P w H h) (e : h.objs.size <= a) : H a = none := by
 cases q : H a with
 | none => rfl
 | some u => exact absurd (zAG (x.lt q) e) (zAe _)
theorem HOk.kept (x : HOk P w H h) (k : ∀ b u, h.get? b = some u -> h'.get? b = some u) : HOk P w H h' := fun a o e =>
 (x a o e).stay (fun b u _ q => k b u q) (fun _ q => q) fun _ _ q => q
theorem HOk.laid (x : HOk P w H h) (k : ∀ b u, h.get? b = some u -> h'.get? b = some u) (hp : h.objs.size <= a) (new : aN P w (upd H a o) h' a o) : HOk P w (upd H a o) h' := fun b u e => by
 have hn := x.fresh hp
 by_cases hb : b = a
 ·subst hb; rw [aw] at e; cases e; exact new
 ·rw [aj hb] at e
  exact (x b u e).stay (fun c v _ q => k c v q) (fun c q => by rw [aj (aA q hn)]; exact q) fun c xs q => by rw [aj (aA q hn)]; exact q
end
def Rd (H : Hp) (a : Addr) (u : HO) : Prop := H a = some u ∨ ∃ o, H a = some (.frz o u)
theorem Rd.of {H : Hp} {a : Addr} {u : HO} (h : H a = some u) : Rd H a u := .inl h
theorem Rd.ok {P : Program} {w : World} {H : Hp} {h : Heap} {a : Addr} {u : HO} (r : Rd H a u) (x : HOk P w H h) : aN P w H h a u := by
 rcases r with r | ⟨o, r⟩
 ·exact x a u r
 ·obtain ⟨_, q⟩ := x a _ r
  exact q
def Mut : Option HO -> Prop
 | some (.lst _) => True
 | some (.dK _) => True
 | some (.dT _) => True
 | some (.set _ _) => True
 | some (.ins _ _ _) => True
 | some (.ext _) => True
 | _ => False
section
variable {P : Program} {w : World} {H : Hp} {h h' : Heap} {x e : Addr} {o' : HO}
theorem HOk.write (ok : HOk P w H h) (mu : Mut (H x)) (he : e = x ∨ H e = some (.own x)) (k : ∀ b u, b ≠ e -> h.get? b = some u -> h'.get? b = some u) (heo : ∃ u, h'.get? e = some u)
  (new : aN P w (upd H x o') h' x o') : HOk P w (upd H x o') h' := fun b u q => by
 have nown : ∀ c y, H c = some (.own y) -> c ≠ x := fun c y r z => by subst z; rw [r] at mu; exact mu
 have ntup : ∀ c xs, H c = some (.tup xs) -> c ≠ x := fun c xs r z => by subst z; rw [r] at mu; exact mu
 by_cases hb : b = x
 ·subst hb; rw [aw] at q; cases q; exact new
 ·rw [aj hb] at q
  by_cases hbe : b = e
  ·have q' : H b = some (.own x) := by
    rcases he with z | z
    ·exact absurd (hbe.trans z) hb
    ·rw [hbe]; exact z
   rw [q] at q'; cases q'
   obtain ⟨v, hv⟩ := heo
   exact ⟨v, by rw [hbe]; exact hv⟩
  ·refine (ok b u q).stay (fun c v hc r => k c v ?_ r) (fun c r => by rw [aj (nown c b r)]; exact r) fun c xs r => by rw [aj (ntup c xs r)]; exact r
   rcases hc with rfl | hc
   ·exact hbe
   ·rintro rfl
    rcases he with z | z
    ·exact nown c b hc z
    ·rw [hc] at z; cases z; exact hb rfl
end
structure Un (fs ex : List Addr) (H H' : Hp) (h h' : Heap) : Prop where
 keep : ∀ b o, h.get? b = some o -> H b = none -> b ∉ fs -> b ∉ ex -> h'.get? b = some o
 slot : ∀ b o, h.get? b = some o -> H b = none -> b ∈ fs -> b ∉ ex -> ∃ sl, h'.get? b = some { o with slots := sl }
 free : ∀ b o, h.get? b = some o -> H b = none -> b ∉ ex -> H' b = none
 there : ∀ b o, h.get? b = some o -> b ∉ ex -> ∃ o', h'.get? b = some o'
 tups : ∀ b xs, H b = some (.tup xs) -> H' b = some (.tup xs)
 frzs : ∀ b o u, H b = some (.frz o u) -> H' b = some (.frz o u)
 tbls : ∀ b ps, H b = some (.tbl ps) -> ∃ more, H' b = some (.tbl (ps ++ more))
section
variable {fs fs' ex ex' : List Addr} {H H1 H2 : Hp} {h h1 h2 h' : Heap} {a x e : Addr} {o : HO}
theorem Un.any (u : Un fs ex H H1 h h1) {b : Addr} {ob : Obj} (q : h.get? b = some ob) (n : H b = none) (hx : b ∉ ex) : ∃ sl, h1.get? b = some { ob with slots := sl } := by
 by_cases hb : b ∈ fs
 ·exact u.slot b ob q n hb hx
 ·exact ⟨ob.slots, u.keep b ob q n hb hx⟩
theorem Un.trans (a : Un fs ex H H1 h h1) (b : Un fs ex H1 H2 h1 h2) : Un fs ex H H2 h h2 where
 keep := fun c ob q n hc hx => b.keep c ob (a.keep c ob q n hc hx) (a.free c ob q n hx) hc hx
 slot := fun c ob q n hc hx => by
  obtain ⟨sl, e1⟩ := a.slot c ob q n hc hx
  obtain ⟨sl', e2⟩ := b.slot c _ e1 (a.free c ob q n hx) hc hx
  exact ⟨sl', e2⟩
 free := fun c ob q n hx => by
  obtain ⟨o', e1⟩ := a.there c ob q hx
  exact b.free c o' e1 (a.free c ob q n hx) hx
 there := fun c ob q hx => by
  obtain ⟨o', e1⟩ := a.there c ob q hx
  exact b.there c o' e1 hx
 tups := fun c xs q => b.tups c xs (a.tups c xs q)
 frzs := fun c ob xs q => b.frzs c ob xs (a.frzs c ob xs q)
 tbls := fun c ps q => by
  obtain ⟨m1, e1⟩ := a.tbls c ps q
  obtain ⟨m2, e2⟩ := b.tbls c _ e1
  exact ⟨m1 ++ m2, by rw [e2, zAp]⟩
theorem Un.kept (k : ∀ b u, h.get? b = some u -> h'.get? b = some u) : Un fs ex H H h h' :=
 ⟨fun b ob q _ _ _ => k b ob q, fun b ob q _ _ _ => ⟨ob.slots, k b ob q⟩, fun _ _ _ n _ => n, fun b ob q _ => ⟨ob, k b ob q⟩, fun _ _ q => q, fun _ _ _ q => q, fun _ ps q => ⟨#[], by rw [q]; simp⟩⟩
theorem Un.refl : Un fs ex H H h h := Un.kept fun _ _ q => q
theorem Un.laid (k : ∀ b u, h.get? b = some u -> h'.get? b = some u) (hp : h.objs.size <= a) (hn : H a = none) : Un fs ex H (upd H a o) h h' where
 keep := fun b u q _ _ _ => k b u q
 slot := fun b u q _ _ _ => ⟨u.slots, k b u q⟩
 free := fun b u q n _ => by rw [aj (zAT (zAG (zAC q) hp))]; exact n
 there := fun b u q _ => ⟨u, k b u q⟩
 tups := fun b xs q => by rw [aj (aA q hn)]; exact q
 frzs := fun b u xs q => by rw [aj (aA q hn)]; exact q
 tbls := fun b ps q => ⟨#[], by rw [aj (aA q hn), q]; simp⟩
theorem Un.write (mu : Mut (H x)) (he : e = x ∨ H e = some (.own x)) (k : ∀ b u, b ≠ e -> h.get? b = some u -> h'.get? b = some u) (heo : ∃ u, h'.get? e = some u) : Un fs ex H (upd H x o) h h' := by
 have hx : ∀ b, H b = none -> b ≠ x := fun b n z => by subst z; rw [n] at mu; exact mu
 have hb : ∀ b, H b = none -> b ≠ e := fun b n z => by
  subst z
  rcases he with r | r
  ·exact hx b n r
  ·rw [n] at r; cases r
 have hm : ∀ b u, H b = some u -> ¬ Mut (some u) -> b ≠ x := fun b u q nm z => by subst z; rw [q] at mu; exact nm mu
 refine ⟨fun b u q n _ _ => k b u (hb b n) q, fun b u q n _ _ => ⟨u.slots, k b u (hb b n) q⟩, fun b u q n _ => by rw [aj (hx b n)]; exact n, fun b u q _ => ?_,
  fun b xs q => by rw [aj (hm b _ q fun z => z)]; exact q, fun b u xs q => by rw [aj (hm b _ q fun z => z)]; exact q, fun b ps q => ⟨#[], by rw [aj (hm b _ q fun z => z), q]; simp⟩⟩
 by_cases hbe : b = e
 ·subst hbe; exact heo
 ·exact ⟨u, k b u hbe q⟩
theorem Un.mono (u : Un fs ex H H1 h h1) (hs : ∀ b ∈ fs, b ∈ fs') (hx : ∀ b ∈ ex, b ∈ ex') : Un fs' ex' H H1 h h1 :=
 ⟨fun b ob q n hb he => u.keep b ob q n (fun z => hb (hs b z)) fun z => he (hx b z), fun _ _ q n _ he => u.any q n fun z => he (hx _ z), fun b ob q n he => u.free b ob q n fun z => he (hx b z), fun b ob q he => u.there b ob q fun z => he (hx b z), u.tups, u.frzs, u.tbls⟩
end
def trk (h : Heap) (H : Hp) : List Addr := (List.range h.objs.size).filter fun a => (H a).isSome
def eS (h : Heap) (H : Hp) : Heap := PySem.W.hideAll h (trk h H)
theorem ng (h : Heap) (H : Hp) : (eS h H).objs.size = h.objs.size := PySem.W.hideAll_size _ _
theorem o5 {h : Heap} {H : Hp} {b : Addr} {o : Obj} (e : h.get? b = some o) (n : H b = none) : (eS h H).get? b = some o :=
 PySem.W.hideAll_get _ e fun hm => by
  have q : (H b).isSome = true := (List.mem_filter.mp hm).2
  rw [n] at q; simp at q
theorem qN {h : Heap} {H : Hp} {b : Addr} {o : Obj} (e : (eS h H).get? b = some o) : h.get? b = some o /\ H b = none := by
 have e' : h.get? b = some o := PySem.W.of_hideAll (trk h H) e
 refine ⟨e', ?_⟩
 cases q : H b with
 | none => rfl
 | some x =>
  have hm : b ∈ trk h H := List.mem_filter.mpr ⟨List.mem_range.mpr (zAC e'), by simp [q]⟩
  have z : (eS h H).get? b = none := PySem.W.hideAll_none (trk h H) hm
  rw [z] at e; cases e
def qr (g h : Heap) (L : Addr) : List (Addr × Obj) := (List.range h.objs.size).filterMap fun a => if a = L ∨ (g.get? a).isSome = true then none else (h.get? a).map fun o => (a, o)
def rest (g h : Heap) (L d : Addr) : List (Addr × Obj) := (qr g h L).filter fun p => decide (p.1 ≠ d)
end L2
namespace L2
open PySem PySem.Spec PyProof.Rows
structure Mod (K : PySem.W.Frag) (mg : Str -> Option Value) (base : Heap) : Prop where
 kin : K.In base
 glob : base.Ns mainGlobals mg
 blt : ∃ mb, base.Ns builtinsNs mb /\ ∀ x : Str, x ≠ "__name__" -> mb x = bootBuiltins x
 nolimit : base.NoLimit
structure Cx where
 prog : Program
 w : World
 K : PySem.W.Frag
 mg : Str -> Option Value
 base : Heap
 A : Around
 N : List Str
 s₀ : Shared
 H₀ : Hp
 env : Env
 outer : List Env
 stack : List Env
 ex : List Addr
 fn : Str -> Bool
 calm : Bool
 pn : List (Addr × Obj)
 xe : Value -> Shared -> Prop
def frs (l : List Env) : List Addr := l.filterMap (·.frame)
abbrev Cx.fs (X : Cx) : List Addr := frs X.outer
def Vis (sc : Scope) (x : Str) : Prop := sc.names.lookup x = some .local ∨ sc.names.lookup x = some .cell ∨ sc.names.lookup x = some .free
def Loc (sc : Scope) (x : Str) : Prop := sc.names.lookup x = some .local ∨ sc.names.lookup x = some .cell
def Look (env : Env) (h : Heap) (m : Str -> Option Value) (x : Str) (u : Value) : Prop :=
 (env.kindOf x = some .local /\ m x = some u) ∨ ((env.kindOf x = some .cell ∨ env.kindOf x = some .free) /\ ∃ c, env.cells.lookup x = some c /\ h.IsCell c (some u))
structure Cx.Ok (X : Cx) : Prop where
 mod : Mod X.K X.mg X.base
 kind : X.env.scope.kind = .function
 glob : X.env.globals = mainGlobals
 blt : X.env.builtins = builtinsNs
 above : X.s₀.heap.objs.size <= X.env.locals
 inj : ∀ x y c, X.env.cells.lookup x = some c -> X.env.cells.lookup y = some c -> x = y
 has : ∀ x, (X.env.kindOf x = some .cell ∨ X.env.kindOf x = some .free) -> ∃ c, X.env.cells.lookup x = some c
 cab : ∀ x c, X.fn x = true -> X.env.cells.lookup x = some c -> X.s₀.heap.objs.size <= c
 hd : X.calm = true -> X.A.handled = none
 frames : X.A.frames = some X.stack
 stk : X.stack = X.outer ∨ (X.stack = X.env :: X.outer /\ X.env.frame = some X.env.locals)
 exf : ∀ b ∈ X.ex, b ≠ X.env.locals /\ ∀ x c, X.env.cells.lookup x = some c -> c ≠ b
 bs : ∀ b o, X.base.get? b = some o -> X.s₀.heap.get? b = some o /\ X.H₀ b = none
 bsz : X.base.objs.size <= X.s₀.heap.objs.size
 noex : ∀ b o, X.base.get? b = some o -> b ∉ X.ex
 exfs : ∀ b ∈ X.ex, b ∉ X.fs
 funs : X.s₀.heap.FunFrames X.base X.outer
 frf : ∀ b ∈ X.fs, X.H₀ b = none
structure Inv (X : Cx) (pins : List (Addr × Obj)) (σ : List (Option V)) (H : Hp) (s : Shared) : Prop where
 ok : X.Ok
 os : s.os = X.s₀.os
 bare : AllBare s.gens
 base : Un X.fs X.ex X.H₀ H X.s₀.heap s.heap
 loc : ∃ m, s.heap.Ns X.env.locals m /\ ∀ (i : Nat) (x : Str) (v : V), X.N[i]? = some x -> σ[i]? = some (some v) -> Vis X.env.scope x -> ∃ u, RelV v u /\ Look X.env s.heap m x u
 cell : ∀ x c, X.env.cells.lookup x = some c -> ∃ v, s.heap.IsCell c v
 free : H X.env.locals = none
 freeC : ∀ x c, X.env.cells.lookup x = some c -> H c = none
 pin : ∀ p ∈ X.pn ++ pins, s.heap.get? p.1 = some p.2 /\ H p.1 = none /\ p.1 ≠ X.env.locals /\ p.1 ∉ X.fs /\ ∀ v, p.2.data ≠ .cell v
 hok : HOk X.prog X.w H s.heap
 len : σ.length = X.N.length
section
variable {X : Cx} {pins : List (Addr × Obj)} {σ : List (Option V)} {H H' : Hp} {s : Shared} {h' : Heap}
theorem Cx.Ok.nofr (ok : X.Ok) {b : Addr} {o : Obj} (e : X.base.get? b = some o) : b ∉ X.fs := fun hb => by
 have := (ok.funs.mem hb).1
 rw [e] at this; cases this
theorem Inv.bs (I : Inv X pins σ H s) : ∀ b o, X.base.get? b = some o -> s.heap.get? b = some o /\ H b = none := fun b o e =>
 ⟨I.base.keep b o (I.ok.bs b o e).1 (I.ok.bs b o e).2 (I.ok.nofr e) (I.ok.noex b o e), I.base.free b o (I.ok.bs b o e).1 (I.ok.bs b o e).2 (I.ok.noex b o e)⟩
theorem Inv.bk (I : Inv X pins σ H s) : ∀ b o, X.base.get? b = some o -> s.heap.get? b = some o := fun b o e => (I.bs b o e).1
theorem Inv.mod (I : Inv X pins σ H s) : Mod X.K X.mg X.base := I.ok.mod
theorem Inv.kIn (I : Inv X pins σ H s) : X.K.In s.heap := I.ok.mod.kin.keeps I.bk
theorem Inv.nolimit (I : Inv X pins σ H s) : s.heap.NoLimit := I.ok.mod.nolimit.keeps I.bk
theorem Inv.fr (I : Inv X pins σ H s) : ∃ m, Fr X.base X.env.locals s.heap m :=
 let ⟨m, hn, _⟩ := I.loc
 ⟨m, hn, I.bk, zAa I.ok.bsz I.ok.above⟩
theorem Inv.lt (I : Inv X pins σ H s) : X.env.locals < s.heap.objs.size := let ⟨_, hn, _⟩ := I.loc; hn.lt
theorem Inv.sz (I : Inv X pins σ H s) : X.s₀.heap.objs.size <= s.heap.objs.size := zAa I.ok.above (Nat.le_of_lt I.lt)
theorem Inv.nofs (I : Inv X pins σ H s) {a : Addr} (h : s.heap.objs.size <= a) : a ∉ X.fs := fun hb => by
 obtain ⟨_, o, ho, _⟩ := I.ok.funs.mem hb
 exact absurd (zAG (zAC ho) (zAa I.sz h)) (zAe _)
theorem Inv.cne (I : Inv X pins σ H s) : ∀ x c, X.env.cells.lookup x = some c -> c ≠ X.env.locals := fun x c e z => by
 obtain ⟨v, o, ho, hd⟩ := I.cell x c e
 obtain ⟨m, ⟨o', es, ep, ho', hd', _⟩, _⟩ := I.loc
 rw [z, ho'] at ho; cases ho; rw [hd'] at hd; cases hd
theorem Inv.funs (I : Inv X pins σ H s) : s.heap.FunFrames X.base X.outer := by
 have all : ∀ (l : List Env), (∀ b ∈ frs l, b ∈ X.fs) -> X.s₀.heap.FunFrames X.base l -> s.heap.FunFrames X.base l := by
  intro l
  induction l with
  | nil => intro _ _; trivial
  | cons env r ih =>
   intro hs hl
   obtain ⟨hk, ⟨L, o, hf, hn, ho, hd⟩, hr⟩ := hl
   have hL : L ∈ X.fs := hs L (by unfold frs; rw [zA0, hf]; exact zAf)
   obtain ⟨sl, e⟩ := I.base.slot L o ho (I.ok.frf L hL) hL fun z => I.ok.exfs L z hL
   exact ⟨hk, ⟨L, _, hf, hn, e, hd⟩, ih (fun b hb => hs b (by unfold frs; rw [zA0, hf]; exact zAb _ hb)) hr⟩
 exact all X.outer (fun _ hb => hb) I.ok.funs
theorem Inv.stack (I : Inv X pins σ H s) : s.heap.FunFrames X.base X.stack := by
 rcases I.ok.stk with e | ⟨e, hf⟩
 ·rw [e]; exact I.funs
 ·rw [e]
  obtain ⟨m, hn, _⟩ := I.loc
  refine .cons (by rw [I.ok.kind]; decide) hf hn ?_ I.funs
  exact Heap.get?_none_of_le (zAa I.ok.bsz I.ok.above)
theorem Inv.stkSub (I : Inv X pins σ H s) : ∀ b ∈ frs X.stack, b ∈ X.env.locals :: X.fs := fun b hb => by
 rcases I.ok.stk with e | ⟨e, hf⟩
 ·rw [e] at hb; exact zAb _ hb
 ·rw [e] at hb
  unfold frs at hb
  rw [zA0, hf] at hb
  exact hb
theorem Inv.stkFree (I : Inv X pins σ H s) : ∀ b ∈ frs X.stack, H b = none := fun b hb => by
 rcases zAU.mp (I.stkSub b hb) with e | hb
 ·rw [e]; exact I.free
 ·obtain ⟨_, o, ho, _⟩ := I.ok.funs.mem hb
  exact I.base.free b o ho (I.ok.frf b hb) fun z => I.ok.exfs b z hb
theorem Inv.step {g' : Array GenState} {t' : Nat} {d' : Drawn} {ch : List Addr} (I : Inv X pins σ H s)
  (hch : ∀ b ∈ ch, (b ∈ X.ex ∨ X.s₀.heap.objs.size <= b) /\ b ≠ X.env.locals /\ (∀ x c, X.env.cells.lookup x = some c -> c ≠ b) /\ ∀ p ∈ X.pn ++ pins, p.1 ≠ b)
  (keep : ∀ b o, b ≠ X.env.locals -> b ∉ X.fs -> b ∉ ch -> s.heap.get? b = some o -> H b = none -> h'.get? b = some o)
  (slot : ∀ b o, b ≠ X.env.locals -> b ∈ X.fs -> b ∉ ch -> s.heap.get? b = some o -> H b = none -> ∃ sl, h'.get? b = some { o with slots := sl }) (free : ∀ b o, b ∉ ch -> s.heap.get? b = some o -> H b = none -> H' b = none)
  (there : ∀ b o, b ∉ ch -> s.heap.get? b = some o -> ∃ o', h'.get? b = some o')
  (tups : ∀ b xs, H b = some (.tup xs) -> H' b = some (.tup xs)) (frzs : ∀ b o u, H b = some (.frz o u) -> H' b = some (.frz o u)) (tbls : ∀ b ps, H b = some (.tbl ps) -> ∃ more, H' b = some (.tbl (ps ++ more)))
  (ns : ∀ m, s.heap.Ns X.env.locals m -> h'.Ns X.env.locals m) (hok : HOk X.prog X.w H' h') (hg : AllBare g') :
  Inv X pins σ H' { s with heap := h', gens := g', drawn := d', toks := t' } := by
 have neL : ∀ b o, X.s₀.heap.get? b = some o -> b ≠ X.env.locals := fun b o e => zAT (zAG (zAC e) I.ok.above)
 have neC : ∀ b o, X.s₀.heap.get? b = some o -> b ∉ X.ex -> b ∉ ch := fun b o e hx hb => by
  rcases (hch b hb).1 with z | z
  ·exact hx z
  ·exact absurd (zAG (zAC e) z) (zAe _)
 have cellK : ∀ x c, X.env.cells.lookup x = some c -> ∀ v, s.heap.IsCell c v -> h'.IsCell c v := fun x c e v ⟨o, ho, hd⟩ => by
  have nch : c ∉ ch := fun z => (hch c z).2.2.1 x c e rfl
  by_cases hc : c ∈ X.fs
  ·obtain ⟨sl, q⟩ := slot c o (I.cne x c e) hc nch ho (I.freeC x c e)
   exact ⟨_, q, hd⟩
  ·exact ⟨o, keep c o (I.cne x c e) hc nch ho (I.freeC x c e), hd⟩
 refine ⟨I.ok, I.os, hg, ⟨fun b o e n hb hx => ?_, fun b o e n hb hx => ?_, fun b o e n hx => ?_, fun b o e hx => ?_, fun b xs e => tups b xs (I.base.tups b xs e), fun b o xs e => frzs b o xs (I.base.frzs b o xs e), fun b ps e => ?_⟩, ?_, fun x c e => ?_, ?_, fun x c e => ?_, fun p hp => ?_, hok, I.len⟩
 ·exact keep b o (neL b o e) hb (neC b o e hx) (I.base.keep b o e n hb hx) (I.base.free b o e n hx)
 ·obtain ⟨sl, e1⟩ := I.base.slot b o e n hb hx
  obtain ⟨sl', e2⟩ := slot b _ (neL b o e) hb (neC b o e hx) e1 (I.base.free b o e n hx)
  exact ⟨sl', e2⟩
 ·obtain ⟨o', e1⟩ := I.base.there b o e hx
  exact free b o' (neC b o e hx) e1 (I.base.free b o e n hx)
 ·obtain ⟨o', e1⟩ := I.base.there b o e hx
  exact there b o' (neC b o e hx) e1
 ·obtain ⟨m1, e1⟩ := I.base.tbls b ps e
  obtain ⟨m2, e2⟩ := tbls b _ e1
  exact ⟨m1 ++ m2, by rw [e2, zAp]⟩
 ·obtain ⟨m, hn, hl⟩ := I.loc
  refine ⟨m, ns m hn, fun i x v e1 e2 e3 => ?_⟩
  obtain ⟨u, r, l⟩ := hl i x v e1 e2 e3
  refine ⟨u, r, ?_⟩
  rcases l with l | ⟨k, c, e, z⟩
  ·exact .inl l
  ·exact .inr ⟨k, c, e, cellK x c e _ z⟩
 ·obtain ⟨v, z⟩ := I.cell x c e
  exact ⟨v, cellK x c e v z⟩
 ·obtain ⟨m, ⟨o, _, _, ho, _⟩, _⟩ := I.loc
  exact free _ o (fun z => (hch _ z).2.1 rfl) ho I.free
 ·obtain ⟨v, o, ho, hd⟩ := I.cell x c e
  exact free c o (fun z => (hch c z).2.2.1 x c e rfl) ho (I.freeC x c e)
 ·obtain ⟨e, n, ne, nf, d⟩ := I.pin p hp
  have nch : p.1 ∉ ch := fun z => (hch p.1 z).2.2.2 p hp rfl
  exact ⟨keep p.1 p.2 ne nf nch e n, free p.1 p.2 nch e n, ne, nf, d⟩
theorem Inv.un {t' : Nat} (I : Inv X pins σ H s) (u : Un X.fs [] H H' s.heap h') (hok : HOk X.prog X.w H' h') : Inv X pins σ H' { s with heap := h', toks := t' } := by
 obtain ⟨m, ⟨o, es, ep, ho, r⟩, _⟩ := id I.loc
 obtain ⟨sl, hL⟩ := u.any ho I.free (by simp)
 exact I.step (g' := s.gens) (d' := s.drawn) (ch := []) (fun _ z => nomatch z) (fun b o _ hb _ e n => u.keep b o e n hb (by simp)) (fun b o _ hb _ e n => u.slot b o e n hb (by simp)) (fun b o _ e n => u.free b o e n (by simp)) (fun b o _ e => u.there b o e (by simp)) u.tups u.frzs u.tbls (fun m' hm => by
  obtain ⟨o', es', ep', ho', r'⟩ := hm
  rw [ho] at ho'; cases ho'
  exact ⟨_, es', ep', hL, r'⟩) hok I.bare
theorem Inv.call {g' : Array GenState} {t' : Nat} {d' : Drawn} {ch : List Addr} (I : Inv X pins σ H s) (u : Un (frs X.stack) ch H H' s.heap h') (hok : HOk X.prog X.w H' h') (hg : AllBare g')
  (hch : ∀ b ∈ ch, (b ∈ X.ex ∨ X.s₀.heap.objs.size <= b) /\ b ≠ X.env.locals /\ (∀ x c, X.env.cells.lookup x = some c -> c ≠ b) /\ ∀ p ∈ X.pn ++ pins, p.1 ≠ b) :
  Inv X pins σ H' { s with heap := h', gens := g', drawn := d', toks := t' } := by
 obtain ⟨m, ⟨o, es, ep, ho, r⟩, _⟩ := id I.loc
 obtain ⟨sl, hL⟩ := u.any ho I.free fun z => (hch _ z).2.1 rfl
 exact I.step (ch := ch) hch (fun b o hL hb hc e n => u.keep b o e n (fun z => (zAU.mp (I.stkSub b z)).elim hL hb) hc) (fun b o _ _ hc e n => u.any e n hc) (fun b o hc e n => u.free b o e n hc) (fun b o hc e => u.there b o e hc) u.tups u.frzs u.tbls (fun m' hm => by
  obtain ⟨o', es', ep', ho', r'⟩ := hm
  rw [ho] at ho'; cases ho'
  exact ⟨_, es', ep', hL, r'⟩) hok hg
theorem Inv.turned {t' : Nat} {it : Addr} (I : Inv X pins σ H s) (k : ∀ b o, b ≠ it -> s.heap.get? b = some o -> h'.get? b = some o) (hn : H it = none) (hL : it ≠ X.env.locals)
  (h1 : it ∈ X.ex ∨ X.s₀.heap.objs.size <= it) (h2 : ∀ x c, X.env.cells.lookup x = some c -> c ≠ it) (h3 : ∀ p ∈ X.pn ++ pins, p.1 ≠ it) : Inv X pins σ H { s with heap := h', toks := t' } := by
 have nit : ∀ b u, H b = some u -> b ≠ it := fun b u e z => by rw [z, hn] at e; cases e
 refine I.step (g' := s.gens) (d' := s.drawn) (ch := [it]) (fun b hb => ?_) (fun b o _ _ hc e _ => k b o (fun z => hc (by simp [z])) e) (fun b o _ _ hc e _ => ⟨o.slots, k b o (fun z => hc (by simp [z])) e⟩) (fun _ _ _ _ n => n)
  (fun b o hc e => ⟨o, k b o (fun z => hc (by simp [z])) e⟩) (fun _ _ e => e) (fun _ _ _ e => e) (fun b ps e => ⟨#[], by rw [e]; simp⟩) (fun m hm => ?_) (fun b u e => ?_) I.bare
 ·have e : b = it := by simpa using hb
  subst e
  exact ⟨h1, hL, h2, h3⟩
 ·obtain ⟨o, es, ep, ho, r⟩ := hm
  exact ⟨o, es, ep, k _ o (Ne.symm hL) ho, r⟩
 ·refine (I.hok b u e).stay (fun c v hc q => k c v ?_ q) (fun _ q => q) fun _ _ q => q
  rcases hc with z | z
  ·rw [z]; exact nit b u e
  ·exact nit c _ z
theorem Inv.tok (I : Inv X pins σ H s) (t : Nat) : Inv X pins σ H { s with toks := t } := I.un (h' := s.heap) (t' := t) Un.refl I.hok
theorem Inv.kept {t' : Nat} (I : Inv X pins σ H s) (k : ∀ b u, s.heap.get? b = some u -> h'.get? b = some u) : Inv X pins σ H { s with heap := h', toks := t' } := I.un (Un.kept k) (I.hok.kept k)
theorem Inv.laid {a : Addr} {o : HO} {t' : Nat} (I : Inv X pins σ H s) (k : ∀ b u, s.heap.get? b = some u -> h'.get? b = some u) (hp : s.heap.objs.size <= a) (new : aN X.prog X.w (upd H a o) h' a o) :
  Inv X pins σ (upd H a o) { s with heap := h', toks := t' } := I.un (Un.laid k hp (I.hok.fresh hp)) (I.hok.laid k hp new)
theorem Inv.write {x e : Addr} {o : HO} {t' : Nat} (I : Inv X pins σ H s) (mu : Mut (H x)) (he : e = x ∨ H e = some (.own x)) (k : ∀ b u, b ≠ e -> s.heap.get? b = some u -> h'.get? b = some u) (heo : ∃ u, h'.get? e = some u)
  (new : aN X.prog X.w (upd H x o) h' x o) : Inv X pins σ (upd H x o) { s with heap := h', toks := t' } := I.un (Un.write mu he k heo) (I.hok.write mu he k heo new)
theorem Inv.pins_of {pins' : List (Addr × Obj)} (I : Inv X pins σ H s) (h : ∀ p ∈ pins', s.heap.get? p.1 = some p.2 /\ H p.1 = none /\ p.1 ≠ X.env.locals /\ p.1 ∉ X.fs /\ ∀ v, p.2.data ≠ .cell v) : Inv X pins' σ H s :=
 ⟨I.ok, I.os, I.bare, I.base, I.loc, I.cell, I.free, I.freeC, fun p hp => (zAl.mp hp).elim (fun z => I.pin p (zA8 _ z)) (h p), I.hok, I.len⟩
theorem gi {N : List Str} (hN : N.Nodup) {i j : Nat} {x : Str} (a : N[i]? = some x) (b : N[j]? = some x) : i = j := by
 obtain ⟨h1, e1⟩ := zAD.mp a
 obtain ⟨h2, e2⟩ := zAD.mp b
 exact (List.getElem_inj hN).mp (e1.trans e2.symm)
theorem fJ {M : Model} {A : Around} {E : Value -> Shared -> Prop} {i : Nat} {x : Str} {v : V} {u : Value} {Q : Unit -> Shared -> Prop} (I : Inv X pins σ H s) (hN : X.N.Nodup) (hi : X.N[i]? = some x) (hx : Loc X.env.scope x) (r : RelV v u)
  (h : ∀ s', Inv X pins (σ.set i (some v)) H s' -> (∃ a, Heap.SameBut a s.heap s'.heap /\ (a = X.env.locals ∨ X.env.cells.lookup x = some a)) -> Q () s') (hf : X.fn x = true ∨ X.env.scope.names.lookup x = some .local := by first | exact .inl rfl | exact .inr rfl | assumption) : wpAny M A (storeName X.env x u) Q E s := by
 obtain ⟨m, hn, hl⟩ := id I.loc
 have hcls : (X.env.scope.kind == .class || (X.env.scope.kind == .module && X.env.locals != X.env.globals)) = false := by rw [I.ok.kind]; rfl
 have hiσ : i < σ.length := by rw [I.len]; exact (zAD.mp hi).1
 have cne := I.cne
 have tracked : ∀ {a : Addr} {h' : Heap}, (∃ o, s.heap.get? a = some o /\ H a = none) -> Heap.SameBut a s.heap h' -> HOk X.prog X.w H h' := fun {a h'} ha hs b ob e => by
  obtain ⟨_, _, hfree⟩ := ha
  refine (I.hok b ob e).stay (fun c w' hc q => (hs.2 c ?_).trans q) (fun _ q => q) fun _ _ q => q
  rintro rfl
  rcases hc with rfl | hc
  ·rw [hfree] at e; cases e
  ·rw [hfree] at hc; cases hc
 rcases hx with hk | hk
 ·refine wpAny_storeName_local hk hn (fun h' hn' hs => ?_) hcls
  obtain ⟨oL, _, _, hoL, _⟩ := id hn
  refine h _ ⟨I.ok, I.os, I.bare, ⟨fun b o e n hb hx => ?_, fun b o e n hb hx => ?_, I.base.free, fun b o e hx => ?_, I.base.tups, I.base.frzs, I.base.tbls⟩, ⟨_, hn', fun j y v' e1 e2 e3 => ?_⟩, fun y c e => ?_, I.free, I.freeC, fun p hp => ?_, tracked ⟨oL, hoL, I.free⟩ hs, by simpa using I.len⟩ ⟨_, hs, .inl rfl⟩
  ·exact (hs.2 b (zAT (zAG (zAC e) I.ok.above))).trans (I.base.keep b o e n hb hx)
  ·obtain ⟨sl, e1⟩ := I.base.slot b o e n hb hx
   exact ⟨sl, (hs.2 b (zAT (zAG (zAC e) I.ok.above))).trans e1⟩
  ·obtain ⟨o', e1⟩ := I.base.there b o e hx
   exact ⟨o', (hs.2 b (zAT (zAG (zAC e) I.ok.above))).trans e1⟩
  ·by_cases hj : j = i
   ·subst hj
    rw [hi] at e1; cases e1
    rw [zAE hiσ] at e2
    cases e2
    exact ⟨u, r, .inl ⟨hk, by simp⟩⟩
   ·rw [zAA (Ne.symm hj)] at e2
    obtain ⟨u', r', q⟩ := hl j y v' e1 e2 e3
    refine ⟨u', r', ?_⟩
    rcases q with ⟨k, e⟩ | ⟨k, c, e, z⟩
    ·refine .inl ⟨k, ?_⟩
     have : y ≠ x := fun e => hj (gi hN e1 (e ▸ hi))
     simp [this, e]
    ·exact .inr ⟨k, c, e, z.sameBut hs (cne y c e)⟩
  ·obtain ⟨w', z⟩ := I.cell y c e
   exact ⟨w', z.sameBut hs (cne y c e)⟩
  ·obtain ⟨e, n, ne, nf, d⟩ := I.pin p hp
   exact ⟨(hs.2 p.1 ne).trans e, n, ne, nf, d⟩
 ·have hfn : X.fn x = true := by
   rcases hf with z | z
   ·exact z
   ·rw [z] at hk; cases hk
  obtain ⟨c, hc⟩ := I.ok.has x (.inl hk)
  obtain ⟨w', z⟩ := I.cell x c hc
  refine wpAny_storeName_cell I.ok.kind hk hc z (fun h' hc' hs => ?_)
  obtain ⟨oc, hoc, hocd⟩ := id z
  refine h { s with heap := h' } ⟨I.ok, I.os, I.bare, ⟨fun b o e n hb hx => ?_, fun b o e n hb hx => ?_, I.base.free, fun b o e hx => ?_, I.base.tups, I.base.frzs, I.base.tbls⟩, ⟨m, hn.sameBut hs (Ne.symm (cne x c hc)), fun j y v' e1 e2 e3 => ?_⟩, fun y c' e => ?_, I.free, I.freeC, fun p hp => ?_, tracked ⟨oc, hoc, I.freeC x c hc⟩ hs, by simpa using I.len⟩ ⟨c, hs, .inr hc⟩
  ·exact (hs.2 b (zAT (zAG (zAC e) (I.ok.cab x c hfn hc)))).trans (I.base.keep b o e n hb hx)
  ·obtain ⟨sl, e1⟩ := I.base.slot b o e n hb hx
   exact ⟨sl, (hs.2 b (zAT (zAG (zAC e) (I.ok.cab x c hfn hc)))).trans e1⟩
  ·obtain ⟨o', e1⟩ := I.base.there b o e hx
   exact ⟨o', (hs.2 b (zAT (zAG (zAC e) (I.ok.cab x c hfn hc)))).trans e1⟩
  ·by_cases hj : j = i
   ·subst hj
    rw [hi] at e1; cases e1
    rw [zAE hiσ] at e2
    cases e2
    exact ⟨u, r, .inr ⟨.inl hk, c, hc, hc'⟩⟩
   ·rw [zAA (Ne.symm hj)] at e2
    obtain ⟨u', r', q⟩ := hl j y v' e1 e2 e3
    refine ⟨u', r', ?_⟩
    rcases q with q | ⟨k, c', e, z'⟩
    ·exact .inl q
    ·refine .inr ⟨k, c', e, z'.sameBut hs ?_⟩
     rintro rfl
     exact hj (gi hN e1 (I.ok.inj _ _ _ e hc ▸ hi))
  ·by_cases hcc : c' = c
   ·subst hcc; exact ⟨_, hc'⟩
   ·obtain ⟨w2, z2⟩ := I.cell y c' e
    exact ⟨w2, z2.sameBut hs hcc⟩
  ·obtain ⟨e, n, ne, nf, d⟩ := I.pin p hp
   refine ⟨(hs.2 p.1 ?_).trans e, n, ne, nf, d⟩
   intro q
   rw [q, hoc] at e
   have q' : oc = p.2 := zAR e
   exact d w' (by rw [<- q']; exact hocd)
theorem cK {M : Model} {A : Around} {E : Value -> Shared -> Prop} {i : Nat} {x : Str} {v : V} {u : Value} {Q : Unit -> Shared -> Prop} (I : Inv X pins σ H s) (hN : X.N.Nodup) (hi : X.N[i]? = some x) (hx : Loc X.env.scope x) (r : RelV v u)
  (h : ∀ s', Inv X pins (σ.set i (some v)) H s' -> Q () s') (hf : X.fn x = true ∨ X.env.scope.names.lookup x = some .local := by first | exact .inl rfl | exact .inr rfl | assumption) : wpAny M A (storeName X.env x u) Q E s :=
 fJ I hN hi hx r (fun s' I' _ => h s' I') hf
theorem Inv.call' {s' : Shared} {ch : List Addr} (I : Inv X pins σ H s) (ho : s'.os = s.os) (u : Un (frs X.stack) ch H H' s.heap s'.heap) (hok : HOk X.prog X.w H' s'.heap) (hg : AllBare s'.gens)
  (hch : ∀ b ∈ ch, (b ∈ X.ex ∨ X.s₀.heap.objs.size <= b) /\ b ≠ X.env.locals /\ (∀ x c, X.env.cells.lookup x = some c -> c ≠ b) /\ ∀ p ∈ X.pn ++ pins, p.1 ≠ b) : Inv X pins σ H' s' := by
 obtain ⟨h', g', d', t', o'⟩ := s'
 have e : o' = s.os := ho
 subst e
 exact I.call (g' := g') (t' := t') (d' := d') u hok hg hch
end
abbrev XK := Value -> Option Addr -> Hp -> Prop
abbrev St := List (Option V)
abbrev VK := V -> Hp -> Prop
abbrev TE := St -> Hp -> VK -> Prop
abbrev TT := St -> Hp -> (Bool -> Hp -> Prop) -> Prop
abbrev TA := St -> Hp -> (List V -> Hp -> Prop) -> Prop
structure Ends where
 nx : St -> Hp -> Prop
 rt : VK
 bk : St -> Hp -> Prop := fun _ _ => False
 ct : St -> Hp -> Prop := fun _ _ => False
abbrev TS := Ends -> St -> Hp -> Prop
def EP (X : Cx) (pins : List (Addr × Obj)) (σ : St) (Q : VK) (u : Value) (s' : Shared) : Prop := ∃ v H', Inv X pins σ H' s' /\ RelV v u /\ Q v H'
def TP (X : Cx) (pins : List (Addr × Obj)) (σ : St) (Q : Bool -> Hp -> Prop) (b : Bool) (s' : Shared) : Prop := ∃ H', Inv X pins σ H' s' /\ Q b H'
def AP (X : Cx) (pins : List (Addr × Obj)) (σ : St) (Q : List V -> Hp -> Prop) (us : List Value) (s' : Shared) : Prop := ∃ vs H', Inv X pins σ H' s' /\ Vals vs us /\ Q vs H'
def SP (X : Cx) (pins : List (Addr × Obj)) (D : Ends) (f : Flow) (s' : Shared) : Prop :=
 match f with
 | .next => ∃ σ' H', Inv X pins σ' H' s' /\ D.nx σ' H'
 | .brk => ∃ σ' H', Inv X pins σ' H' s' /\ D.bk σ' H'
 | .cont => ∃ σ' H', Inv X pins σ' H' s' /\ D.ct σ' H'
 | .ret u => ∃ v σ' H', Inv X pins σ' H' s' /\ RelV v u /\ D.rt v H'
def PE (X : Cx) (e : Expr) (t : TE) : Prop :=
 ∀ (pins : List (Addr × Obj)) (s : Shared) (σ : St) (H : Hp) (Q : VK), Inv X pins σ H s -> t σ H Q -> wpAny (model X.prog X.w) X.A (eval e X.env) (EP X pins σ Q) X.xe s
def PT (X : Cx) (e : Expr) (t : TT) : Prop :=
 ∀ (pins : List (Addr × Obj)) (s : Shared) (σ : St) (H : Hp) (Q : Bool -> Hp -> Prop), Inv X pins σ H s -> t σ H Q -> wpAny (model X.prog X.w) X.A (isTrue e X.env (eval e X.env)) (TP X pins σ Q) X.xe s
def PW (X : Cx) (e : Expr) (t : TT) : Prop :=
 ∀ (whole : Sem Value) (pins : List (Addr × Obj)) (s : Shared) (σ : St) (H : Hp) (Q : Bool -> Hp -> Prop), Inv X pins σ H s -> t σ H Q -> wpAny (model X.prog X.w) X.A (isTrue e X.env whole) (TP X pins σ Q) X.xe s
theorem PW.pt {X : Cx} {e : Expr} {t : TT} (h : PW X e t) : PT X e t := h _
def PA (X : Cx) (es : List Expr) (t : TA) : Prop :=
 ∀ (pos : Pos) (pins : List (Addr × Obj)) (s : Shared) (σ : St) (H : Hp) (Q : List V -> Hp -> Prop), Inv X pins σ H s -> t σ H Q -> wpAny (model X.prog X.w) X.A (spliced (backTo pos (starEach es X.env))) (AP X pins σ Q) X.xe s
def PS (X : Cx) (st : Stmt) (t : TS) : Prop :=
 ∀ (pins : List (Addr × Obj)) (s : Shared) (σ : St) (H : Hp) (D : Ends), Inv X pins σ H s -> t D σ H -> wpAny (model X.prog X.w) X.A (exec st X.env) (SP X pins D) X.xe s
def PSs (X : Cx) (st : List Stmt) (t : TS) : Prop :=
 ∀ (pins : List (Addr × Obj)) (s : Shared) (σ : St) (H : Hp) (D : Ends), Inv X pins σ H s -> t D σ H -> wpAny (model X.prog X.w) X.A (execs st X.env) (SP X pins D) X.xe s
theorem thn {α : Type} {t : Sem α} {Q Q' : α -> Shared -> Prop} {M : Model} {A : Around} {E : Value -> Shared -> Prop} {s : Shared} (h : wpAny M A t Q E s) (hQ : ∀ a s, Q a s -> Q' a s) : wpAny M A t Q' E s := wpAny_mono h hQ fun _ _ x => x
end L2
namespace L2
open PySem PySem.Spec PyProof.Rows
section
variable {X : Cx}
def sM (i : Nat) : TE := fun σ H Q => ∃ v, σ[i]? = some (some v) /\ Q v H
def tC (v : V) : TE := fun _ H Q => Q v H
theorem eI {i : Nat} {x : Str} {pos : Pos} (hN : X.N[i]? = some x) (hv : Vis X.env.scope x) (hd : (x == ("__debug__" : Str)) = false := by decide) (hcd : (x == ("__classdict__" : Str)) = false := by decide) : PE X (.Name x pos) (sM i) := by
 intro pins s σ H Q I h
 obtain ⟨v, e, h⟩ := h
 obtain ⟨m, hn, hl⟩ := I.loc
 obtain ⟨u, r, l⟩ := hl i x v hN e hv
 have fin : EP X pins σ Q u s := ⟨v, H, I, r, h⟩
 rcases l with ⟨hk, hm⟩ | ⟨hk, c, hc, hcell⟩
 ·exact wpAny_Name (wpAny_loadName_local I.ok.kind hk hn hm fin) hd
 ·rcases hk with hk | hk
  ·exact wpAny_Name (wpAny_loadName_cell I.ok.kind hk hc hcell fin) hd
  ·exact wpAny_Name (wpAny_loadName_free I.ok.kind hk hc hcell fin hcd) hd
theorem sx {i j pos} : PE X (.Constant (.int i) j pos) (tC (.int i)) := fun _ _ _ H _ I h => wpAny_Constant_int ⟨.int i, H, I.tok _, ⟨_, rfl⟩, h⟩
theorem tL {b j pos} : PE X (.Constant (.bool b) j pos) (tC (.bl b)) := fun _ _ _ H _ I h => Constant_bool ⟨.bl b, H, I, rfl, h⟩
theorem sy {j pos} : PE X (.Constant .none j pos) (tC .non) := fun _ _ _ H _ I h => Constant_none ⟨.non, H, I, rfl, h⟩
theorem sA {x j pos} : PE X (.Constant (.str x) j pos) (tC (.str x)) := fun _ _ _ H _ I h => Calls.Constant_str ⟨.str x, H, I.tok _, ⟨_, rfl⟩, h⟩
def Gl (X : Cx) (x : Str) : Prop := X.env.kindOf x = some .globalImplicit
theorem ck {E : Value -> Shared -> Prop} {pins : List (Addr × Obj)} {s : Shared} {σ : St} {H : Hp} {x : Str} {u : Value} {pos : Pos} {Q : Value -> Shared -> Prop} (I : Inv X pins σ H s) (hg : Gl X x) (hm : X.mg x = some u) (h : Q u s)
  (hd : (x == ("__debug__" : Str)) = false := by decide) : wpAny (model X.prog X.w) X.A (eval (.Name x pos) X.env) Q E s :=
 Calls.Name_function_global I.ok.kind hg (Calls.loadGlobal_global (by rw [I.ok.glob]; exact I.mod.glob.keeps I.bk) hm h) hd
theorem cq {E : Value -> Shared -> Prop} {pins : List (Addr × Obj)} {s : Shared} {σ : St} {H : Hp} {x : Str} {u : Value} {pos : Pos} {Q : Value -> Shared -> Prop} (I : Inv X pins σ H s) (hg : Gl X x) (hm : X.mg x = none) (hv : bootBuiltins x = some u) (h : Q u s)
  (hn : x ≠ "__name__" := by decide) (hd : (x == ("__debug__" : Str)) = false := by decide) : wpAny (model X.prog X.w) X.A (eval (.Name x pos) X.env) Q E s := by
 obtain ⟨mb, h1, h2⟩ := I.mod.blt
 exact Calls.Name_function_global I.ok.kind hg (Calls.loadGlobal_builtin (by rw [I.ok.glob]; exact I.mod.glob.keeps I.bk) hm (by rw [I.ok.blt]; exact h1.keeps I.bk) ((h2 x hn).trans hv) h) hd
theorem eG {x : Str} {v : V} {u : Value} {pos : Pos} (hg : Gl X x) (hm : X.mg x = some u) (r : RelV v u) (hd : (x == ("__debug__" : Str)) = false := by decide) : PE X (.Name x pos) (tC v) :=
 fun _ _ _ H _ I h => ck I hg hm ⟨v, H, I, r, h⟩ hd
theorem fV {x : Str} {v : V} {u : Value} {pos : Pos} (hg : Gl X x) (hm : X.mg x = none) (hv : bootBuiltins x = some u) (r : RelV v u) (hn : x ≠ "__name__" := by decide) (hd : (x == ("__debug__" : Str)) = false := by decide) : PE X (.Name x pos) (tC v) :=
 fun _ _ _ H _ I h => cq I hg hm hv ⟨v, H, I, r, h⟩ hn hd
variable {a b : Expr} {ta tb : TE} {pos : Pos}
theorem pq (b : Expr) {op : CmpOp} (h : op ≠ .In) (h2 : op ≠ .NotIn) : behindInMarks op b = false := by
 have e1 : (op == CmpOp.In) = false := by cases op <;> first | rfl | exact absurd rfl h
 have e2 : (op == CmpOp.NotIn) = false := by cases op <;> first | rfl | exact absurd rfl h2
 cases b <;> simp [behindInMarks, e1, e2]
variable {tA tB' : TT} {rest : List Expr}
end
end L2
namespace L2
open PySem PySem.Spec PyProof.Rows
def SqL (K : PySem.W.Frag) (H : Hp) (a : Addr) (xs : List V) : Prop :=
 Rd H a (.lst xs) ∨
  ∃ (o : Obj) (its : Array Value) (n : Nat), K.lookup a = some o /\ o.cls = .type "list" /\ o.dict = none /\ o.data = .seq its n /\ its.size <= sizeLine /\ Vals xs its.toList
def SqT (K : PySem.W.Frag) (H : Hp) (a : Addr) (xs : List V) : Prop :=
 Rd H a (.tup xs) ∨
  ∃ (o : Obj) (its : Array Value) (n : Nat), K.lookup a = some o /\ o.cls = .type "tuple" /\ o.data = .seq its n /\ its.size <= sizeLine /\ Vals xs its.toList
def tZ : Value -> Option V
 | .none => some .non
 | .bool b => some (.bl b)
 | .int i _ => some (.int i)
 | .str x _ => some (.str x)
 | .bytes b _ => some (.byt b)
 | .float b _ => some (.flt b)
 | .ref a => some (.ref a)
 | .type n => some (.ty n)
 | _ => none
theorem RelV.abs {x : V} {u : Value} (r : RelV x u) : tZ u = some x := by
 cases x with
 | non => cases r; rfl
 | bl _ => cases r; rfl
 | int _ => obtain ⟨t, rfl⟩ := r; rfl
 | str _ => obtain ⟨t, rfl⟩ := r; rfl
 | byt _ => obtain ⟨t, rfl⟩ := r; rfl
 | flt _ => obtain ⟨t, rfl⟩ := r; rfl
 | ref _ => cases r; rfl
 | ty _ => cases r; rfl
theorem RelV.inj {x y : V} {u : Value} (r : RelV x u) (q : RelV y u) : x = y := zAR (r.abs.symm.trans q.abs)
theorem Vals.inj : ∀ {xs ys : List V} {us : List Value}, Vals xs us -> Vals ys us -> xs = ys
 | _, _, _, .nil, .nil => rfl
 | _, _, _, .cons r t, .cons r' t' => by rw [r.inj r', Vals.inj t t']
section
variable {X : Cx} {pins : List (Addr × Obj)} {σ : St} {H : Hp} {s : Shared} {a : Addr} {xs ys : List V}
theorem SqL.of {K : PySem.W.Frag} (h : H a = some (.lst xs)) : SqL K H a xs := .inl (.inl h)
theorem SqT.of {K : PySem.W.Frag} (h : H a = some (.tup xs)) : SqT K H a xs := .inl (.inl h)
theorem Inv.list (I : Inv X pins σ H s) (h : SqL X.K H a xs) : ∃ its : List Value, Vals xs its /\ PlainL s.heap a its.toArray /\ xs.length <= sizeLine := by
 rcases h with h | ⟨o, its, n, hk, hc, hd, hs, hz, r⟩
 ·obtain ⟨z, its, n, r, e⟩ := h.ok I.hok
  exact ⟨its, r, ⟨_, n, e, rfl, rfl, rfl⟩, z⟩
 ·refine ⟨its.toList, r, ⟨o, n, I.kIn a o hk, hc, hd, by simpa using hs⟩, ?_⟩
  have e := r.length
  simp only [zAd] at e
  omega
theorem Inv.tuple (I : Inv X pins σ H s) (h : SqT X.K H a xs) : ∃ its : List Value, Vals xs its /\ IsTup s.heap a its.toArray /\ xs.length <= sizeLine := by
 rcases h with h | ⟨o, its, n, hk, hc, hs, hz, r⟩
 ·obtain ⟨z, its, r, p⟩ := h.ok I.hok
  exact ⟨its, r, p, z⟩
 ·refine ⟨its.toList, r, ⟨o, I.kIn a o hk, hc, n, by simpa using hs⟩, ?_⟩
  have e := r.length
  simp only [zAd] at e
  omega
theorem Inv.list_inj (I : Inv X pins σ H s) (h : SqL X.K H a xs) (h' : SqL X.K H a ys) : xs = ys := by
 obtain ⟨its, r, ⟨o, n, e, _, _, d⟩, _⟩ := I.list h
 obtain ⟨its', r', ⟨o', n', e', _, _, d'⟩, _⟩ := I.list h'
 rw [e] at e'; cases e'
 rw [d] at d'
 injection d' with d1 _
 have : its = its' := by simpa using congrArg Array.toList d1
 subst this
 exact r.inj r'
theorem Inv.tuple_inj (I : Inv X pins σ H s) (h : SqT X.K H a xs) (h' : SqT X.K H a ys) : xs = ys := by
 obtain ⟨its, r, ⟨o, e, _, n, d⟩, _⟩ := I.tuple h
 obtain ⟨its', r', ⟨o', e', _, n', d'⟩, _⟩ := I.tuple h'
 rw [e] at e'; cases e'
 rw [d] at d'
 injection d' with d1 _
 have : its = its' := by simpa using congrArg Array.toList d1
 subst this
 exact r.inj r'
end
abbrev Cx.wish (X : Cx) (E : Value -> Shared -> Prop) : Cx := { X with xe := E }
abbrev Cx.nox (X : Cx) : Cx := X.wish fun _ _ => False
theorem Cx.Ok.wish {X : Cx} (ok : X.Ok) (E : Value -> Shared -> Prop) : (X.wish E).Ok :=
 ⟨ok.mod, ok.kind, ok.glob, ok.blt, ok.above, ok.inj, ok.has, ok.cab, ok.hd, ok.frames, ok.stk, ok.exf, ok.bs, ok.bsz, ok.noex, ok.exfs, ok.funs, ok.frf⟩
theorem Cx.Ok.unwish {X : Cx} {E : Value -> Shared -> Prop} (ok : (X.wish E).Ok) : X.Ok :=
 ⟨ok.mod, ok.kind, ok.glob, ok.blt, ok.above, ok.inj, ok.has, ok.cab, ok.hd, ok.frames, ok.stk, ok.exf, ok.bs, ok.bsz, ok.noex, ok.exfs, ok.funs, ok.frf⟩
section
variable {X : Cx} {pins : List (Addr × Obj)} {σ : St} {H : Hp} {s : Shared} {E : Value -> Shared -> Prop}
theorem Inv.wish (I : Inv X pins σ H s) (E : Value -> Shared -> Prop) : Inv (X.wish E) pins σ H s := ⟨I.ok.wish E, I.os, I.bare, I.base, I.loc, I.cell, I.free, I.freeC, I.pin, I.hok, I.len⟩
theorem Inv.unwish (I : Inv (X.wish E) pins σ H s) : Inv X pins σ H s := ⟨I.ok.unwish, I.os, I.bare, I.base, I.loc, I.cell, I.free, I.freeC, I.pin, I.hok, I.len⟩
theorem SP.unwish {D : Ends} {f : Flow} {s' : Shared} (h : SP (X.wish E) pins D f s') : SP X pins D f s' := by
 cases f with
 | next => obtain ⟨σ', H', I, q⟩ := h; exact ⟨σ', H', I.unwish, q⟩
 | brk => obtain ⟨σ', H', I, q⟩ := h; exact ⟨σ', H', I.unwish, q⟩
 | cont => obtain ⟨σ', H', I, q⟩ := h; exact ⟨σ', H', I.unwish, q⟩
 | ret u => obtain ⟨v, σ', H', I, r, q⟩ := h; exact ⟨v, σ', H', I.unwish, r, q⟩
theorem PE.nox {e : Expr} {t : TE} (h : PE X.nox e t) : PE X e t := fun pins s σ H Q I hw =>
 wpAny_mono (h pins s σ H Q (I.wish _) hw) (fun _ _ ⟨v, H', I', r, q⟩ => ⟨v, H', I'.unwish, r, q⟩) fun _ _ z => False.elim z
theorem PT.nox {e : Expr} {t : TT} (h : PT X.nox e t) : PT X e t := fun pins s σ H Q I hw =>
 wpAny_mono (h pins s σ H Q (I.wish _) hw) (fun _ _ ⟨H', I', q⟩ => ⟨H', I'.unwish, q⟩) fun _ _ z => False.elim z
theorem PSs.nox {st : List Stmt} {t : TS} (h : PSs X.nox st t) : PSs X st t := fun pins s σ H D I hw =>
 wpAny_mono (h pins s σ H D (I.wish _) hw) (fun _ _ q => q.unwish) fun _ _ z => False.elim z
end
section
variable {X : Cx} {st : Stmt} {rest : List Stmt} {t u : TS} {e : Expr} {te : TE} {pos : Pos}
def tR : TS := fun D σ H => D.nx σ H
theorem qT : PSs X [] tR := fun _ _ σ H _ I h => wpAny_execs_nil ⟨σ, H, I, h⟩
theorem lg (h1 : PS X st t) : PSs X [st] t := by
 intro pins s σ H D I h
 refine wpAny_execs_cons (thn (h1 pins s σ H D I h) fun f s1 q => ?_)
 cases f with
 | next => exact wpAny_execs_nil q
 | ret v => exact q
 | brk => exact q
 | cont => exact q
theorem Inv.quiet {pins : List (Addr × Obj)} {σ : St} {H : Hp} {s : Shared} (I : Inv X pins σ H s) : interactive X.env = false := by simp [interactive, I.ok.kind]
def tQ (te : TE) : TS := fun D σ H => te σ H fun _ H1 => D.nx σ H1
theorem k9 (he : PE X e te) (hs : swapsWith e none pos.line X.env = pure false := by rfl) : PS X (.Expr e pos) (tQ te) := by
 intro pins s σ H D I h
 exact wpAny_Expr_any (thn (he pins s σ H _ I h) fun v s1 ⟨x, H1, I1, r1, q1⟩ => ⟨σ, H1, I1, q1⟩) I.quiet hs
def sL (c : TT) (t u : TS) : TS := fun D σ H => c σ H fun b H1 => if b = true then t D σ H1 else u D σ H1
theorem tM {c : Expr} {a b : List Stmt} {tc : TT} (hc : PT X c tc) (ha : PSs X a t) (hb : PSs X b u) : PS X (.If c a b pos) (sL tc t u) := by
 intro pins s σ H D I h
 refine wpAny_If (thn (hc pins s σ H _ I h) fun d s1 ⟨H1, I1, q1⟩ => ?_)
 cases d with
 | true => exact ha pins s1 σ H1 D I1 q1
 | false => exact hb pins s1 σ H1 D I1 q1
end
abbrev TG := V -> St -> Hp -> (St -> Hp -> Prop) -> Prop
def PG (X : Cx) (target : Expr) (t : TG) : Prop :=
 ∀ (pins : List (Addr × Obj)) (s : Shared) (σ : St) (H : Hp) (v : V) (u : Value) (Q : St -> Hp -> Prop), Inv X pins σ H s -> RelV v u -> t v σ H Q →
  wpAny (model X.prog X.w) X.A (assign target X.env u) (fun _ s' => ∃ σ' H', Inv X pins σ' H' s' /\ Q σ' H') X.xe s
abbrev oz := V -> V -> V -> Hp -> (Hp -> Prop) -> Prop
def rj (X : Cx) (t : oz) : Prop :=
 ∀ (pins : List (Addr × Obj)) (s : Shared) (σ : St) (H : Hp) (o i v : V) (ov iv u : Value) (Q : Hp -> Prop), Inv X pins σ H s -> RelV o ov -> RelV i iv -> RelV v u -> t o i v H Q →
  wpAny (model X.prog X.w) X.A (setItem ov iv u) (fun _ s' => ∃ H', Inv X pins σ H' s' /\ Q H') X.xe s
section
variable {X : Cx} {pos : Pos}
def sW (i : Nat) : TG := fun v σ H Q => Q (σ.set i (some v)) H
theorem qS {i : Nat} {x : Str} (hN : X.N.Nodup) (hi : X.N[i]? = some x) (hx : Loc X.env.scope x) (hf : X.fn x = true ∨ X.env.scope.names.lookup x = some .local := by first | exact .inl rfl | exact .inr rfl | assumption) : PG X (.Name x pos) (sW i) := by
 intro pins s σ H v u Q I r h
 exact wpAny_assign_Name (cK I hN hi hx r (fun s' I' => ⟨_, H, I', h⟩) hf)
def ua (to ti : TE) (t : oz) : TG := fun v σ H Q => to σ H fun o H1 => ti σ H1 fun i H2 => t o i v H2 fun H3 => Q σ H3
theorem sD {o i : Expr} {to ti : TE} {t : oz} (ho : PE X o to) (hi : PE X i ti) (hs : rj X t)
  (ha : ∀ v, assign (.Subscript o i pos) X.env v = (do
   let ov ← holding [v] (eval o X.env)
   let iv ← holding [v, ov] (eval i X.env)
   standAt pos
   holding [v, ov, iv] (setItem ov iv v)
   release [v, ov, iv] []) := by intro _; rfl) : PG X (.Subscript o i pos) (ua to ti t) := by
 intro pins s σ H v u Q I r h
 rw [ha]
 refine wpAny_bind (wpAny_holding (thn (ho pins s σ H _ I h) fun ov s1 ⟨x, H1, I1, r1, q1⟩ => ?_))
 refine wpAny_bind (wpAny_holding (thn (hi pins s1 σ H1 _ I1 q1) fun iv s2 ⟨y, H2, I2, r2, q2⟩ => ?_))
 refine wpAny_bind (wpAny_standAt (wpAny_bind (wpAny_holding (thn (hs pins s2 σ H2 x y v ov iv u _ I2 r1 r2 r q2) fun _ s3 ⟨H3, I3, q3⟩ => ?_))))
 exact wpAny_release ⟨σ, H3, I3, q3⟩
def uf (te : TE) (g : TG) : TS := fun D σ H => te σ H fun x H1 => g x σ H1 D.nx
theorem sE {tg e : Expr} {te : TE} {g : TG} (he : PE X e te) (hg : PG X tg g) (hs : swapsWithSole [tg] e pos.line X.env = pure false := by rfl) (hw : swappedStores [tg] e X.env = pure none := by rfl)
  (h1 : (assignEach [tg] X.env).map (·.2) = [assign tg X.env] := by rfl) : PS X (.Assign [tg] e pos) (uf te g) := by
 intro pins s σ H D I h
 refine wpAny_Assign_stores (thn (he pins s σ H _ I h) fun v s1 ⟨x, H1, I1, r1, q1⟩ => ?_) hs hw
 rw [h1]
 exact thn (hg pins s1 σ H1 x v _ I1 r1 q1) fun _ s2 q => q
end
section
variable {X : Cx} {pos : Pos}
end
structure It where
 go : Nat -> Hp -> Prop
 yld : Nat -> Hp -> V -> Hp -> Prop
 stop : Nat -> Hp -> Prop
def bF (X : Cx) (pins : List (Addr × Obj)) (H : Hp) (b : Addr) : Prop :=
 H b = none /\ b ≠ X.env.locals /\ b ∉ X.fs /\ (b ∈ X.ex ∨ X.s₀.heap.objs.size <= b) /\ (∀ x c, X.env.cells.lookup x = some c -> c ≠ b) /\ ∀ p ∈ X.pn ++ pins, p.1 ≠ b
theorem Inv.fpOk {X : Cx} {pins : List (Addr × Obj)} {σ : St} {H H' : Hp} {s : Shared} {b : Addr} (I : Inv X pins σ H s) (hb : s.heap.objs.size <= b) (hn : H' b = none) : bF X pins H' b := by
 refine ⟨hn, Nat.ne_of_gt (zAG I.lt hb), I.nofs hb, .inr (zAa I.sz hb), fun x c e z => ?_, fun p hp z => ?_⟩
 ·obtain ⟨v, q⟩ := I.cell x c e
  exact absurd (zAG q.lt (by rw [z]; exact hb)) (zAe _)
 ·exact absurd (zAG (zAC (I.pin p hp).1) (by rw [z]; exact hb)) (zAe _)
structure Turn (P : Program) (w : World) (K : PySem.W.Frag) (tg : Expr) (J : It) (fp : List Addr) (it : Addr) (tn : Nat -> Heap -> Prop) : Prop where
 mem : it ∈ fp
 obj : ∀ i h, tn i h -> ∀ b ∈ fp, ∃ o, h.get? b = some o /\ ∀ v, o.data ≠ .cell v
 keep : ∀ i h h', tn i h -> (∀ b ∈ fp, ∀ o, h.get? b = some o -> h'.get? b = some o) -> tn i h'
 item : ∀ (X : Cx), X.prog = P -> X.w = w -> X.K = K -> X.calm = true -> ∀ (i : Nat) (pins : List (Addr × Obj)) (s : Shared) (σ : St) (H : Hp) (E : Value -> Shared -> Prop), Inv X pins σ H s -> (∀ b ∈ fp, bF X pins H b) -> tn i s.heap -> J.go i H →
  wpAny (model P w) X.A (pyNext (.ref it)) (fun r s1 => ∃ u, r = some u ∧
   wpAny (model P w) X.A (letOwnedTupleGo tg (.ref it) u) (fun _ s2 => ∃ x H', Inv X pins σ H' s2 /\ RelV x u /\ J.yld i H x H' /\ tn (i + 1) s2.heap /\ ∀ b ∈ fp, H' b = none) E s1) E s
 done : ∀ (X : Cx), X.prog = P -> X.w = w -> X.K = K -> X.calm = true -> ∀ (i : Nat) (pins : List (Addr × Obj)) (s : Shared) (σ : St) (H : Hp) (E : Value -> Shared -> Prop), Inv X pins σ H s -> (∀ b ∈ fp, bF X pins H b) -> tn i s.heap -> J.stop i H →
  wpAny (model P w) X.A (pyNext (.ref it)) (fun r s1 => r = none /\ Inv X pins σ H s1) E s
 self : ∀ (A : Around) (i : Nat) (s : Shared) (Q : Value -> Shared -> Prop) (E : Value -> Shared -> Prop), tn i s.heap -> Q (.ref it) s -> wpAny (model P w) A (pyIter (.ref it)) Q E s
abbrev TI := St -> Hp -> (It -> Hp -> Prop) -> Prop
def PIE (X : Cx) (pins : List (Addr × Obj)) (σ : St) (tg : Expr) (R : It -> Hp -> Prop) (itv : Value) (s2 : Shared) : Prop :=
 ∃ (it : Addr) (fp : List Addr) (tn : Nat -> Heap -> Prop) (J : It) (H' : Hp), itv = .ref it /\ Inv X pins σ H' s2 /\ Turn X.prog X.w X.K tg J fp it tn /\ tn 0 s2.heap /\ (∀ b ∈ fp, bF X pins H' b) /\ R J H'
def PI (X : Cx) (tg iter : Expr) (wi : TI) : Prop :=
 ∀ (pins : List (Addr × Obj)) (s : Shared) (σ : St) (H : Hp) (R : It -> Hp -> Prop), Inv X pins σ H s -> wi σ H R →
  wpAny (model X.prog X.w) X.A (eval iter X.env) (fun v s1 => wpAny (model X.prog X.w) X.A (pyIter v) (PIE X pins σ tg R) X.xe s1) X.xe s
theorem qc {M : Model} {A : Around} {E : Value -> Shared -> Prop} {s : Shared} {tg : Expr} {it : Addr} {u : Value} {o : Obj} {n : String} {vs : Array Value} {Q : Unit -> Shared -> Prop} (ho : s.heap.get? it = some o) (hc : o.cls = .type n) (hd : o.data = .fields vs)
    (hn : ["enumerate", "zip", "dict_itemiterator", "dict_reverseitemiterator", "odict_iterator", "itertools.zip_longest", "itertools.pairwise"].contains n = false) (hQ : Q () s) : wpAny M A (letOwnedTupleGo tg (.ref it) u) Q E s := by
  unfold letOwnedTupleGo
  cases tg <;> first
    | exact wpAny_pure hQ
    | (cases u <;> first
        | exact wpAny_pure hQ
        | (refine wpAny_bind (wpAny_load ho ?_)
           rw [hc, hd]
           show wpAny M A (if (["enumerate", "zip", "dict_itemiterator", "dict_reverseitemiterator", "odict_iterator", "itertools.zip_longest", "itertools.pairwise"].contains n && vs[0]? == some (rawInt _)) = true then _ else _) Q E s
           rw [if_neg (by intro h; rw [hn, Bool.false_and] at h; cases h)]
           exact wpAny_pure hQ))
def Itl (K : PySem.W.Frag) (a : Addr) : It :=
 ⟨fun i H => ∃ xs x, SqL K H a xs /\ xs[i]? = some x, fun i H x H' => H' = H /\ ∀ xs, SqL K H a xs -> xs[i]? = some x, fun i H => ∃ xs, SqL K H a xs /\ xs.length <= i⟩
theorem n6 {P : Program} {w : World} {K : PySem.W.Frag} {tg : Expr} (a it : Addr) : Turn P w K tg (Itl K a) [it] it (fun i h => h.IsListIter it a i) where
 mem := by simp
 obj := fun i h st b hb => by
  have e : b = it := by simpa using hb
  subst e
  obtain ⟨o, e, c, d⟩ := st
  exact ⟨o, e, fun v z => by rw [d] at z; cases z⟩
 keep := fun i h h' st k => st.at fun o e => k it (by simp) o e
 item := by
  intro X hP hw hK hc i pins s σ H E I hf st hg
  subst hP hw hK
  obtain ⟨xs, x, hq, hx⟩ := hg
  obtain ⟨its, rv, p, hz⟩ := I.list hq
  obtain ⟨u, hu, ru⟩ := rv.get hx
  obtain ⟨f0, f1, f2, f3, f4, f5⟩ := hf it (by simp)
  refine wpAny_pyNext_list_item st p.isList (x := u) (by simpa using hu) fun h' st' sb => ?_
  have I1 : Inv X pins σ H { s with heap := h' } := I.turned (t' := s.toks) (fun b o hb e => (sb.2 b hb).trans e) f0 f1 f3 f4 f5
  obtain ⟨o, e, c, d⟩ := id st'
  exact ⟨u, rfl, qc (s := { s with heap := h' }) e c d (by decide) ⟨x, H, I1, ru, ⟨rfl, fun ys hy => by rw [I.list_inj hy hq]; exact hx⟩, st', fun b hb => (hf b hb).1⟩⟩
 done := by
  intro X hP hw hK hc i pins s σ H E I hf st hg
  subst hP hw hK
  obtain ⟨xs, hq, hx⟩ := hg
  obtain ⟨its, rv, p, hz⟩ := I.list hq
  obtain ⟨f0, f1, f2, f3, f4, f5⟩ := hf it (by simp)
  have hl := rv.length
  exact wpAny_pyNext_list_end (I.ok.hd hc) st p.isList (by simp; omega) fun h' eb => ⟨rfl, I.turned (t' := s.toks) (fun b o hb e => eb b o hb e) f0 f1 f3 f4 f5⟩
 self := fun _ _ _ _ _ st h => wpAny_pyIter_listiter st h
end L2
namespace L2
open PySem PySem.Spec PyProof.Rows
section
variable {X : Cx} {tg : Expr}
def sZ (K : PySem.W.Frag) (tl : TE) : TI := fun σ H R => tl σ H fun x H1 => ∃ a, x = .ref a /\ (∃ xs, SqL K H1 a xs) /\ R (Itl K a) H1
theorem k8 {l : Expr} {tl : TE} (hl : PE X l tl) : PI X tg l (sZ X.K tl) := by
 intro pins s σ H R I h
 refine thn (hl pins s σ H _ I h) fun v s1 ⟨x, H1, I1, r1, q1⟩ => ?_
 obtain ⟨a, e, ⟨xs, hq⟩, q⟩ := q1
 subst e
 cases r1
 obtain ⟨its, rv, p, hz⟩ := I1.list hq
 refine wpAny_pyIter_list p.isList ?_
 refine ⟨s1.heap.objs.size, [s1.heap.objs.size], _, _, H1, rfl, I1.kept (t' := s1.toks) fun b o e => zAB _ e, n6 a _, ⟨_, zAJ _ rfl, rfl, rfl⟩, fun b hb => ?_, q⟩
 have e : b = s1.heap.objs.size := by simpa using hb
 subst e
 exact I1.fpOk (zAH _) (I1.hok.fresh (zAH _))
def ug (wi : TI) (g : TG) (tb : TS) : TS := fun D σ H => wi σ H fun J H1 => ∃ W : Nat -> Nat -> St -> Hp -> Prop, (∃ m, W 0 m σ H1) /\ ∀ i m σ H, W i m σ H →
 (J.stop i H /\ D.nx σ H) ∨ (J.go i H /\ ∃ N : St -> Hp -> Prop, (∀ σ' H', N σ' H' -> ∃ m', m' < m /\ W (i + 1) m' σ' H') /\ ∀ x H', J.yld i H x H' -> g x σ H' fun σ2 H2 => tb { D with nx := N, ct := N, bk := D.nx } σ2 H2)
def eJ (fp : List Addr) (h : Heap) : List (Addr × Obj) := fp.filterMap fun b => (h.get? b).map fun o => (b, o)
theorem bu {fp : List Addr} {h : Heap} {b : Addr} {o : Obj} (hb : b ∈ fp) (e : h.get? b = some o) : (b, o) ∈ eJ fp h := zBD.mpr ⟨b, hb, by rw [e]; rfl⟩
theorem nM {fp : List Addr} {h : Heap} {p : Addr × Obj} (hp : p ∈ eJ fp h) : p.1 ∈ fp /\ h.get? p.1 = some p.2 := by
 obtain ⟨b, hb, e⟩ := zBD.mp hp
 cases q : h.get? b with
 | none => rw [q] at e; cases e
 | some o =>
  rw [q] at e
  have e' : (b, o) = p := zAR e
  subst e'
  exact ⟨hb, q⟩
theorem Inv.pinned {pins : List (Addr × Obj)} {σ : St} {H : Hp} {s : Shared} {fp : List Addr} (I : Inv X pins σ H s) (hf : ∀ b ∈ fp, bF X pins H b) (ho : ∀ b ∈ fp, ∃ o, s.heap.get? b = some o /\ ∀ v, o.data ≠ .cell v) : Inv X (pins ++ eJ fp s.heap) σ H s :=
 I.pins_of fun p hp => (zAl.mp hp).elim (fun z => I.pin p (zAI _ z)) fun z => by
  obtain ⟨hb, e⟩ := nM z
  obtain ⟨f0, f1, f2, _⟩ := hf p.1 hb
  obtain ⟨o, e', d⟩ := ho p.1 hb
  rw [e] at e'; cases e'
  exact ⟨e, f0, f1, f2, d⟩
theorem Inv.unpinned {pins pl : List (Addr × Obj)} {σ : St} {H : Hp} {s : Shared} (I : Inv X (pins ++ pl) σ H s) : Inv X pins σ H s := I.pins_of fun p hp => I.pin p (zAI _ (zA8 _ hp))
theorem sF {iter : Expr} {body : List Stmt} {wi : TI} {g : TG} {tb : TS} {pos : Pos} (hp : PassesOwn (model X.prog X.w) X.A X.env X.xe) (hc : X.calm = true) (hi : PI X tg iter wi) (hg : PG X tg g) (hb : PSs X body tb)
  (hs : ∀ x, foldedSetIterable iter X.env x = pure x := by intro _; rfl) : PS X (.For tg iter body [] pos) (ug wi g tb) := by
 intro pins s σ H D I h
 refine wpAny_For (thn (hi pins s σ H _ I h) fun v s1 h1 => thn h1 fun itv s2 h2 => ?_) hs
 obtain ⟨it, fp, tn, J, H2, e, I2, T, st2, f2, W, ⟨m0, w0⟩, turn⟩ := h2
 subst e
 have stat : ∀ {H' : Hp}, (∀ b ∈ fp, H' b = none) -> ∀ b ∈ fp, bF X pins H' b := fun hn b hb => ⟨hn b hb, (f2 b hb).2⟩
 refine codeAny_forLoop_any (fun n s' => ∃ i σ' H', Inv X pins σ' H' s' /\ tn i s'.heap /\ (∀ b ∈ fp, H' b = none) /\ W i n σ' H') ?_ m0 ⟨0, σ, H2, I2, st2, fun b hb => (f2 b hb).1, w0⟩
 rintro n s3 ⟨i, σ3, H3, I3, st3, fr3, w3⟩
 rcases turn i n σ3 H3 w3 with ⟨stop, qn⟩ | ⟨go, N, hN, step⟩
 ·refine wpAny_passesOwn hp (thn (T.done X rfl rfl rfl hc i pins s3 σ3 H3 X.xe I3 (stat fr3) st3 stop) fun r s4 ⟨hr, I4⟩ => ?_)
  subst hr
  exact wpAny_execs_nil ⟨σ3, H3, I4, qn⟩
 ·refine wpAny_passesOwn hp (thn (T.item X rfl rfl rfl hc i pins s3 σ3 H3 X.xe I3 (stat fr3) st3 go) fun r s4 ⟨u, hr, h4⟩ => ?_)
  subst hr
  refine wpAny_passesOwn hp (thn h4 fun _ s5 ⟨x, H5, I5, r5, y5, st5, fr5⟩ => ?_)
  have I5' := I5.pinned (stat fr5) (T.obj _ _ st5)
  refine wpAny_passesOwn hp (thn (hg _ s5 σ3 H5 x u _ I5' r5 (step x H5 y5)) fun _ s6 ⟨σ6, H6, I6, q6⟩ => ?_)
  refine wpAny_passesOwn hp (thn (hb _ s6 σ6 H6 _ I6 q6) fun f s7 q7 => ?_)
  have again : ∀ {σ7 : St} {H7 : Hp}, Inv X (pins ++ eJ fp s5.heap) σ7 H7 s7 -> N σ7 H7 -> ∃ m, m < n /\ ∃ i σ' H', Inv X pins σ' H' s7 /\ tn i s7.heap /\ (∀ b ∈ fp, H' b = none) /\ W i m σ' H' := fun {σ7 H7} I7 n7 => by
   obtain ⟨m', hm, w7⟩ := hN σ7 H7 n7
   refine ⟨m', hm, i + 1, σ7, H7, I7.unpinned, T.keep _ _ _ st5 fun b hb o e => (I7.pin (b, o) (zAI _ (zAI _ (bu hb e)))).1, fun b hb => ?_, w7⟩
   obtain ⟨o, e, d⟩ := T.obj _ _ st5 b hb
   exact (I7.pin (b, o) (zAI _ (zAI _ (bu hb e)))).2.1
  cases f with
  | next => obtain ⟨σ7, H7, I7, n7⟩ := q7; exact again I7 n7
  | cont => obtain ⟨σ7, H7, I7, n7⟩ := q7; exact again I7 n7
  | brk => obtain ⟨σ7, H7, I7, q7⟩ := q7; exact ⟨σ7, H7, I7.unpinned, q7⟩
  | ret v => obtain ⟨x7, σ7, H7, I7, r7, q7⟩ := q7; exact ⟨x7, σ7, H7, I7.unpinned, r7, q7⟩
end
end L2
namespace L2
open PySem PySem.Spec PyProof.Rows
abbrev R2 := V -> V -> Hp -> VK -> Prop
def OpR (X : Cx) (f : Value -> Value -> Sem Value) (r : R2) : Prop :=
 ∀ (pins : List (Addr × Obj)) (s : Shared) (σ : St) (H : Hp) (x y : V) (v u : Value) (Q : VK), Inv X pins σ H s -> RelV x v -> RelV y u -> r x y H Q →
  wpAny (model X.prog X.w) X.A (f v u) (EP X pins σ Q) X.xe s
def UnR (X : Cx) (f : Value -> Sem Value) (r : V -> Hp -> VK -> Prop) : Prop :=
 ∀ (pins : List (Addr × Obj)) (s : Shared) (σ : St) (H : Hp) (x : V) (v : Value) (Q : VK), Inv X pins σ H s -> RelV x v -> r x H Q →
  wpAny (model X.prog X.w) X.A (f v) (EP X pins σ Q) X.xe s
def c7 (X : Cx) (f : Value) (r : List V -> Hp -> VK -> Prop) : Prop :=
 ∀ (pins : List (Addr × Obj)) (s : Shared) (σ : St) (H : Hp) (xs : List V) (us : List Value) (Q : VK), Inv X pins σ H s -> Vals xs us -> r xs H Q →
  wpAny (model X.prog X.w) X.A (call f us) (EP X pins σ Q) X.xe s
def rI (C : Int -> Int -> Prop) (g : Int -> Int -> V) : R2 := fun x y H Q => ∃ i j, x = .int i /\ y = .int j /\ C i j /\ Q (g i j) H
def rI0 (g : Int -> Int -> V) : R2 := fun x y H Q => ∃ i j, x = .int i /\ y = .int j /\ Q (g i j) H
def rU (g : Int -> V) : V -> Hp -> VK -> Prop := fun x H Q => ∃ i, x = .int i /\ Q (g i) H
section
variable {X : Cx} {a b c : Expr} {ta tb tc : TE} {pos : Pos}
theorem opI {f : Value -> Value -> Sem Value} {C : Int -> Int -> Prop} {g : Int -> Int -> Int}
  (rule : ∀ (i j : Int) (t u : Tok) (s : Shared) (Q : Value -> Shared -> Prop) (E : Value -> Shared -> Prop), C i j -> Q (.int (g i j) s.toks) { s with toks := s.toks + 1 } -> wpAny (model X.prog X.w) X.A (f (.int i t) (.int j u)) Q E s) :
  OpR X f (rI C fun i j => .int (g i j)) := by
 intro pins s σ H x y v u Q I rx ry h
 obtain ⟨i, j, rfl, rfl, hc, q⟩ := h
 obtain ⟨t, rfl⟩ := rx
 obtain ⟨t', rfl⟩ := ry
 exact rule i j t t' s _ _ hc ⟨.int (g i j), H, I.tok _, ⟨_, rfl⟩, q⟩
theorem si {f : Value -> Value -> Sem Value} {g : Int -> Int -> Int}
  (rule : ∀ (i j : Int) (t u : Tok) (s : Shared) (Q : Value -> Shared -> Prop) (E : Value -> Shared -> Prop), Q (.int (g i j) s.toks) { s with toks := s.toks + 1 } -> wpAny (model X.prog X.w) X.A (f (.int i t) (.int j u)) Q E s) :
  OpR X f (rI0 fun i j => .int (g i j)) := by
 intro pins s σ H x y v u Q I rx ry h
 obtain ⟨i, j, rfl, rfl, q⟩ := h
 obtain ⟨t, rfl⟩ := rx
 obtain ⟨t', rfl⟩ := ry
 exact rule i j t t' s _ _ ⟨.int (g i j), H, I.tok _, ⟨_, rfl⟩, q⟩
theorem pz {f : Value -> Value -> Sem Value} {g : Int -> Int -> Bool}
  (rule : ∀ (i j : Int) (t u : Tok) (s : Shared) (Q : Value -> Shared -> Prop) (E : Value -> Shared -> Prop), Q (.bool (g i j)) s -> wpAny (model X.prog X.w) X.A (f (.int i t) (.int j u)) Q E s) :
  OpR X f (rI0 fun i j => .bl (g i j)) := by
 intro pins s σ H x y v u Q I rx ry h
 obtain ⟨i, j, rfl, rfl, q⟩ := h
 obtain ⟨t, rfl⟩ := rx
 obtain ⟨t', rfl⟩ := ry
 exact rule i j t t' s _ _ ⟨.bl (g i j), H, I, rfl, q⟩
def lB (i j : Int) : Prop := 0 <= j /\ j <= 1000000 /\ i.natAbs < 2 ^ 64
def q9 (i j : Int) : Prop := (-(2 ^ 64) < i /\ i < 2 ^ 64) ∨ (-(2 ^ 64) < j /\ j < 2 ^ 64)
theorem q9.ok {i j : Int} (h : q9 i j) : IntMulOk i j := by
 rcases h with ⟨h1, h2⟩ | ⟨h1, h2⟩
 ·exact .of_left (intBits_le_64 h1 h2)
 ·exact .of_right (intBits_le_64 h1 h2)
theorem sj : OpR X (binaryOp .Add) (rI0 fun i j => .int (i + j)) := si fun _ _ _ _ _ _ _ q => add_int q
theorem sv : OpR X (binaryOp .Sub) (rI0 fun i j => .int (i - j)) := si fun _ _ _ _ _ _ _ q => sub_int q
theorem qO : OpR X (binaryOp .Mod) (rI (fun _ j => j ≠ 0) fun i j => .int (i.fmod j)) := opI fun _ _ _ _ _ _ _ hc q => mod_int' hc q
theorem sr : OpR X (binaryOp .Pow) (rI lB fun i j => .int (i ^ j.toNat)) := opI fun _ _ _ _ _ _ _ hc q => pow_int_small hc.1 hc.2.1 hc.2.2 q
theorem unI {f : Value -> Sem Value} {g : Int -> Int}
  (rule : ∀ (i : Int) (t : Tok) (s : Shared) (Q : Value -> Shared -> Prop) (E : Value -> Shared -> Prop), Q (.int (g i) s.toks) { s with toks := s.toks + 1 } -> wpAny (model X.prog X.w) X.A (f (.int i t)) Q E s) :
  UnR X f (rU fun i => .int (g i)) := by
 intro pins s σ H x v Q I rx h
 obtain ⟨i, rfl, q⟩ := h
 obtain ⟨t, rfl⟩ := rx
 exact rule i t s _ _ ⟨.int (g i), H, I.tok _, ⟨_, rfl⟩, q⟩
theorem sO : UnR X (unaryOp .USub) (rU fun i => .int (-i)) := unI fun _ _ _ _ _ q => neg_int q
end
def hW : V -> V -> Bool
 | .non, .non => true | .non, .int _ => true | .int _, .non => true | .non, .bl _ => true | .bl _, .non => true | .non, .str _ => true | .str _, .non => true
 | .int _, .int _ => true | .bl _, .bl _ => true | .str _, .str _ => true | .byt _, .byt _ => true
 | .int _, .str _ => true | .str _, .int _ => true | .bl _, .str _ => true | .str _, .bl _ => true
 | _, _ => false
def rEq : R2 := fun x y H Q => hW x y = true /\ Q (.bl (decide (x = y))) H
def rNe : R2 := fun x y H Q => hW x y = true /\ Q (.bl (!decide (x = y))) H
theorem fO {i j : Int} : decide (V.int i = V.int j) = (i == j) := by
 rw [Bool.eq_iff_iff]
 simp
theorem mO {i j : Bool} : decide (V.bl i = V.bl j) = (i == j) := by
 rw [Bool.eq_iff_iff]
 simp
theorem kA {i j : Str} : decide (V.str i = V.str j) = (i == j) := by
 rw [Bool.eq_iff_iff]
 simp
theorem kz {i j : Array UInt8} : decide (V.byt i = V.byt j) = (i.toList == j.toList) := by
 rw [Bool.eq_iff_iff]
 cases i
 cases j
 simp
section
variable {X : Cx} {a b c : Expr} {ta tb tc : TE} {pos : Pos}
theorem aC {pins : List (Addr × Obj)} {σ : St} {H : Hp} {s : Shared} {Q : VK} {k k' : Bool} (I : Inv X pins σ H s) (q : Q (.bl k) H) (e : k = k') : EP X pins σ Q (.bool k') s := by
 subst e
 exact ⟨.bl k, H, I, rfl, q⟩
theorem tG : OpR X (compareOp .Eq) rEq := by
 intro pins s σ H x y v u Q I rx ry h
 obtain ⟨hs, q⟩ := h
 cases x with
 | non =>
  cases rx
  cases y with
  | non => cases ry; exact PySem.EqNone.eq_none_none (aC I q (by simp))
  | bl j => cases ry; exact PySem.EqNone.eq_none_bool (aC I q (by simp))
  | int j => obtain ⟨t', rfl⟩ := ry; exact PySem.EqNone.eq_none_int (aC I q (by simp))
  | str j => obtain ⟨t', rfl⟩ := ry; exact PySem.EqNone.eq_none_str (aC I q (by simp))
  | _ => exact absurd (show false = true from hs) zAL
 | bl i =>
  cases rx
  cases y with
  | non => cases ry; exact PySem.EqNone.eq_bool_none (aC I q (by simp))
  | bl j => cases ry; exact eq_bool (aC I q mO)
  | str j => obtain ⟨t', rfl⟩ := ry; exact PySem.EqMixed.eq_bool_str (aC I q (by simp))
  | _ => exact absurd (show false = true from hs) zAL
 | int i =>
  obtain ⟨t, rfl⟩ := rx
  cases y with
  | non => cases ry; exact PySem.EqNone.eq_int_none (aC I q (by simp))
  | int j => obtain ⟨t', rfl⟩ := ry; exact eq_int (aC I q fO)
  | str j => obtain ⟨t', rfl⟩ := ry; exact PySem.EqMixed.eq_int_str (aC I q (by simp))
  | _ => exact absurd (show false = true from hs) zAL
 | str i =>
  obtain ⟨t, rfl⟩ := rx
  cases y with
  | non => cases ry; exact PySem.EqNone.eq_str_none (aC I q (by simp))
  | bl j => cases ry; exact PySem.EqMixed.eq_str_bool (aC I q (by simp))
  | int j => obtain ⟨t', rfl⟩ := ry; exact PySem.EqMixed.eq_str_int (aC I q (by simp))
  | str j => obtain ⟨t', rfl⟩ := ry; exact eq_str (aC I q kA)
  | _ => exact absurd (show false = true from hs) zAL
 | byt i =>
  obtain ⟨t, rfl⟩ := rx
  cases y with
  | byt j => obtain ⟨t', rfl⟩ := ry; exact PySem.W.eq_bytes (aC I q kz)
  | _ => exact absurd (show false = true from hs) zAL
 | _ => cases y <;> exact absurd (show false = true from hs) zAL
theorem tK : OpR X (compareOp .NotEq) rNe := by
 intro pins s σ H x y v u Q I rx ry h
 obtain ⟨hs, q⟩ := h
 cases x with
 | non =>
  cases rx
  cases y with
  | non => cases ry; exact PySem.EqNone.ne_none_none (aC I q (by simp))
  | bl j => cases ry; exact PySem.EqNone.ne_none_bool (aC I q (by simp))
  | int j => obtain ⟨t', rfl⟩ := ry; exact PySem.EqNone.ne_none_int (aC I q (by simp))
  | str j => obtain ⟨t', rfl⟩ := ry; exact PySem.EqNone.ne_none_str (aC I q (by simp))
  | _ => exact absurd (show false = true from hs) zAL
 | bl i =>
  cases rx
  cases y with
  | non => cases ry; exact PySem.EqNone.ne_bool_none (aC I q (by simp))
  | bl j => cases ry; exact ne_bool (aC I q (congrArg not mO))
  | str j => obtain ⟨t', rfl⟩ := ry; exact PySem.EqMixed.ne_bool_str (aC I q (by simp))
  | _ => exact absurd (show false = true from hs) zAL
 | int i =>
  obtain ⟨t, rfl⟩ := rx
  cases y with
  | non => cases ry; exact PySem.EqNone.ne_int_none (aC I q (by simp))
  | int j => obtain ⟨t', rfl⟩ := ry; exact ne_int (aC I q (congrArg not fO))
  | str j => obtain ⟨t', rfl⟩ := ry; exact PySem.EqMixed.ne_int_str (aC I q (by simp))
  | _ => exact absurd (show false = true from hs) zAL
 | str i =>
  obtain ⟨t, rfl⟩ := rx
  cases y with
  | non => cases ry; exact PySem.EqNone.ne_str_none (aC I q (by simp))
  | bl j => cases ry; exact PySem.EqMixed.ne_str_bool (aC I q (by simp))
  | int j => obtain ⟨t', rfl⟩ := ry; exact PySem.EqMixed.ne_str_int (aC I q (by simp))
  | str j => obtain ⟨t', rfl⟩ := ry; exact ne_str (aC I q (congrArg not kA))
  | _ => exact absurd (show false = true from hs) zAL
 | byt i =>
  obtain ⟨t, rfl⟩ := rx
  cases y with
  | byt j => obtain ⟨t', rfl⟩ := ry; exact PySem.W.ne_bytes (aC I q (congrArg not kz))
  | _ => exact absurd (show false = true from hs) zAL
 | _ => cases y <;> exact absurd (show false = true from hs) zAL
theorem tJ : OpR X (compareOp .Lt) (rI0 fun i j => .bl (decide (i < j))) := pz fun _ _ _ _ _ _ _ q => lt_int q
theorem tI : OpR X (compareOp .LtE) (rI0 fun i j => .bl (decide (i <= j))) := pz fun _ _ _ _ _ _ _ q => le_int q
theorem tH : OpR X (compareOp .Gt) (rI0 fun i j => .bl (decide (j < i))) := pz fun _ _ _ _ _ _ _ q => gt_int q
theorem sk : OpR X (compareOp .Is) (fun x y H Q => y = .non /\ Q (.bl (decide (x = .non))) H) := by
 intro pins s σ H x y v u Q I rx ry h
 obtain ⟨rfl, q⟩ := h
 cases ry
 refine is_none_gen (aC I q ?_)
 cases x <;> first
  | (cases rx; rfl)
  | (obtain ⟨t, rfl⟩ := rx; rfl)
theorem OpR.or {f : Value -> Value -> Sem Value} {r r' : R2} (h : OpR X f r) (h' : OpR X f r') : OpR X f (fun x y H Q => r x y H Q ∨ r' x y H Q) := by
 intro pins s σ H x y v u Q I rx ry q
 rcases q with q | q
 ·exact h pins s σ H x y v u Q I rx ry q
 ·exact h' pins s σ H x y v u Q I rx ry q
theorem gF : (sizeLine : Nat) < 2 ^ 63 := by rw [sizeLine_eq]; decide
theorem vals1 {x : V} {us : List Value} (r : Vals [x] us) : ∃ u, us = [u] /\ RelV x u := by
 cases r with
 | cons r1 r2 => cases r2; exact ⟨_, rfl, r1⟩
end
end L2
namespace L2
open PySem PySem.Spec PyProof.Rows
structure ot (h : Heap) (x dx C : Addr) (mA : Str -> Option Value) : Prop where
 obj : h.get? x = some (PySem.W.instObj C dx)
 ns : h.Ns1 dx mA
 ne : dx ≠ x
theorem nK {h : Heap} {dx : Addr} {mA : Str -> Option Value} (n : h.Ns1 dx mA) : ∃ od, h.get? dx = some od /\ ∀ name, PySem.W.lookIn name od = some (mA name) := by
 obtain ⟨o, es, ep, ho, hd, hk, _, hm⟩ := n
 refine ⟨o, ho, fun name => ?_⟩
 have e := hm name
 unfold nsFind findBy at e
 rw [<- Array.find?_toList] at e
 unfold PySem.W.lookIn
 rw [hd]
 dsimp only
 split
 ·rename_i y q
  rw [q] at e
  exact congrArg some e
 ·rename_i q
  rw [q] at e
  have a : es.toList.any (·.refKey) = false := by
   rw [List.any_eq_false]
   intro y hy
   obtain ⟨z, t, hkey⟩ := hk y (Array.mem_toList_iff.mp hy)
   simp [DictEntry.refKey, hkey]
  have a' : ¬ es.toList.any (·.refKey) = true := by rw [a]; exact zAL
  rw [if_neg a']
  exact congrArg some e
theorem ot.look {h : Heap} {x dx C : Addr} {mA : Str -> Option Value} (I : ot h x dx C mA) : ∃ od, PySem.W.InstAt h x (PySem.W.instObj C dx) C (some od) /\ ∀ name, PySem.W.lookIn name od = some (mA name) :=
 let ⟨od, ho, hl⟩ := nK I.ns
 ⟨od, ⟨I.obj, rfl, rfl, ho⟩, hl⟩
section
variable {prog : Program} {w : World} {A : Around} {E : Value -> Shared -> Prop} {s : Shared} {K : PySem.W.Frag} {x dx C f : Addr} {mA : Str -> Option Value} {name : Str} {v : Value}
end
theorem dW.none_of {o : Option Value} (r : dW none o) : o = none := by
 cases o with
 | none => rfl
 | some u => exact (show False from r).elim
section
variable {P : Program} {w : World} {H H' : Hp} {h h' : Heap} {a C dx : Addr} {fs fs' : List (Str × V)}
end
structure Cls (K : PySem.W.Frag) (C : Addr) : Prop where
 pg : PySem.W.plainGet K C Str.empty = true
 hd : PySem.W.hasDictIn K C = true
 po : PySem.W.plainOver K C = true
 sa : PySem.W.findIn K (.ref C) "__setattr__" = some (some (.builtin "object.__setattr__"))
theorem Cls.get {K : PySem.W.Frag} {C : Addr} (c : Cls K C) (f : Str) : PySem.W.plainGet K C f = true := c.pg
structure Con (K : PySem.W.Frag) (C : Addr) (f : Str) (v : V) (u : Value) : Prop where
 at_ : PySem.W.findIn K (.ref C) f = some (some u)
 rel : RelV v u
 get : PySem.W.specialIn K u "__get__" = some none
 cp : PySem.W.copiedNames.contains f = false
structure Meth (K : PySem.W.Frag) (C : Addr) (m : Str) (f : Addr) : Prop where
 at_ : PySem.W.findIn K (.ref C) m = some (some (.ref f))
 fn : PySem.W.isFn K (.ref f) = true
 kp : PySem.W.keepIn K (.ref f) = true
section
variable {X : Cx} {pins : List (Addr × Obj)} {σ : St} {H : Hp} {s : Shared} {a C dx : Addr} {fs : List (Str × V)} {f : Str} {v : V} {A : Around} {E : Value -> Shared -> Prop}
theorem Inv.made (I : Inv X pins σ H s) : Inv X pins σ (upd (upd H s.heap.objs.size (.own (s.heap.objs.size + 1))) (s.heap.objs.size + 1) (.ins C s.heap.objs.size []))
  { s with heap := (s.heap.push PySem.W.emptyDict).push (PySem.W.instObj C s.heap.objs.size) } := by
 have e1 : (s.heap.push PySem.W.emptyDict).get? s.heap.objs.size = some PySem.W.emptyDict := zAJ s.heap rfl
 have e2 : ((s.heap.push PySem.W.emptyDict).push (PySem.W.instObj C s.heap.objs.size)).get? (s.heap.objs.size + 1) = some (PySem.W.instObj C s.heap.objs.size) := by
  have := zAJ (s.heap.push PySem.W.emptyDict) (o := PySem.W.instObj C s.heap.objs.size) rfl
  rwa [zAs] at this
 have e3 : (s.heap.push PySem.W.emptyDict).Ns s.heap.objs.size (fun _ => none) := ⟨PySem.W.emptyDict, #[], _, e1, rfl, (fun e he => absurd he (by simp)), fun _ => rfl⟩
 have I1 := I.laid (a := s.heap.objs.size) (o := .own (s.heap.objs.size + 1)) (h' := s.heap.push PySem.W.emptyDict) (t' := s.toks) (fun b u q => zAB _ q) (zAH _) ⟨_, e1⟩
 refine I1.laid (a := s.heap.objs.size + 1) (o := .ins C s.heap.objs.size []) (t' := s.toks) (fun b u q => zAB _ q) (Nat.le_of_eq (zAs _ _)) ?_
 have ne : s.heap.objs.size ≠ s.heap.objs.size + 1 := zAT (Nat.lt_succ_self _)
 refine ⟨by rw [aj ne, aw], zAZ _, ne, e2, fun _ => none, (Heap.Ns1.of_empty e3).at fun o q => zAB _ q, fun _ => True.intro, fun y hy => absurd rfl hy⟩
end
section
variable {X : Cx} {o e value : Expr} {f : Str} {pos pos' tpos : Pos} {ta tv : TE}
end
section
variable {X : Cx} {pins : List (Addr × Obj)} {σ : St} {H : Hp} {s : Shared} {A : Around} {E : Value -> Shared -> Prop} {Q : Value -> Shared -> Prop} {c : Value} {b : Bool}
inductive df (K : PySem.W.Frag) (H : Hp) : V -> Value -> Prop where
 | non : df K H .non (.type "NoneType")
 | bl (x : Bool) : df K H (.bl x) (.type "bool")
 | int (i : Int) : df K H (.int i) (.type "int")
 | str (x : Str) : df K H (.str x) (.type "str")
 | flt (x : UInt64) : df K H (.flt x) (.type "float")
 | lst {a : Addr} {xs : List V} (e : H a = some (.lst xs)) : df K H (.ref a) (.type "list")
 | frz {a : Addr} {o : Obj} {xs : List V} (e : H a = some (.frz o (.lst xs))) : df K H (.ref a) (.type "list")
 | tup {a : Addr} {xs : List V} (e : H a = some (.tup xs)) : df K H (.ref a) (.type "tuple")
 | dK {a : Addr} {kvs : List (Key × V)} (e : H a = some (.dK kvs)) : df K H (.ref a) (.type "dict")
 | dT {a : Addr} {kvs : List (List Key × V)} (e : H a = some (.dT kvs)) : df K H (.ref a) (.type "dict")
 | ins {a C dx : Addr} {fs : List (Str × V)} (e : H a = some (.ins C dx fs)) (cl : Cls K C) (ha : PySem.W.findIn K (.ref C) "__class__" = some (some (.builtin "object.__class__")))
   (hn : PySem.W.specialIn K (.builtin "object.__class__") "__get__" = some (some (.builtin "getset_descriptor.__get__"))) (htk : PySem.W.takesIn K (.builtin "object.__class__") = some true)
   (hm : PySem.W.mroIn K C (.type "object") = some true) : df K H (.ref a) (.ref C)
end
end L2
namespace L2
open PySem PySem.Spec PyProof.Rows
structure aH (k : Nat) (A : Around) : Prop where
 hd : A.handled = none
 dp : A.depth + 3 * k + 5 < recursionLimit
 un : A.units + 16 * k + 200 < cLine
theorem aH.mono {j k : Nat} {A : Around} (r : aH k A) (h : j <= k) : aH j A := ⟨r.hd, by have := r.dp; omega, by have := r.un; omega⟩
theorem aH.deeper {k : Nat} {A : Around} (r : aH (k + 1) A) (env : Env) : aH k (A.deeper env) :=
 ⟨r.hd, by have := r.dp; show A.depth + 1 + 3 * k + 5 < _; omega, by have := r.un; show A.units + 3 + 16 * k + 200 < _; omega⟩
theorem aH.in1 {k : Nat} {A : Around} (r : aH (k + 1) A) : aH k A.in1 :=
 ⟨r.hd, by have := r.dp; show A.depth + 3 * k + 5 < _; omega, by have := r.un; show A.units + 1 + 16 * k + 200 < _; omega⟩
theorem l7 {A : Around} {C : Addr} {us : List Value} {kw : List (Str × Value)} : (A.under (.builtin "type.__call__" ⟨.ref C :: us, kw⟩)).depth = A.depth + 1 := by
 first | rfl | simp [Around.under, Code.weight, Code.isCreation, Code.isGuard, Code.isCaller, Code.frames, Code.isFrame, guardIds]
theorem l8 {A : Around} {C : Addr} {us : List Value} {kw : List (Str × Value)} : (A.under (.builtin "type.__call__" ⟨.ref C :: us, kw⟩)).units = A.units + 1 := by
 first | rfl | simp [Around.under, Code.cUnits, Code.frames, Code.isFrame]
theorem aH.make {k : Nat} {A : Around} (r : aH (k + 1) A) (C : Addr) (us : List Value) (kw : List (Str × Value)) : aH k (A.under (.builtin "type.__call__" ⟨.ref C :: us, kw⟩)) :=
 ⟨r.hd, by have := r.dp; rw [l7]; omega, by have := r.un; rw [l8]; omega⟩
theorem aH.depth {k : Nat} {A : Around} (r : aH k A) : A.depth < recursionLimit := by have := r.dp; omega
theorem aH.units {k : Nat} {A : Around} (r : aH k A) : A.units + 64 < cLine := by have := r.un; omega
def hZ : TA := fun _ H Q => Q [] H
def cA (ta : TE) (tr : TA) : TA := fun σ H Q => ta σ H fun x H1 => tr σ H1 fun xs H2 => Q (x :: xs) H2
section
variable {X : Cx} {e : Expr} {es : List Expr} {te : TE} {t : TA} {pos : Pos}
theorem dm : PA X [] hZ := fun _ _ _ _ H Q I h => Calls.spliced_nil ⟨[], H, I, .nil, h⟩
theorem bD (ha : PE X e te) (hr : PA X es t) (hs : starEach (e :: es) X.env = (false, eval e X.env) :: starEach es X.env := by rfl) : PA X (e :: es) (cA te t) := by
 intro pos pins s σ H Q I h
 rw [hs]
 show wpAny _ _ (spliced ((false, eval e X.env) :: backTo pos (starEach es X.env))) _ _ s
 refine Calls.spliced_cons (thn (ha pins s σ H _ I h) fun u s1 ⟨x, H1, I1, r1, q1⟩ => ?_)
 exact thn (hr pos pins s1 σ H1 _ I1 q1) fun us s2 ⟨xs, H2, I2, r2, q2⟩ => ⟨x :: xs, H2, I2, .cons r1 r2, q2⟩
def pG (t : TA) : TE := fun σ H Q => t σ H fun xs H1 => xs.length <= sizeLine /\ ∀ p, H1 p = none -> Q (.ref p) (upd H1 p (.tup xs))
theorem sC {x1} (h : PA X es t) : PE X (.Tuple es x1 pos) (pG t) := by
 intro pins s σ H Q I hq
 refine wpAny_Tuple_spliced (thn (h pos pins s σ H _ I hq) fun us s1 ⟨xs, H1, I1, r, z, q⟩ => ⟨by rw [<- r.length]; exact z, ?_⟩)
 have hf : H1 s1.heap.objs.size = none := I1.hok.fresh (zAH _)
 refine ⟨.ref s1.heap.objs.size, upd H1 s1.heap.objs.size (.tup xs), I1.laid (t' := s1.toks) (fun b u e => zAB _ e) (zAH _) ?_, rfl, q _ hf⟩
 exact ⟨z, us, r, ⟨_, zAJ _ rfl, rfl, _, rfl⟩⟩
end
abbrev Sp := List V -> Hp -> VK -> XK -> Prop
abbrev CXT := List Env -> Hp -> Shared -> XK -> Value -> Shared -> Prop
structure dU (P : Program) (w : World) (K : PySem.W.Frag) (mg : Str -> Option Value) (base : Heap) (A : Around) (outer : List Env) (s : Shared) (H : Hp) : Prop where
 frames : A.frames = some outer
 mod : Mod K mg base
 bs : ∀ b o, base.get? b = some o -> s.heap.get? b = some o /\ H b = none
 bsz : base.objs.size <= s.heap.objs.size
 funs : s.heap.FunFrames base outer
 frf : ∀ b ∈ frs outer, H b = none
 hok : HOk P w H s.heap
 bare : AllBare s.gens
def CE (outer : List Env) (P : Program) (w : World) (H : Hp) (s : Shared) (Q : VK) (u : Value) (s' : Shared) : Prop :=
 ∃ v H', s'.os = s.os /\ AllBare s'.gens /\ Un (frs outer) [] H H' s.heap s'.heap /\ HOk P w H' s'.heap /\ RelV v u /\ Q v H'
def CR (CX : CXT) (outer : List Env) (P : Program) (w : World) (H : Hp) (s : Shared) (Q : VK) (E : XK) (r : Result) (s' : Shared) : Prop :=
 match r with
 | .ok (.ret u) => CE outer P w H s Q u s'
 | .ok _ => False
 | .error e => CX outer H s E e s'
structure aE (P : Program) (w : World) (K : PySem.W.Frag) (mg : Str -> Option Value) (base : Heap) (CX : CXT) (k : Nat) (f : Addr) (fd : FuncData) (ps : List Str) (sp : Sp) : Prop where
 len : ∀ vs H Q E, sp vs H Q E -> vs.length = ps.length
 run : ∀ (A : Around) (outer : List Env) (s : Shared) (H : Hp) (args : Args) (us : List Value) (vs : List V) (Q : VK) (E : XK), aH k A -> dU P w K mg base A outer s H -> BindsTo s fd args (ps.zip us) -> Vals vs us -> sp vs H Q E →
  codeAny (model P w) A (.call (.ref f) args) (CR CX outer P w H s Q E) s
theorem aE.mono {P : Program} {w : World} {K : PySem.W.Frag} {mg : Str -> Option Value} {base : Heap} {CX : CXT} {j k : Nat} {f : Addr} {fd : FuncData} {ps : List Str} {sp : Sp} (F : aE P w K mg base CX j f fd ps sp) (h : j <= k) :
  aE P w K mg base CX k f fd ps sp := ⟨F.len, fun A outer s H args us vs Q E hr => F.run A outer s H args us vs Q E (hr.mono h)⟩
theorem aE.imp {P : Program} {w : World} {K : PySem.W.Frag} {mg : Str -> Option Value} {base : Heap} {CX : CXT} {k : Nat} {f : Addr} {fd : FuncData} {ps : List Str} {sp sp' : Sp} (F : aE P w K mg base CX k f fd ps sp)
  (h : ∀ vs H Q E, sp' vs H Q E -> sp vs H Q E) : aE P w K mg base CX k f fd ps sp' :=
 ⟨fun vs H Q E q => F.len vs H Q E (h _ _ _ _ q), fun A outer s H args us vs Q E hr he hb hv hs => F.run A outer s H args us vs Q E hr he hb hv (h _ _ _ _ hs)⟩
theorem dU.make {P : Program} {w : World} {K : PySem.W.Frag} {mg : Str -> Option Value} {base : Heap} {A : Around} {outer : List Env} {s : Shared} {H : Hp} (e : dU P w K mg base A outer s H) (C : Addr) (us : List Value) (kw : List (Str × Value)) :
  dU P w K mg base (A.under (.builtin "type.__call__" ⟨.ref C :: us, kw⟩)) outer s H := ⟨by first | exact e.frames | (simpa [Around.under, Code.envs, Code.isFrame, pushEnvs] using e.frames), e.mod, e.bs, e.bsz, e.funs, e.frf, e.hok, e.bare⟩
theorem dU.in1 {P : Program} {w : World} {K : PySem.W.Frag} {mg : Str -> Option Value} {base : Heap} {A : Around} {outer : List Env} {s : Shared} {H : Hp} (e : dU P w K mg base A outer s H) :
  dU P w K mg base A.in1 outer s H := ⟨e.frames, e.mod, e.bs, e.bsz, e.funs, e.frf, e.hok, e.bare⟩
section
variable {X : Cx} {pins : List (Addr × Obj)} {σ : St} {H : Hp} {s s' : Shared}
theorem Inv.env0 (I : Inv X pins σ H s) : dU X.prog X.w X.K X.mg X.base X.A X.stack s H :=
 ⟨I.ok.frames, I.ok.mod, I.bs, zAa I.ok.bsz I.sz, I.stack, I.stkFree, I.hok, I.bare⟩
theorem Inv.after {Q : VK} {u : Value} (I : Inv X pins σ H s) (h : CE X.stack X.prog X.w H s Q u s') : EP X pins σ Q u s' := by
 obtain ⟨v, H', os, bare, un, hok, r, q⟩ := h
 obtain ⟨hh, g, d, t, os'⟩ := s'
 obtain rfl : os' = s.os := os
 exact ⟨v, H', I.call (h' := hh) (g' := g) (d' := d) (t' := t) (ch := []) un hok bare (fun b z => absurd z (by simp)), r, q⟩
end
def Binds (K : PySem.W.Frag) (fd : FuncData) (ps : List Str) (ds : List Value) : Prop :=
 ∀ (s : Shared) (us : List Value), K.In s.heap -> (us ++ ds).length = ps.length -> BindsTo s fd ⟨us, []⟩ (ps.zip (us ++ ds))
theorem Binds.all {K : PySem.W.Frag} {fd : FuncData} {ps : List Str} (h : ∀ us : List Value, us.length = ps.length -> bindArgs fd ⟨us, []⟩ = pure (ps.zip us)) : Binds K fd ps [] := fun s us _ hl => by
 rw [zAk] at hl ⊢
 exact .of_eq (h us hl)
def Passes (CX : CXT) (X : Cx) (E : XK) : Prop := ∀ (pins : List (Addr × Obj)) (σ : St) (H : Hp) (s : Shared) (e : Value) (s' : Shared), Inv X pins σ H s -> CX X.stack H s E e s' -> X.xe e s'
section
variable {X : Cx} {CX : CXT} {k : Nat} {f C : Addr} {fd : FuncData} {ps : List Str} {sp : Sp} {dvs : List V} {ds : List Value} {E : XK} {x m : Str} {p pos apos : Pos} {e o : Expr} {es : List Expr} {ta : TE} {t : TA}
theorem jM {pins : List (Addr × Obj)} {σ : St} {H : Hp} {s : Shared} {Q : VK} {us : List Value} {vs : List V} (F : aE X.prog X.w X.K X.mg X.base CX k f fd ps sp) (hr : aH k X.A) (hb : Binds X.K fd ps ds) (hd : Vals dvs ds) (hx : Passes CX X E)
  (I : Inv X pins σ H s) (r : Vals vs us) (h : sp (vs ++ dvs) H Q E) : wpAny (model X.prog X.w) X.A (call (.ref f) us) (EP X pins σ Q) X.xe s := by
 have r2 : Vals (vs ++ dvs) (us ++ ds) := r.append hd
 have hl : (us ++ ds).length = ps.length := by rw [<- r2.length]; exact F.len _ _ _ _ h
 refine wpAny_call (codeAny_mono (F.run X.A X.stack s H ⟨us, []⟩ (us ++ ds) (vs ++ dvs) Q E hr I.env0 (hb s us I.kIn hl) r2 h) fun r s' hq => ?_)
 cases r with
 | error e => exact hx pins σ H s e s' I hq
 | ok fl =>
  cases fl with
  | ret u => exact I.after hq
  | next => exact False.elim hq
  | brk => exact False.elim hq
  | cont => exact False.elim hq
structure Mk (K : PySem.W.Frag) (C f : Addr) : Prop where
 makes : PySem.W.makesIn K C = true
 init : PySem.W.findIn K (.ref C) "__init__" = some (some (.ref f))
 fn : PySem.W.isFn K (.ref f) = true
 kp : PySem.W.keepIn K (.ref C) = true
end
section
variable {X : Cx} {CX : CXT} {k : Nat} {f C : Addr} {fd : FuncData} {ps ks : List Str} {sp : Sp} {E : XK} {x m : Str} {p pos apos kpos : Pos} {e o : Expr} {es : List Expr} {kws : List Keyword} {te ta : TE} {t tk : TA} {nm : Option Str}
structure ui (K : PySem.W.Frag) (fd : FuncData) (ps ks : List Str) (g : List Value -> List Value -> List Value) (gV : List V -> List V -> List V) : Prop where
 to : ∀ (s : Shared) (us ws : List Value), K.In s.heap -> (g us ws).length = ps.length -> BindsTo s fd ⟨us, ks.zip ws⟩ (ps.zip (g us ws))
 rel : ∀ {vs : List V} {us : List Value} {zs : List V} {ws : List Value}, Vals vs us -> Vals zs ws -> Vals (gV vs zs) (g us ws)
variable {g : List Value -> List Value -> List Value} {gV : List V -> List V -> List V}
end
structure aF (N P : List Str) (sc : Scope) : Prop where
 kind : sc.kind = .function
 co : sc.isCoroutine = false
 gen : sc.isGenerator = false
 nd : N.Nodup
 pre : N.take P.length = P
 par : ∀ x ∈ P, sc.names.lookup x = some .local ∨ sc.names.lookup x = some .cell
 nofree : ∀ y ∈ sc.names, y.2 ≠ .free
theorem ig {kindOf : Str -> Option NameKind} {x : Str} : ∀ {binds : List (Str × Value)} {m : Str -> Option Value}, (∀ v, (x, v) ∉ binds) -> bindL kindOf binds m x = m x
 | [], _, _ => rfl
 | (n, v) :: r, m, h => by
  unfold bindL
  rw [ig fun w hw => h w (zAb _ hw)]
  split
  ·have : x ≠ n := by rintro rfl; exact h v zAf
   simp [this]
  ·rfl
theorem ic {kindOf : Str -> Option NameKind} {x : Str} : ∀ {binds : List (Str × Value)} {m : Str -> Option Value}, (∀ v, (x, v) ∉ binds) -> bindC kindOf binds m x = m x
 | [], _, _ => rfl
 | (n, v) :: r, m, h => by
  unfold bindC
  rw [ic fun w hw => h w (zAb _ hw)]
  split
  ·rfl
  ·have : x ≠ n := by rintro rfl; exact h v zAf
   simp [this]
theorem ie {kindOf : Str -> Option NameKind} {x : Str} {v : Value} : ∀ {P : List Str} {vs : List Value} {i : Nat} {m : Str -> Option Value}, P.Nodup -> P[i]? = some x -> vs[i]? = some v -> kindOf x = some .local →
  bindL kindOf (P.zip vs) m x = some v
 | [], _, _, _, _, h, _, _ => by simp at h
 | _ :: _, [], _, _, _, _, h, _ => by simp at h
 | p :: P, w :: vs, 0, m, nd, h1, h2, hk => by
  simp at h1 h2; subst h1; subst h2
  show bindL kindOf ((p, w) :: P.zip vs) m p = _
  unfold bindL
  rw [ig fun v hv => (List.nodup_cons.mp nd).1 (List.of_mem_zip hv).1, if_pos hk]
  simp
 | p :: P, w :: vs, i + 1, m, nd, h1, h2, hk => by
  show bindL kindOf ((p, w) :: P.zip vs) m x = _
  unfold bindL
  exact ie (i := i) (List.nodup_cons.mp nd).2 (by simpa using h1) (by simpa using h2) hk
theorem ib {kindOf : Str -> Option NameKind} {x : Str} {v : Value} : ∀ {P : List Str} {vs : List Value} {i : Nat} {m : Str -> Option Value}, P.Nodup -> P[i]? = some x -> vs[i]? = some v -> kindOf x ≠ some .local →
  bindC kindOf (P.zip vs) m x = some v
 | [], _, _, _, _, h, _, _ => by simp at h
 | _ :: _, [], _, _, _, _, h, _ => by simp at h
 | p :: P, w :: vs, 0, m, nd, h1, h2, hk => by
  simp at h1 h2; subst h1; subst h2
  show bindC kindOf ((p, w) :: P.zip vs) m p = _
  unfold bindC
  rw [ic fun v hv => (List.nodup_cons.mp nd).1 (List.of_mem_zip hv).1, if_neg hk]
  simp
 | p :: P, w :: vs, i + 1, m, nd, h1, h2, hk => by
  show bindC kindOf ((p, w) :: P.zip vs) m x = _
  unfold bindC
  exact ib (i := i) (List.nodup_cons.mp nd).2 (by simpa using h1) (by simpa using h2) hk
def start (N : List Str) (vs : List V) : St := vs.map some ++ List.replicate (N.length - vs.length) none
def bB (CX : CXT) (P : Program) (w : World) (K : PySem.W.Frag) (mg : Str -> Option Value) (base : Heap) (N : List Str) (qual : Str) (scope : Scope) (f : Addr) (cd : Value) (A : Around) (outer : List Env) (s : Shared) (H : Hp) (E : XK) : Cx where
 prog := P
 w := w
 K := K
 mg := mg
 base := base
 A := A.deeper (envOfC qual scope s.heap.objs.size f cd)
 N := N
 s₀ := s
 H₀ := H
 env := envOfC qual scope s.heap.objs.size f cd
 outer := outer
 stack := envOfC qual scope s.heap.objs.size f cd :: outer
 ex := []
 calm := true
 fn := fun _ => true
 pn := []
 xe := fun e s' => wpAny (model P w) (A.deeper (envOfC qual scope s.heap.objs.size f cd)) (leaving (envOfC qual scope s.heap.objs.size f cd) e) (fun _ s'' => CX outer H s E e s'') (fun e' s'' => CX outer H s E e' s'') s'
theorem i6 {sc : Scope} {n : Nat} {x : Str} (h : sc.names.lookup x = some .cell) : ∃ c, (cellsFrom n sc.names []).lookup x = some c := by
 have q := PySem.W.cellsFrom_some sc.names n [] (.inl h)
 exact Option.isSome_iff_exists.mp q
theorem nB {CX : CXT} {P : Program} {w : World} {K : PySem.W.Frag} {mg : Str -> Option Value} {base : Heap} {N ps : List Str} {qual : Str} {scope : Scope} {f : Addr} {cd : Value} {A : Around} {outer : List Env} {s s1 : Shared} {H : Hp} {E : XK} {us : List Value} {vs : List V}
  (S : aF N ps scope) (hd : A.handled = none) (e0 : dU P w K mg base A outer s H) (hl : vs.length = ps.length) (r : Vals vs us)
  (x : InCallC s s.heap.objs.size (bindL (envOfC qual scope s.heap.objs.size f cd).kindOf (ps.zip us) fun _ => none) (cellsFrom (s.heap.objs.size + 1) scope.names []) (bindC (envOfC qual scope s.heap.objs.size f cd).kindOf (ps.zip us) fun _ => none) s1) :
  Inv (bB CX P w K mg base N qual scope f cd A outer s H E) [] (start N vs) H s1 := by
 have hpl : ps.length <= N.length := by have := congrArg List.length S.pre; rw [zAh] at this; omega
 obtain ⟨h1, tk, rfl, hk⟩ := x.done
 have noA : ∀ b : Addr, b ∉ (bB CX P w K mg base N qual scope f cd A outer s H E).ex := fun b z => absurd (show b ∈ ([] : List Addr) from z) (by simp)
 refine ⟨⟨e0.mod, S.kind, rfl, rfl, zAH _, fun y z c h1 h2 => ?_, fun y hy => ?_, fun y c _ h => ?_, fun _ => hd, Around.frames_deeper e0.frames, .inr ⟨rfl, rfl⟩, fun b z => absurd z (noA b), e0.bs, e0.bsz, fun b _ _ => noA b, fun b z => absurd z (noA b), e0.funs, e0.frf⟩,
  rfl, e0.bare, Un.kept hk, ⟨_, x.toInCall.ns, fun i y v h1 h2 h3 => ?_⟩, fun y c h => ⟨_, x.cell y c h⟩, e0.hok.fresh (zAH _), fun y c h => ?_, fun p hp => absurd (show p ∈ ([] : List (Addr × Obj)) from hp) (by simp), e0.hok.kept hk, ?_⟩
 ·exact name_of_addr x.apart (PySem.mem_of_lookup h1) (PySem.mem_of_lookup h2)
 ·have hy : scope.names.lookup y = some .cell ∨ scope.names.lookup y = some .free := hy
  rcases hy with hy | hy
  ·exact i6 hy
  ·exact absurd rfl (S.nofree _ (PySem.mem_of_lookup hy))
 ·exact Nat.le_of_lt (x.above y c (PySem.mem_of_lookup h))
 ·have hi : i < vs.length := by
   unfold start at h2
   by_cases hi : i < vs.length
   ·exact hi
   ·rw [zAM (by simpa using hi)] at h2
    rw [zAj] at h2
    split at h2 <;> cases h2
  have ha : vs[i]? = some v := by
   unfold start at h2
   rw [zAV (by simpa using hi), zAN] at h2
   cases e : vs[i]? with
   | none => rw [e] at h2; cases h2
   | some a => rw [e] at h2; cases h2; rfl
  obtain ⟨u, hu, rv⟩ := r.get ha
  have hp : ps[i]? = some y := by
   rw [<- S.pre, List.getElem?_take_of_lt (by omega)]; exact h1
  have ndP : ps.Nodup := by rw [<- S.pre]; exact S.nd.sublist (List.take_sublist _ _)
  refine ⟨u, rv, ?_⟩
  rcases S.par y (zAy hp) with k | k
  ·exact .inl ⟨k, ie ndP hp hu k⟩
  ·obtain ⟨c, e⟩ := i6 (n := s.heap.objs.size + 1) k
   refine .inr ⟨.inl k, c, e, ?_⟩
   have q := x.cell y c e
   rw [ib ndP hp hu (by show scope.names.lookup y ≠ _; rw [k]; decide)] at q
   exact q
 ·exact e0.hok.fresh (Nat.le_of_lt (x.above y c (PySem.mem_of_lookup h)))
 ·unfold start
  show _ = N.length
  rw [zAQ, zAF, List.length_replicate]
  omega
theorem qb {CX : CXT} {P : Program} {w : World} {K : PySem.W.Frag} {mg : Str -> Option Value} {base : Heap} {k : Nat} {f : Addr} {name qual : Str} {params : Arguments} {body : List Stmt} {scope : Scope} {dV kV doc pm cdv ct oc : Value} {an od : Option Addr}
  {osl : Array (Option Value)} {N ps : List Str} {sp : Sp} (lk : K.lookup f = some ⟨oc, od, .func (PySem.W.fnOf name qual params body scope dV kV doc pm an cdv ct), osl⟩) (hcd : PySem.W.codeIn K cdv qual = true) (S : aF N ps scope)
  (len : ∀ vs H Q E, sp vs H Q E -> vs.length = ps.length)
  (hbody : ∀ (A : Around) (outer : List Env) (s : Shared) (H : Hp) (vs : List V) (Q : VK) (E : XK), aH k (A.deeper (envOfC qual scope s.heap.objs.size f cdv)) -> sp vs H Q E →
   ∃ t, PSs (bB CX P w K mg base N qual scope f cdv A outer s H E) body t /\ t { nx := fun _ H' => Q .non H', rt := Q } (start N vs) H) :
  aE P w K mg base CX (k + 1) f (PySem.W.fnOf name qual params body scope dV kV doc pm an cdv ct) ps sp := by
 refine ⟨len, fun A outer s H args us vs Q E hr e0 hb r hsp => ?_⟩
 have hl := len _ _ _ _ hsp
 have KX : K.In s.heap := e0.mod.kin.keeps fun b o e => (e0.bs b o e).1
 have lim : s.heap.NoLimit := e0.mod.nolimit.keeps fun b o e => (e0.bs b o e).1
 have hkind : ∀ y ∈ ps.zip us, scope.names.lookup y.1 = some .local ∨ (scope.names.lookup y.1 = some .cell /\ ((cellsFrom (s.heap.objs.size + 1) scope.names []).lookup y.1).isSome = true) := fun ⟨n, v⟩ hy => by
  rcases S.par n (List.of_mem_zip hy).1 with q | q
  ·exact .inl q
  ·exact .inr ⟨q, PySem.W.cellsFrom_some _ _ _ (.inl q)⟩
 refine codeAny_call_function hr.depth (KX _ _ lk) rfl S.co S.gen rfl (PySem.W.codeRec_of KX hcd) (hb _ _ _ _ ?_)
 refine wpAny_newFunctionEnv_cells S.kind hkind fun env he s1 x => ?_
 subst he
 refine ⟨lim.keeps x.toInCall.keep, codeAny_func ?_⟩
 obtain ⟨t, ht, hq⟩ := hbody A outer s H vs Q E (hr.deeper _) hsp
 have I : Inv (bB CX P w K mg base N qual scope f cdv A outer s H E) [] (start N vs) H s1 := nB S hr.hd e0 hl r x
 refine wpAny_mono (ht [] s1 (start N vs) H _ I hq) (fun fl s' hs => ?_) fun e s' hs => hs
 have fin : ∀ {σ' : St} {H' : Hp} {v : V} {u : Value}, Inv (bB CX P w K mg base N qual scope f cdv A outer s H E) [] σ' H' s' -> RelV v u -> Q v H' -> CE outer P w H s Q u s' :=
  fun {σ' H' v u} J rv q => ⟨v, H', J.os, J.bare, J.base, J.hok, rv, q⟩
 cases fl with
 | ret u =>
  obtain ⟨v, σ', H', J, rv, q⟩ := hs
  exact fin J rv q
 | next =>
  obtain ⟨σ', H', J, q⟩ := hs
  exact fin (v := V.non) (u := Value.none) J rfl q
 | brk =>
  obtain ⟨_, _, _, q⟩ := hs
  exact False.elim q
 | cont =>
  obtain ⟨_, _, _, q⟩ := hs
  exact False.elim q
end L2
namespace L2
open PySem PySem.Spec PyProof.Rows
section
variable {X : Cx} {x : Str} {p pos : Pos} {e : Expr} {es : List Expr} {t : TA} {id T : String} {r : List V -> Hp -> VK -> Prop}
def tCB (r : List V -> Hp -> VK -> Prop) (t : TA) : TE := fun σ H Q => t σ H fun vs H1 => r vs H1 Q
theorem nQ (hc : c7 X (.type T) r) (hg : Gl X x) (hm : X.mg x = none) (hv : bootBuiltins x = some (.type T)) (ha : PA X (e :: es) t) (hn : x ≠ "__name__" := by decide) (hdb : (x == ("__debug__" : Str)) = false := by decide)
  (he : starEach (e :: es) X.env = (false, eval e X.env) :: starEach es X.env := by rfl) (hpl : (backTo pos (starEach es X.env)).any (·.1) = false := by rfl) : PE X (.Call (.Name x p) (e :: es) [] pos) (tCB r t) := by
 intro pins s σ H Q I h
 refine wpAny_Call_Name_kw (cq I hg hm hv ?_ hn hdb)
 exact PyProof.Rows.callWith_type1 (thn (ha pos pins s σ H _ I h) fun us s1 ⟨vs, H1, I1, r1, q1⟩ => hc pins s1 σ H1 vs us Q I1 r1 q1) he hpl
end
end L2
namespace HT
open PySem PyProof.Rows
section
open PySem.SeqAt
open PySem.AutoSeq1 (wpAny_loadPart')
open PySem.MeetsSeq PySem.MeetsSeq2 PySem.MeetsSeq3
end
section
variable {prog : Program} {w : World} {A : Around} {E : Value -> Shared -> Prop} {s : Shared}
def sIx (n d : Nat) : Option Int -> Nat
 | none => d
 | some v => if v < 0 then (v + (n : Int)).toNat else min v.toNat n
theorem pE (n d : Nat) : sIx n d none = d := rfl
theorem qW (n d k : Nat) : sIx n d (some (k : Int)) = min k n := by
 show (if (k : Int) < 0 then ((k : Int) + (n : Int)).toNat else min (k : Int).toNat n) = min k n
 rw [if_neg (by omega), Int.toNat_natCast]
end
end HT
namespace L2
open PySem PySem.Spec PyProof.Rows
abbrev TO := St -> Hp -> (Option Int -> Hp -> Prop) -> Prop
section
variable {X : Cx} {e : Expr} {te : TE} {lo hi : Option Expr} {tl th : TO} {pos p2 : Pos}
def SlR (X : Cx) (r : V -> Option Int -> Option Int -> Hp -> VK -> Prop) : Prop :=
 ∀ (pins : List (Addr × Obj)) (s : Shared) (σ : St) (H : Hp) (x : V) (v vl vu : Value) (lo hi : Option Int) (sl : Addr) (Q : VK), Inv X pins σ H s -> RelV x v -> s.heap.IsSliceOf sl vl vu .none -> IsPart vl lo -> IsPart vu hi -> r x lo hi H Q →
  ∃ T id, typeLookup (.type T) "__getitem__" = pure (some (.builtin id)) /\ s.TypeIs v T /\ wpAny (model X.prog X.w) X.A (getItem v (.ref sl)) (EP X pins σ Q) X.xe s
theorem SlR.or {r r' : V -> Option Int -> Option Int -> Hp -> VK -> Prop} (h : SlR X r) (h' : SlR X r') : SlR X (fun x lo hi H Q => r x lo hi H Q ∨ r' x lo hi H Q) := by
 intro pins s σ H x v vl vu lo hi sl Q I rx hs pl pu q
 rcases q with q | q
 ·exact h pins s σ H x v vl vu lo hi sl Q I rx hs pl pu q
 ·exact h' pins s σ H x v vl vu lo hi sl Q I rx hs pl pu q
def gM (xs : List V) (lo hi : Option Int) : List V := (xs.drop (HT.sIx xs.length 0 lo)).take (HT.sIx xs.length xs.length hi - HT.sIx xs.length 0 lo)
theorem jY (xs : List V) (lo hi : Option Int) : (gM xs lo hi).length <= xs.length := by
 unfold gM
 rw [zAh, zA7]
 omega
end
end L2
namespace L2
open PySem PySem.Spec PyProof.Rows
def ixN (n : Nat) (i : Int) : Option Nat := if 0 <= i then (if i < n then some i.toNat else none) else if -(n : Int) <= i then some (i + n).toNat else none
def atI {α : Type} (xs : List α) (i : Int) : Option α := (ixN xs.length i).bind fun j => xs[j]?
theorem kN {n : Nat} {i : Int} {j : Nat} (h : ixN n i = some j) : seqIndex? i n = some j /\ j < n /\ -(n : Int) <= i /\ i < n := by
 unfold ixN at h
 by_cases h0 : 0 <= i
 ·rw [if_pos h0] at h
  by_cases h1 : i < n
  ·rw [if_pos h1] at h
   have e : i.toNat = j := zAR h
   exact ⟨by rw [seqIndex_of h0 h1, e], by omega, by omega, h1⟩
  ·rw [if_neg h1] at h; cases h
 ·rw [if_neg h0] at h
  by_cases h1 : -(n : Int) <= i
  ·rw [if_pos h1] at h
   have e : (i + n).toNat = j := zAR h
   exact ⟨by rw [seqIndex_neg (by omega) h1, e], by omega, h1, by omega⟩
  ·rw [if_neg h1] at h; cases h
theorem kj {α : Type} {xs : List α} {i : Int} {v : α} (h : atI xs i = some v) : ∃ j, seqIndex? i xs.length = some j /\ xs[j]? = some v /\ j < xs.length /\ -(xs.length : Int) <= i /\ i < xs.length := by
 unfold atI at h
 cases e : ixN xs.length i with
 | none => rw [e] at h; cases h
 | some j =>
  rw [e] at h
  obtain ⟨h1, h2, h3, h4⟩ := kN e
  exact ⟨j, h1, h, h2, h3, h4⟩
theorem cf {α : Type} {xs : List α} {j : Nat} {v : α} (h : xs[j]? = some v) : atI xs (j : Int) = some v := by
 have hj : j < xs.length := (zAD.mp h).1
 have e : ixN xs.length (j : Int) = some j := by
  unfold ixN
  rw [if_pos (by omega), if_pos (by omega)]; simp
 unfold atI; rw [e]; exact h
def qp (b : Expr) : Prop := ∀ o i, subscripted b false o i = operate [o, i] (getItem o i)
def IxR (X : Cx) (r : R2) : Prop :=
 ∀ (value slice : Expr) (pins : List (Addr × Obj)) (s : Shared) (σ : St) (H : Hp) (x y : V) (v u : Value) (Q : VK), Inv X pins σ H s -> RelV x v -> RelV y u -> r x y H Q →
  subscripted slice false v u = operate [v, u] (getItem v u) -> wpAny (model X.prog X.w) X.A (subscriptTail value slice v u) (EP X pins σ Q) X.xe s
def MtR (X : Cx) (id : String) (r : V -> List V -> Hp -> VK -> Prop) : Prop :=
 ∀ (pins : List (Addr × Obj)) (s : Shared) (σ : St) (H : Hp) (x : V) (xs : List V) (v : Value) (us : List Value) (Q : VK), Inv X pins σ H s -> RelV x v -> Vals xs us -> r x xs H Q →
  wpAny (model X.prog X.w) X.A (call (.builtin id) (v :: us)) (EP X pins σ Q) X.xe s
section
variable {X : Cx} {a b : Expr} {ta tb : TE} {pos : Pos}
theorem IxR.or {r r' : R2} (h : IxR X r) (h' : IxR X r') : IxR X (fun x y H Q => r x y H Q ∨ r' x y H Q) := by
 intro value slice pins s σ H x y v u Q I rx ry q hs
 rcases q with q | q
 ·exact h value slice pins s σ H x y v u Q I rx ry q hs
 ·exact h' value slice pins s σ H x y v u Q I rx ry q hs
theorem MtR.or {id : String} {r r' : V -> List V -> Hp -> VK -> Prop} (h : MtR X id r) (h' : MtR X id r') : MtR X id (fun x xs H Q => r x xs H Q ∨ r' x xs H Q) := by
 intro pins s σ H x xs v us Q I rx rs q
 rcases q with q | q
 ·exact h pins s σ H x xs v us Q I rx rs q
 ·exact h' pins s σ H x xs v us Q I rx rs q
def ud (K : PySem.W.Frag) : R2 := fun x y H Q => ∃ p xs i v, x = .ref p /\ y = .int i /\ SqL K H p xs /\ atI xs i = some v /\ Q v H
def ue (K : PySem.W.Frag) : R2 := fun x y H Q => ∃ p xs i v, x = .ref p /\ y = .int i /\ SqT K H p xs /\ atI xs i = some v /\ Q v H
theorem qL : IxR X (ud X.K) := by
 intro value slice pins s σ H x y v u Q I rx ry h hs
 obtain ⟨p, xs, i, z, rfl, rfl, hq, he, q⟩ := h
 cases rx
 obtain ⟨t, rfl⟩ := ry
 obtain ⟨its, r, pl, hz⟩ := I.list hq
 obtain ⟨j, h1, h2, h3, h4, h5⟩ := kj he
 obtain ⟨w, ew, rw'⟩ := r.get h2
 have hl := r.length
 have hn := gF
 have fin : EP X pins σ Q w s := ⟨z, H, I, rw', q⟩
 by_cases h0 : 0 <= i
 ·have hj : i.toNat = j := by
   rw [seqIndex_of h0 h5] at h1
   exact zAR h1
  exact item_listR pl.isList h0 (by omega) (by rw [hj]; simpa using ew) fin hs
 ·have hj : (i + (its.toArray.size : Int)).toNat = j := by
   rw [seqIndex_neg (by omega) h4] at h1
   rw [zAO, <- hl]
   exact zAR h1
  exact subscriptTail_builtinR (x := w) pl.isList.typeIs slot_list_getitem.lookup
   (wpAny_getItem_list_neg (Q := fun r s' => r = w /\ EP X pins σ Q r s') pl.isList (by omega) (by rw [zAO] <;> omega) (by omega) (by rw [hj]; simpa using ew) ⟨rfl, fin⟩) hs
theorem rO : IxR X (ue X.K) := by
 intro value slice pins s σ H x y v u Q I rx ry h hs
 obtain ⟨p, xs, i, z, rfl, rfl, hq, he, q⟩ := h
 cases rx
 obtain ⟨t, rfl⟩ := ry
 obtain ⟨its, r, pl, hz⟩ := I.tuple hq
 obtain ⟨j, h1, h2, h3, h4, h5⟩ := kj he
 obtain ⟨w, ew, rw'⟩ := r.get h2
 have hl := r.length
 have hn := gF
 have fin : EP X pins σ Q w s := ⟨z, H, I, rw', q⟩
 exact subscriptTail_builtinR (x := w) pl.typeIs slot_tuple_getitem.lookup
  (getItem_tuple (j := j) (Q := fun r s' => r = w /\ EP X pins σ Q r s') pl (by omega) (by omega) (by rw [zAO, <- hl]; exact h1) (by simpa using ew) ⟨rfl, fin⟩) hs
theorem l9 (its : List Value) (n j : Nat) (u : Value) : Obj.mapSeq (·.setIfInBounds j u) { cls := .type "list", data := .seq its.toArray n } = { cls := .type "list", data := .seq (its.set j u).toArray n } := by
 simp [Obj.mapSeq]
theorem Inv.lst {pins : List (Addr × Obj)} {σ : St} {H : Hp} {s : Shared} {p : Addr} {xs : List V} (I : Inv X pins σ H s) (h : H p = some (.lst xs)) :
  ∃ (its : List Value) (n : Nat), Vals xs its /\ s.heap.get? p = some { cls := .type "list", data := .seq its.toArray n } /\ xs.length <= sizeLine := by
 obtain ⟨z, its, n, r, e⟩ := I.hok p _ h
 exact ⟨its, n, r, e, z⟩
theorem Inv.lstUpd {pins : List (Addr × Obj)} {σ : St} {H : Hp} {s : Shared} {p : Addr} {xs ys : List V} {its its' : List Value} {n n' : Nat} {f : Obj -> Obj} (I : Inv X pins σ H s) (h : H p = some (.lst xs))
  (ho : s.heap.get? p = some { cls := .type "list", data := .seq its.toArray n }) (hf : f { cls := .type "list", data := .seq its.toArray n } = { cls := .type "list", data := .seq its'.toArray n' }) (r : Vals ys its') (hz : ys.length <= sizeLine) (t : Nat) :
  Inv X pins σ (upd H p (.lst ys)) { s with heap := s.heap.update p f, toks := t } := by
 have e : (s.heap.update p f).get? p = some { cls := .type "list", data := .seq its'.toArray n' } := by
  rw [Heap.get?_update_self f ho (by rw [hf] <;> rfl), hf]
 refine I.write (x := p) (e := p) (by rw [h]; trivial) (.inl rfl) (fun b u hb q => (zA5 _ _ (Ne.symm hb)).trans q) ⟨_, e⟩ ?_
 exact ⟨hz, its', n', r, e⟩
def tN : V -> V -> V -> Hp -> (Hp -> Prop) -> Prop := fun o i v H Q => ∃ p xs k j, o = .ref p /\ i = .int k /\ H p = some (.lst xs) /\ ixN xs.length k = some j /\ Q (upd H p (.lst (xs.set j v)))
theorem set_list : rj X tN := by
 intro pins s σ H o i v ov iv u Q I ro ri rv h
 obtain ⟨p, xs, k, j, rfl, rfl, hp, hj, q⟩ := h
 cases ro
 obtain ⟨t, rfl⟩ := ri
 obtain ⟨its, n, r, ho, hz⟩ := I.lst hp
 obtain ⟨h1, h2, h3, h4⟩ := kN hj
 have hl := r.length
 have hn := gF
 have I' : Inv X pins σ (upd H p (.lst (xs.set j v))) { s with heap := s.heap.update p (Obj.mapSeq (·.setIfInBounds j u)) } :=
  I.lstUpd hp ho (l9 its n j u) (r.set rv j) (by rw [zAS]; exact hz) s.toks
 by_cases h0 : 0 <= k
 ·have hk : k.toNat = j := by
   rw [seqIndex_of h0 h4] at h1
   exact zAR h1
  exact PySem.W.ki_setAt ho h0 (by omega) (by rw [zAO, <- hl]; exact h4) (by rw [hk]; exact ⟨_, I', q⟩)
 ·have hk : (k + (its.toArray.size : Int)).toNat = j := by
   rw [seqIndex_neg (by omega) h3] at h1
   rw [zAO, <- hl]
   exact zAR h1
  exact PySem.W.ki_setBack ho (by omega) (by rw [zAO, <- hl]; exact h3) (by omega) (by rw [hk]; exact ⟨_, I', q⟩)
theorem jR (lo hi : Option Int) (n : Nat) : (sliceBounds lo hi none n).1 = ((HT.sIx n 0 lo : Nat) : Int) /\ (sliceBounds lo hi none n).2.1 = ((HT.sIx n n hi : Nat) : Int) /\ (sliceBounds lo hi none n).2.2 = 1 := by
 refine ⟨?_, ?_, rfl⟩
 ·cases lo with
  | none => simp [sliceBounds, HT.sIx]
  | some i =>
   simp only [sliceBounds, HT.sIx, Option.getD_none, show (1 : Int) > 0 by decide, if_true]
   by_cases h : i < 0
   ·simp only [h, if_true] <;> omega
   ·simp only [h, if_false] <;> omega
 ·cases hi with
  | none => simp [sliceBounds, HT.sIx]
  | some i =>
   simp only [sliceBounds, HT.sIx, Option.getD_none, show (1 : Int) > 0 by decide, if_true]
   by_cases h : i < 0
   ·simp only [h, if_true] <;> omega
   ·simp only [h, if_false] <;> omega
theorem iN (its : List Value) (lo hi : Option Int) : slicePick its.toArray lo hi none = ((its.drop (HT.sIx its.length 0 lo)).take (HT.sIx its.length its.length hi - HT.sIx its.length 0 lo)).toArray := by
 obtain ⟨h1, h2, h3⟩ := jR lo hi its.toArray.size
 unfold slicePick
 rw [h1, h2, h3]
 simp only [sliceRange_one, pick_run, zAO] <;> rfl
theorem i0 : c7 X (.builtin "len") (fun xs H Q => ∃ p ys, xs = [.ref p] /\ (SqL X.K H p ys ∨ SqT X.K H p ys) /\ Q (.int ys.length) H) := by
 intro pins s σ H xs us Q I r h
 obtain ⟨p, ys, rfl, hq, q⟩ := h
 obtain ⟨u, rfl, rx⟩ := vals1 r
 cases rx
 have hn := gF
 rcases hq with hq | hq
 ·obtain ⟨its, r', pl, hz⟩ := I.list hq
  have hlen := r'.length
  exact Calls.call_len_list pl.isList (by simp only [zAO] <;> omega) ⟨.int ys.length, H, I.tok _, ⟨s.toks + 1, by rw [zAO, hlen]⟩, q⟩
 ·obtain ⟨its, r', pl, hz⟩ := I.tuple hq
  have hlen := r'.length
  exact len_tuple pl (by simp only [zAO] <;> omega) ⟨.int ys.length, H, I.tok _, ⟨s.toks + 1, by rw [zAO, hlen]⟩, q⟩
theorem c7.or {f : Value} {r r' : List V -> Hp -> VK -> Prop} (h : c7 X f r) (h' : c7 X f r') : c7 X f (fun xs H Q => r xs H Q ∨ r' xs H Q) := by
 intro pins s σ H xs us Q I rs q
 rcases q with q | q
 ·exact h pins s σ H xs us Q I rs q
 ·exact h' pins s σ H xs us Q I rs q
theorem i4 : c7 X (.type "list") (fun xs H Q => ∃ p ys, xs = [.ref p] /\ (SqL X.K H p ys ∨ SqT X.K H p ys) /\ ∀ l, H l = none -> Q (.ref l) (upd H l (.lst ys))) := by
 intro pins s σ H xs us Q I r h
 obtain ⟨p, ys, rfl, hq, q⟩ := h
 obtain ⟨u, rfl, rx⟩ := vals1 r
 cases rx
 have fin : ∀ (its : List Value), Vals ys its -> ys.length <= sizeLine -> ∀ (h' : Heap) (c' : Nat), (∀ b o', s.heap.get? b = some o' -> h'.get? b = some o') →
   h'.get? s.heap.objs.size = some { cls := .type "list", dict := none, data := .seq its.toArray c', slots := #[] } -> EP X pins σ Q (.ref s.heap.objs.size) { s with heap := h' } := fun its r' hz h' c' kp e =>
  ⟨.ref s.heap.objs.size, _, I.laid (t' := s.toks) kp (zAH _) (show aN X.prog X.w _ h' _ (.lst ys) from ⟨hz, its, c', r', e⟩), rfl, q _ (I.hok.fresh (zAH _))⟩
 rcases hq with hq | hq
 ·obtain ⟨its, r', pl, hz⟩ := I.list hq
  have hlen := r'.length
  obtain ⟨o, ho, hc, n, hd⟩ := pl.isList
  exact call_list_seq p (.inl rfl) ho hc hd (fun h' c' kp e => fin its r' hz h' c' kp e) (by simp only [zAO] <;> omega)
 ·obtain ⟨its, r', pl, hz⟩ := I.tuple hq
  have hlen := r'.length
  obtain ⟨o, ho, hc, n, hd⟩ := pl
  exact call_list_seq p (.inr rfl) ho hc hd (fun h' c' kp e => fin its r' hz h' c' kp e) (by simp only [zAO] <;> omega)
theorem iL : c7 X (.type "tuple") (fun xs H Q => ∃ p ys, xs = [.ref p] /\ ((SqL X.K H p ys /\ ∀ l, H l = none -> Q (.ref l) (upd H l (.tup ys))) ∨ (SqT X.K H p ys /\ Q (.ref p) H))) := by
 intro pins s σ H xs us Q I r h
 obtain ⟨p, ys, rfl, h⟩ := h
 obtain ⟨u, rfl, rx⟩ := vals1 r
 cases rx
 rcases h with ⟨hq, q⟩ | ⟨hq, q⟩
 ·obtain ⟨its, r', pl, hz⟩ := I.list hq
  have hlen := r'.length
  refine call_tuple_list pl.isList (fun h' kp => ?_) (by simp only [zAO] <;> omega)
  have I1 : Inv X pins σ H { s with heap := h' } := I.kept (t' := s.toks) kp
  have I2 : Inv X pins σ (upd H h'.objs.size (.tup ys)) { s with heap := h'.push { cls := .type "tuple", data := .seq its.toArray } } :=
   I1.laid (t' := s.toks) (fun b o e => zAB _ e) (zAH _) (show aN X.prog X.w _ _ _ (.tup ys) from ⟨hz, its, r', IsTup.new _ _⟩)
  exact ⟨.ref h'.objs.size, _, I2, rfl, q _ (I1.hok.fresh (zAH _))⟩
 ·obtain ⟨its, r', pl, hz⟩ := I.tuple hq
  exact call_tuple_same pl ⟨.ref p, H, I, rfl, q⟩
def tyV (K : PySem.W.Frag) (T : String) (x : V) (H : Hp) : Prop := match x with
 | .str _ => T = "str"
 | .int _ => T = "int"
 | .ref p => (T = "list" /\ ∃ xs, SqL K H p xs) ∨ (T = "tuple" /\ ∃ o, K.lookup p = some o /\ o.cls = .type "tuple" /\ o.dict = none) ∨
   (T = "dict" /\ ((∃ kvs, H p = some (.dK kvs)) ∨ ∃ kvs, H p = some (.dT kvs))) ∨ (T = "set" /\ ∃ S n, H p = some (.set S n))
 | _ => False
theorem sN {pins : List (Addr × Obj)} {σ : St} {H : Hp} {s : Shared} {T : String} {x : V} {v : Value} (I : Inv X pins σ H s) (r : RelV x v) (ty : tyV X.K T x H) :
  s.TypeIs v T /\ ∀ a, v = .ref a -> ∃ ob, s.heap.get? a = some ob /\ ob.dict = none := by
 cases x with
 | str z =>
  obtain ⟨t, rfl⟩ := r
  cases (show T = "str" from ty)
  exact ⟨typeIs_str s z t, fun _ e => nomatch e⟩
 | int i =>
  obtain ⟨t, rfl⟩ := r
  cases (show T = "int" from ty)
  exact ⟨typeIs_int s i t, fun _ e => nomatch e⟩
 | ref p =>
  cases r
  rcases ty with ⟨rfl, xs, hq⟩ | ⟨rfl, o, hk, hc, hd⟩ | ⟨rfl, hk⟩ | ⟨rfl, S, n, hk⟩
  ·obtain ⟨its, _, pl, _⟩ := I.list hq
   refine ⟨pl.isList.typeIs, fun a e => ?_⟩
   cases e
   obtain ⟨o, n, e, c, hd, _⟩ := pl
   exact ⟨o, e, hd⟩
  ·refine ⟨⟨o, I.kIn p o hk, hc⟩, fun a e => ?_⟩
   cases e
   exact ⟨o, I.kIn _ o hk, hd⟩
  ·have z : ∃ o, s.heap.get? p = some o /\ o.ExactDict := by
    rcases hk with ⟨kvs, hk⟩ | ⟨kvs, hk⟩
    ·obtain ⟨_, _, _, _, o, _, _, e, ex, _⟩ := I.hok p _ hk
     exact ⟨o, e, ex⟩
    ·obtain ⟨_, _, _, _, o, _, _, e, ex, _⟩ := I.hok p _ hk
     exact ⟨o, e, ex⟩
   obtain ⟨o, e, ex⟩ := z
   refine ⟨⟨o, e, ex.1⟩, fun a e2 => ?_⟩
   cases e2
   exact ⟨o, e, ex.2.1⟩
  ·obtain ⟨o, _, _, _, e, ex, _⟩ := I.hok p _ hk
   refine ⟨⟨o, e, ex.1⟩, fun a e2 => ?_⟩
   cases e2
   exact ⟨o, e, ex.2.1⟩
 | _ => exact False.elim ty
def tBM (K : PySem.W.Frag) (T : String) (r : V -> List V -> Hp -> VK -> Prop) (to : TE) (t : TA) : TE := fun σ H Q => to σ H fun x H1 => tyV K T x H1 /\ t σ H1 fun xs H2 => r x xs H2 Q
variable {o e : Expr} {es : List Expr} {to : TE} {t : TA} {name : Str} {apos cpos : Pos} {T id : String} {r : V -> List V -> Hp -> VK -> Prop}
theorem qk (pa : PlainAttrs T) (slot : Slot T name id) (hty : typeOf (.builtin id) = pure (.type "method_descriptor")) (hm : MtR X id r) (ho : PE X o to) (ha : PA X (e :: es) t)
  (hbase : attributeBase o name X.env (eval o X.env) = eval o X.env := by rfl)
  (hfew : ((backTo cpos (starEach (e :: es) X.env)).all (fun x => !x.1) && (backToKw cpos (keywordEach [] X.env)).all (fun x => x.1.isSome)
   && decide ((e :: es).length + ([] : List Keyword).length + (if ([] : List Keyword).isEmpty then 0 else 1) < 30)) = true := by rfl)
  (hline : (apos.endLine == cpos.line) = true := by rfl) (hs : starEach (e :: es) X.env = (false, eval e X.env) :: starEach es X.env := by rfl) (hplain : (backTo cpos (starEach es X.env)).any (·.1) = false := by rfl) :
  PE X (.Call (.Attribute o name apos) (e :: es) [] cpos) (tBM X.K T r to t) := by
 intro pins s σ H Q I h
 refine wpAny_Call_method_late hbase hfew hline rfl (thn (ho pins s σ H _ I h) fun v s1 ⟨x, H1, I1, r1, ty, q1⟩ => ?_)
 obtain ⟨h1, h2⟩ := sN I1 r1 ty
 refine ⟨T, id, pa, slot, hty, h1, h2, ?_⟩
 have hA := ha cpos pins s1 σ H1 _ I1 q1
 rw [hs] at hA ⊢
 refine Calls.callWith_builtin (by show (false || (backTo cpos (starEach es X.env)).any (·.1)) = false; rw [hplain] <;> rfl) (Calls.evalArgs_plain ?_)
 exact thn hA fun us s2 ⟨vs, H2, I2, r2, q2⟩ => hm pins s2 σ H2 x vs v us Q I2 r1 r2 q2
end
end L2
namespace L2
open PySem PySem.Spec PyProof.Rows
def MtM (X : Cx) (id : String) (r : V -> List V -> Hp -> VK -> Prop) : Prop :=
 ∀ (pins : List (Addr × Obj)) (s : Shared) (σ : St) (H : Hp) (x : V) (xs : List V) (v : Value) (us : List Value) (Q : VK), Inv X pins σ H s -> RelV x v -> Vals xs us -> r x xs H Q →
  wpAny (model X.prog X.w) X.A (call (.builtin id) (v :: us)) (EP X pins σ Q) X.xe s
theorem Vals.one : ∀ {x : V} {us : List Value}, Vals [x] us -> ∃ u, us = [u] /\ RelV x u
 | _, _, .cons r .nil => ⟨_, rfl, r⟩
theorem Vals.two : ∀ {x y : V} {us : List Value}, Vals [x, y] us -> ∃ u v, us = [u, v] /\ RelV x u /\ RelV y v
 | _, _, _, .cons r (.cons q .nil) => ⟨_, _, rfl, r, q⟩
theorem Vals.zero : ∀ {us : List Value}, Vals [] us -> us = []
 | _, .nil => rfl
theorem Vals.reverse {xs : List V} {us : List Value} (h : Vals xs us) : Vals xs.reverse us.reverse := by
 induction h with
 | nil => exact .nil
 | cons r t ih => rw [List.reverse_cons, List.reverse_cons]; exact Vals.append ih (.cons r .nil)
section
variable {X : Cx} {pins : List (Addr × Obj)} {σ : St} {H : Hp} {s : Shared} {l b : Addr} {xs ys zs : List V}
theorem Inv.lset {its its' : List Value} {n : Nat} {f : Array Value -> Array Value} {t' : Nat} (I : Inv X pins σ H s) (hH : H l = some (.lst xs))
  (e : s.heap.get? l = some { cls := .type "list", data := .seq its.toArray n }) (hf : f its.toArray = its'.toArray) (hv : Vals ys its') (hz : ys.length <= sizeLine) :
  Inv X pins σ (upd H l (.lst ys)) { s with heap := s.heap.update l (Obj.mapSeq f), toks := t' } := by
 have q := PySem.IsL.update e f
 rw [hf] at q
 refine I.write (x := l) (e := l) (by rw [hH]; exact trivial) (.inl rfl) (fun b' u hb hu => (zA5 s.heap (Obj.mapSeq f) (Ne.symm hb)).trans hu) ⟨_, q⟩ ?_
 exact ⟨hz, its', _, hv, q⟩
theorem Inv.fresh (I : Inv X pins σ H s) : H s.heap.objs.size = none := I.hok.fresh (zAH _)
theorem Inv.lstM (I : Inv X pins σ H s) (hH : H l = some (.lst xs)) : xs.length <= sizeLine /\ ∃ (its : List Value) (n : Nat), Vals xs its /\ xs.length = its.length /\ s.heap.get? l = some { cls := .type "list", data := .seq its.toArray n } := by
 obtain ⟨z, its, n, r, e⟩ := I.hok l _ hH
 exact ⟨z, its, n, r, r.length, e⟩
end
section
variable {X : Cx}
def qU : V -> List V -> Hp -> VK -> Prop := fun x vs H Q => ∃ l xs y, x = .ref l /\ vs = [y] /\ H l = some (.lst xs) /\ xs.length < sizeLine /\ Q .non (upd H l (.lst (xs ++ [y])))
theorem dJ : MtM X "list.append" qU := by
 intro pins s σ H x vs v us Q I rx rv h
 obtain ⟨l, xs, y, rfl, rfl, hH, hz, q⟩ := h
 cases rx
 obtain ⟨u, rfl, ru⟩ := rv.one
 obtain ⟨z, its, n, r, hl, e⟩ := I.lstM hH
 refine call_meets F.slot_list_append ⟨_, e, rfl⟩ F.entry_list_append (F.args_list_append_2 _ _) (PySem.list_append l its.toArray n u (by rw [zAO]; omega)) ⟨e, ?_⟩
 refine ⟨.non, _, I.lset (its' := its ++ [u]) hH e (by simp) (r.append (.cons ru .nil)) ?_, rfl, q⟩
 rw [zAQ, zA6]
 omega
end
section
variable {prog : Program} {w : World} {A : Around} {E : Value -> Shared -> Prop} {s : Shared}
set_option maxRecDepth 100000 in
end
section
variable {X : Cx}
end
end L2
namespace Att
open PySem PySem.W PySem.Calls PyProof.Rows
theorem gC {P : Params} {h : Heap} : ∀ (ns : List Int) (vs : List Value), WellAll P h vs (ns.map WData.int) -> IntsAre vs ns := by
 intro ns
 induction ns with
 | nil =>
  intro vs w
  rw [zAw] at w
  cases w
  exact .nil
 | cons n ns ih =>
  intro vs w
  rw [zAK] at w
  cases w with
  | cons a b =>
   cases a
   exact .cons _ _ (ih _ b)
theorem nY {l : OpenLaw} {n : Nat} (hn : l.most = some n) {P : Params} {h : Heap} {args : List WData} {vals : List Value}
  (hpre : l.row.toRowW.claim.pre args = true) (hwl : WellAll P h vals args) :
  ∃ a vs ns, vals = [Value.ref a] /\ args = [WData.list (ns.map WData.int)] /\ h.get? a = some { cls := .type "list", data := .seq vs.toArray } /\ IntsAre vs ns /\ ns.length <= n := by
 have hsh : WShape.hasAll [] args [.list .int] = true := (pre_splitW hpre).1
 have hc : l.pre.holds [] { args := args } = true := (pre_splitW hpre).2
 obtain ⟨d, r, rfl, h1, h2⟩ := hasAllW_cons hsh
 obtain rfl := hasAllW_nil h2
 obtain ⟨xs, rfl, h3⟩ := hasW_list h1
 obtain ⟨ns, rfl⟩ := items_int h3
 have hlen : ns.length <= n := by
  unfold OpenLaw.pre at hc
  have h4 : (WTm.not (.lt (.lit (.int (n : Int))) (.len (.arg 0)))).holds [] { args := [.list (ns.map .int)] } = true := by
   have h4 := (holds_andW hc).1
   rw [hn] at h4
   exact h4
  have h5 := condW_of h4 (w_not (w_lt w_lit (w_len_list (w_arg rfl))))
  rw [zAF] at h5
  refine Nat.le_of_not_lt fun q => ?_
  have q' : (n : Int) < ((ns.length : Nat) : Int) := by omega
  first
   | (rw [decide_eq_true q'] at h5; exact absurd h5 (by decide))
   | (simp at h5; omega)
 cases hwl with
 | cons w1 w2 =>
  cases w2
  cases w1 with
  | list ho hall => exact ⟨_, _, ns, rfl, rfl, ho, gC ns _ hall, hlen⟩
theorem nR (l : OpenLaw) (args : List WData) : l.row.toRowW.claim.post args (.bool true) args = true :=
 postW_of (r := l.row.toRowW) (X := (true == true))
  (show WShape.has [] (.bool true) .bool = true by first | rfl | decide | simp [WShape.has, WShape.arms, WShape.armsAll])
  (show (WTm.eq .res (.lit (.bool true))).value [] { args := args, res := some (.bool true), after := args } = some (.bool (true == true)) from w_eq_bool (w_res rfl) w_lit) rfl
theorem jW {l : OpenLaw} {n : Nat} {q : Program} {loose : List Str} {XP : (Str -> Option Value) -> Heap -> Prop} {YP : World -> Heap -> Prop} {d : DefRec}
  (hn : l.most = some n) (hdf : d.params.defaults = [])
  (call : ∀ (w : World) (s₀ s₁ : Shared) (mg mb : Str -> Option Value) (fa : Addr) (o : Obj) (pm cd doc : Value) (a : Addr) (vs : List Value) (ns : List Int),
   Ground q loose [] XP w s₀ mg mb s₁.heap -> YP w s₁.heap →
   s₁.heap.get? fa = some o -> o.data = .func (docDef d.name d.params d.body d.scope pm cd doc) -> s₁.heap.CodeRec cd d.name -> mg d.name = some (.ref fa) →
   s₁.heap.get? a = some { cls := .type "list", data := .seq vs.toArray } -> IntsAre vs ns -> ns.length <= n -> s₁.gens = #[] →
   codeAny (model l.prog w) callerA (.call (.ref fa) ⟨[.ref a], []⟩) (fun r s' => r = .ok (.ret (.bool true)) /\ OldK s₁.heap s'.heap /\ s'.os = s₁.os /\ AllBare s'.gens) s₁) :
  WalkO q loose XP YP l.row.toRowW d [] (fun f vs => PySem.call f vs) := by
 intro w s₀ s₁ mg mb G Y fa o pm cd doc dV kV ho hd hcd hD hmg hg args vals as hpre hlay hrd hwl hlo
 obtain rfl : dV = .none := Dflts.none hD hdf
 obtain rfl : kV = .none := Dflts.noKw hD
 obtain ⟨a, vs, ns, rfl, rfl, hobj, hints, hlen⟩ := nY hn hpre hwl
 refine enter_call (codeAny_mono (call w s₀ s₁ mg mb fa o pm cd doc a vs ns G Y ho (fd_plain hd) hcd hmg hobj hints hlen hg) fun r s' hq => ?_)
 obtain ⟨rfl, h2, h3, h4⟩ := hq
 exact ⟨.inl ⟨.bool true, .bool true, [], rfl, fun _ => rfl, .bool true, nR l _, fun _ => ⟨List.Pairwise.nil, fun _ hm => (nomatch hm)⟩⟩, h2, h3, h4⟩
section
variable {prog : Program} {w : World} {A : Around} {E : Value -> Shared -> Prop} {s : Shared} {K : Frag}
def ledger (h : Heap) (L d : Addr) : List (Addr × Obj) := (List.range h.objs.size).filterMap fun a => if a = L ∨ a = d then none else (h.get? a).map fun o => (a, o)
end
end Att
namespace L2
open PySem PySem.Spec PyProof.Rows
theorem dR : ∀ {vs : List Value} {ns : List Int}, IntsAre vs ns -> Vals (ns.map V.int) vs
 | _, _, .nil => .nil
 | _, _, .cons n t h => .cons ⟨t, rfl⟩ (dR h)
def ou (H : Hp) : Prop := ∀ b, H b = none ∨ ∃ o xs, H b = some (.frz o (.lst xs))
theorem o7 {P : Program} {w : World} {K : PySem.W.Frag} {mg mb : Str -> Option Value} {CX : CXT} {k : Nat} {fa a : Addr} {fd : FuncData} {x : Str} {sp : Sp} {s₁ : Shared} {vs : List Value} {ns : List Int}
  (KX : K.In s₁.heap) (hns : s₁.heap.Ns mainGlobals mg) (hb : s₁.heap.Ns builtinsNs mb) (hbb : ∀ x : Str, x ≠ "__name__" -> mb x = bootBuiltins x) (hlim : s₁.heap.NoLimit) (hg : s₁.gens = #[])
  (ha : s₁.heap.get? a = some { cls := .type "list", data := .seq vs.toArray }) (hi : IntsAre vs ns) (hl : ns.length <= sizeLine) (hr : aH k callerA)
  (F : ∀ base : Heap, K.In base -> base.Ns mainGlobals mg -> aE P w K mg base CX k fa fd [x] sp) (hbind : ∀ (s : Shared) (u : Value), BindsTo s fd ⟨[u], []⟩ [(x, u)])
  (hsp : ∀ H : Hp, ou H -> SqL K H a (ns.map V.int) -> sp [.ref a] H (fun v _ => v = .bl true) fun _ _ _ => False)
  (hCX : ∀ H e s', CX [] H s₁ (fun _ _ _ => False) e s' -> False) :
  codeAny (model P w) callerA (.call (.ref fa) ⟨[.ref a], []⟩) (fun r s' => r = .ok (.ret (.bool true)) /\ OldK s₁.heap s'.heap /\ s'.os = s₁.os /\ AllBare s'.gens) s₁ := by
 have rv := dR hi
 have lenV := hi.length
 have core : ∀ H : Hp, ou H -> SqL K H a (ns.map V.int) -> HOk P w H s₁.heap -> (∀ b, H b ≠ none -> b = a) -> (H a ≠ none -> K.lookup a = none) →
   codeAny (model P w) callerA (.call (.ref fa) ⟨[.ref a], []⟩) (fun r s' => r = .ok (.ret (.bool true)) /\ OldK s₁.heap s'.heap /\ s'.os = s₁.os /\ AllBare s'.gens) s₁ := by
  intro H hO hS hok hA hK
  have base_of : ∀ {b : Addr} {o : Obj}, s₁.heap.get? b = some o -> H b = none -> (eS s₁.heap H).get? b = some o := fun e n => o5 e n
  have noA : ∀ {b : Addr} {o : Obj} {es : Array DictEntry} {ep : Nat}, s₁.heap.get? b = some o -> o.data = .dict es ep -> H b = none := fun {b o es ep} e d => by
   cases q : H b with
   | none => rfl
   | some u =>
    have e' : b = a := hA b (by rw [q]; simp)
    subst e'
    rw [ha] at e; cases e
    have d' : Data.seq vs.toArray _ = Data.dict es ep := d
    cases d'
  have nsK : ∀ {b : Addr} {m : Str -> Option Value}, s₁.heap.Ns b m -> (eS s₁.heap H).Ns b m := fun {b m} ⟨o, es, ep, e, d, r⟩ => ⟨o, es, ep, base_of e (noA e d), d, r⟩
  have hKb : K.In (eS s₁.heap H) := fun b o e => base_of (KX b o e) (by
   cases q : H b with
   | none => rfl
   | some u =>
    have e' : b = a := hA b (by rw [q]; simp)
    subst e'
    rw [hK (by rw [q]; simp)] at e; cases e)
  have hM : Mod K mg (eS s₁.heap H) := ⟨hKb, nsK hns, ⟨mb, nsK hb, hbb⟩, let ⟨mc, h1, h2⟩ := hlim; ⟨mc, nsK h1, h2⟩⟩
  have e0 : dU P w K mg (eS s₁.heap H) callerA [] s₁ H := ⟨rfl, hM, fun b o e => qN e, Nat.le_of_eq (ng _ _), trivial, fun b hb => absurd (show b ∈ ([] : List Addr) from hb) (by simp), hok, .of_eq hg⟩
  refine codeAny_mono ((F _ hKb (nsK hns)).run callerA [] s₁ H ⟨[.ref a], []⟩ [.ref a] [.ref a] _ _ hr e0 (hbind s₁ (.ref a)) (.cons rfl .nil) (hsp H hO hS)) fun r s' h => ?_
  cases r with
  | error e => exact (hCX H e s' h).elim
  | ok fl =>
   cases fl with
   | next => exact False.elim h
   | brk => exact False.elim h
   | cont => exact False.elim h
   | ret u =>
    obtain ⟨v, H', os, bare, un, hok', r', q⟩ := h
    have q' : v = .bl true := q
    subst q'
    obtain rfl : u = Value.bool true := r'
    refine ⟨rfl, OldK.of_keep fun b o e => ?_, os, bare⟩
    cases q : H b with
    | none => exact un.keep b o e q (by intro z; exact absurd (show b ∈ ([] : List Addr) from z) (by simp)) (by simp)
    | some u =>
     rcases hO b with z | ⟨ob, xs, z⟩
     ·rw [q] at z; cases z
     ·have z2 := un.frzs b ob _ z
      obtain ⟨e1, _⟩ := hok b _ z
      obtain ⟨e2, _⟩ := hok' b _ z2
      rw [e] at e1; cases e1
      exact e2
 cases hk : K.lookup a with
 | some o =>
  have e := KX a o hk
  rw [ha] at e
  cases e
  refine core (fun _ => none) (fun _ => .inl rfl) (.inr ⟨_, vs.toArray, _, hk, rfl, rfl, rfl, by rw [zAO, lenV]; exact hl, by simpa using rv⟩) (fun b u z => by have z' : (none : Option HO) = some u := z; cases z') (fun b z => absurd rfl z) fun z => absurd rfl z
 | none =>
  refine core (fun b => if b = a then some (.frz { cls := .type "list", data := .seq vs.toArray } (.lst (ns.map V.int))) else none) (fun b => ?_) (.inl (.inr ⟨{ cls := .type "list", data := .seq vs.toArray }, if_pos rfl⟩)) (fun b u z => ?_) (fun b z => ?_) fun _ => hk
  ·by_cases hb : b = a
   ·exact .inr ⟨_, _, if_pos hb⟩
   ·exact .inl (if_neg hb)
  ·by_cases hb : b = a
   ·have z' := (if_pos hb).symm.trans z
    cases z'
    subst hb
    exact ⟨ha, by rw [zAF]; exact hl, vs, _, rv, ha⟩
   ·have z' := (if_neg hb).symm.trans z
    cases z'
  ·by_cases hb : b = a
   ·exact hb
   ·exact absurd (if_neg hb) z
end L2
namespace L2
open PySem PySem.Spec PyProof.Rows
theorem qZ {l : PySem.W.OpenLaw} {n k : Nat} {q : Program} {loose : List Str} {XP : (Str -> Option Value) -> Heap -> Prop} {YP : World -> Heap -> Prop} {d : DefRec} {K : Params -> PySem.W.Frag} {CX : World -> CXT} {sp : World -> Sp} {x : Str}
  (hn : l.most = some n) (hn2 : n <= sizeLine) (hdf : d.params.defaults = []) (hr : aH k callerA)
  (hY : ∀ (w : World) (h : Heap), YP w h -> (K w.params).In h)
  (F : ∀ (w : World) (mg : Str -> Option Value) (fa : Addr) (h : Heap), (K w.params).In h -> h.Ns mainGlobals mg -> mg d.name = some (.ref fa) →
   ∃ fd : FuncData, (∀ (s : Shared) (u : Value), BindsTo s fd ⟨[u], []⟩ [(x, u)]) ∧
    ∀ base : Heap, (K w.params).In base -> base.Ns mainGlobals mg -> aE l.prog w (K w.params) mg base (CX w) k fa fd [x] (sp w))
  (hsp : ∀ (w : World) (H : Hp) (a : Addr) (ns : List Int), ns.length <= n -> ou H -> SqL (K w.params) H a (ns.map V.int) -> sp w [.ref a] H (fun v _ => v = .bl true) fun _ _ _ => False)
  (hCX : ∀ (w : World) (H : Hp) (s : Shared) (e : Value) (s' : Shared), CX w [] H s (fun _ _ _ => False) e s' -> False) :
  PySem.W.WalkO q loose XP YP l.row.toRowW d [] (fun f vs => PySem.call f vs) := by
 refine Att.jW hn hdf fun w s₀ s₁ mg mb fa o pm cd doc a vs ns G Y ho hd hcd hmg hobj hints hlen hg => ?_
 have KX := hY w _ Y
 obtain ⟨fd, hb, hF⟩ := F w mg fa _ KX G.T.g hmg
 exact o7 KX G.T.g G.T.b G.T.builtins G.T.nolimit hg hobj hints (zAa hlen hn2) hr hF hb (fun H hO hS => hsp w H a ns hlen hO hS) fun H e s' => hCX w H s₁ e s'
end L2
namespace L2
open PySem PySem.Spec PyProof.Rows
def aU (s : Stmt) : Arguments := match s with
 | .FunctionDef _ a _ _ _ _ _ _ _ _ => a
 | _ => { posonlyargs := [], args := [], vararg := none, kwonlyargs := [], kw_defaults := [], kwarg := none, defaults := [] }
def aJ (s : Stmt) : List Stmt := match s with
 | .FunctionDef _ _ b _ _ _ _ _ _ _ => b
 | _ => []
def ak (s : Stmt) : Scope := match s with
 | .FunctionDef _ _ _ _ _ _ sc _ _ _ => sc
 | _ => { kind := .function, names := [], isGenerator := false, isCoroutine := false }
abbrev CX0 : CXT := fun _ _ _ _ _ _ => False
abbrev E0 : XK := fun _ _ _ => False
structure Fun (K : PySem.W.Frag) (x qual : Str) (st : Stmt) (f : Addr) (fd : FuncData) : Prop where
 ex : ∃ (oc : Value) (od : Option Addr) (kV doc pm : Value) (an : Option Addr) (cdv ct : Value) (osl : Array (Option Value)),
  fd = PySem.W.fnOf x qual (aU st) (aJ st) (ak st) .none kV doc pm an cdv ct /\ K.lookup f = some ⟨oc, od, .func fd, osl⟩ /\ PySem.W.codeIn K cdv qual = true
 kp : PySem.W.keepIn K (.ref f) = true
section
variable {P : Program} {w : World} {K : PySem.W.Frag} {mg : Str -> Option Value} {base : Heap}
theorem Fun.ok {x qual : Str} {st : Stmt} {f : Addr} {fd : FuncData} {N ps : List Str} {k : Nat} {sp : Sp} (F : Fun K x qual st f fd) (S : aF N ps (ak st)) (len : ∀ vs H Q E, sp vs H Q E -> vs.length = ps.length)
  (hbody : ∀ (cdv : Value) (A : Around) (outer : List Env) (s : Shared) (H : Hp) (vs : List V) (Q : VK) (E : XK), aH k (A.deeper (envOfC qual (ak st) s.heap.objs.size f cdv)) -> sp vs H Q E →
   ∃ t, PSs (bB CX0 P w K mg base N qual (ak st) f cdv A outer s H E).nox (aJ st) t /\ t { nx := fun _ H' => Q .non H', rt := Q } (start N vs) H) : aE P w K mg base CX0 (k + 1) f fd ps sp := by
 obtain ⟨oc, od, kV, doc, pm, an, cdv, ct, osl, rfl, lk, hcd⟩ := F.ex
 refine qb lk hcd S len fun A outer s H vs Q E hr hsp => ?_
 obtain ⟨t, h, q⟩ := hbody cdv A outer s H vs Q E hr hsp
 exact ⟨t, h.nox, q⟩
theorem Fun.binds {x qual : Str} {st : Stmt} {f : Addr} {fd : FuncData} {ps : List Str} (F : Fun K x qual st f fd)
  (h : ∀ (kV doc pm : Value) (an : Option Addr) (cdv ct : Value) (us : List Value), us.length = ps.length -> bindArgs (PySem.W.fnOf x qual (aU st) (aJ st) (ak st) .none kV doc pm an cdv ct) ⟨us, []⟩ = pure (ps.zip us)) : Binds K fd ps [] := by
 obtain ⟨oc, od, kV, doc, pm, an, cdv, ct, osl, rfl, lk, hcd⟩ := F.ex
 exact .all (h kV doc pm an cdv ct)
end
section
variable {X : Cx}
theorem pv (i : Nat) {x : Str} {pos : Pos} (hN : X.N[i]? = some x := by rfl) (hv : Vis X.env.scope x := by first | exact Or.inl rfl | exact Or.inr (Or.inl rfl) | exact Or.inr (Or.inr rfl)) (hd : (x == ("__debug__" : Str)) = false := by decide)
  (hcd : (x == ("__classdict__" : Str)) = false := by decide) : PE X (.Name x pos) (sM i) := eI hN hv hd hcd
end
def af (H H' : Hp) : Prop := ∀ b o, H b = some o -> H' b = some o
theorem af.refl (H : Hp) : af H H := fun _ _ h => h
theorem af.trans {H H1 H2 : Hp} (a : af H H1) (b : af H1 H2) : af H H2 := fun c o h => b c o (a c o h)
theorem af.free {H H' : Hp} (e : af H H') {l : Addr} (h : H' l = Option.none) : H l = Option.none := by
 cases q : H l with
 | none => rfl
 | some o =>
  rw [e l o q] at h
  cases h
theorem af.seq {K : PySem.W.Frag} {H H' : Hp} {a : Addr} {xs : List V} (e : af H H') (h : SqL K H a xs) : SqL K H' a xs := by
 rcases h with (h | ⟨o, h⟩) | h
 ·exact .inl (.inl (e _ _ h))
 ·exact .inl (.inr ⟨o, e _ _ h⟩)
 ·exact .inr h
end L2
set_option maxHeartbeats 4000000
namespace L2
open PySem PySem.Spec PyProof.Rows
section
variable {κ : Type} [DecidableEq κ]
def cY (kvs : List (κ × V)) (k : κ) : Option V := (kvs.find? fun kv => decide (kv.1 = k)).map (·.2)
def putK (kvs : List (κ × V)) (k : κ) (v : V) : List (κ × V) :=
 if (kvs.any fun kv => decide (kv.1 = k)) = true then kvs.map (fun kv => if kv.1 = k then (kv.1, v) else kv) else kvs ++ [(k, v)]
def p4 (kvs : List (κ × V)) (k : κ) : List (κ × V) := kvs.filter fun kv => decide (kv.1 ≠ k)
theorem gr {p : κ × V} {r : List (κ × V)} {k : κ} (e : p.1 = k) : cY (p :: r) k = some p.2 := by simp [cY, zAx, e]
theorem gq {p : κ × V} {r : List (κ × V)} {k : κ} (e : ¬ p.1 = k) : cY (p :: r) k = cY r k := by simp [cY, zAx, e]
theorem jV (k : κ) : ∀ kvs : List (κ × V), (kvs.any fun kv => decide (kv.1 = k)) = (cY kvs k).isSome
 | [] => rfl
 | p :: r => by
  rw [List.any_cons]
  by_cases e : p.1 = k
  ·simp only [gr e, decide_eq_true e, Bool.true_or, Option.isSome_some]
  ·rw [gq e, decide_eq_false e, Bool.false_or]; exact jV k r
theorem dW.isSome_eq {o : Option V} {u : Option Value} (r : dW o u) : o.isSome = u.isSome := by
 cases o with
 | none => cases u with
  | none => rfl
  | some _ => exact (show False from r).elim
 | some _ => cases u with
  | none => exact (show False from r).elim
  | some _ => rfl
theorem dW.getD {o : Option V} {u : Option Value} {d : V} {d' : Value} (r : dW o u) (rd : RelV d d') : RelV (o.getD d) (u.getD d') := by
 cases o with
 | none => cases u with
  | none => exact rd
  | some _ => exact (show False from r).elim
 | some _ => cases u with
  | none => exact (show False from r).elim
  | some _ => exact r
theorem KV.val {kvs : List (κ × V)} {vs : List (κ × Value)} (r : KV kvs vs) (k : κ) : dW (cY kvs k) (valueAt vs k) := by
 unfold KV at r
 induction r with
 | nil => exact True.intro
 | @cons p q ps qs h t ih =>
  obtain ⟨h1, h2⟩ := h
  by_cases e : p.1 = k
  ·have e' : q.1 = k := h1.symm.trans e
   have b : valueAt (q :: qs) k = some q.2 := by simp [valueAt, zAx, e']
   rw [gr e, b]; exact h2
  ·have e' : ¬ q.1 = k := fun z => e (h1.trans z)
   have b : valueAt (q :: qs) k = valueAt qs k := by simp [valueAt, zAx, e']
   rw [gq e, b]; exact ih
theorem KV.any {kvs : List (κ × V)} {vs : List (κ × Value)} (r : KV kvs vs) (k : κ) : (kvs.any fun kv => decide (kv.1 = k)) = vs.any fun kv => decide (kv.1 = k) := by
 unfold KV at r
 induction r with
 | nil => rfl
 | cons h t ih => rw [List.any_cons, List.any_cons, ih, h.1]
theorem KV.repl {kvs : List (κ × V)} {vs : List (κ × Value)} (r : KV kvs vs) (k : κ) {y : V} {u : Value} (ry : RelV y u) :
  KV (kvs.map fun kv => if kv.1 = k then (kv.1, y) else kv) (vs.map fun kv => if kv.1 = k then (kv.1, u) else kv) := by
 unfold KV at r ⊢
 induction r with
 | nil => exact .nil
 | @cons p q ps qs h t ih =>
  rw [zAK, zAK]
  refine .cons ?_ ih
  obtain ⟨h1, h2⟩ := h
  by_cases e : p.1 = k
  ·rw [if_pos e, if_pos (h1.symm.trans e)]; exact ⟨h1, ry⟩
  ·rw [if_neg e, if_neg (fun z => e (h1.trans z))]; exact ⟨h1, h2⟩
theorem KV.put {kvs : List (κ × V)} {vs : List (κ × Value)} (r : KV kvs vs) (k : κ) {y : V} {u : Value} (ry : RelV y u) : KV (putK kvs k y) (stored vs k u) := by
 unfold putK stored
 rw [r.any k]
 by_cases e : (vs.any fun kv => decide (kv.1 = k)) = true
 ·rw [if_pos e, if_pos e]; exact r.repl k ry
 ·rw [if_neg e, if_neg e]; exact Paired.snoc r ⟨rfl, ry⟩
theorem KV.drop {kvs : List (κ × V)} {vs : List (κ × Value)} (r : KV kvs vs) (k : κ) : KV (p4 kvs k) (without vs k) := by
 unfold KV at r ⊢
 unfold p4 without
 induction r with
 | nil => exact .nil
 | @cons p q ps qs h t ih =>
  obtain ⟨h1, h2⟩ := h
  rw [List.filter_cons, List.filter_cons]
  by_cases e : p.1 = k
  ·have a : ¬ decide (p.1 ≠ k) = true := by simp [e]
   have b : ¬ decide (q.1 ≠ k) = true := by simp [h1.symm.trans e]
   rw [if_neg a, if_neg b]; exact ih
  ·have e' : ¬ q.1 = k := fun z => e (h1.trans z)
   have a : decide (p.1 ≠ k) = true := by simp [e]
   have b : decide (q.1 ≠ k) = true := by simp [e']
   rw [if_pos a, if_pos b]; exact .cons ⟨h1, h2⟩ ih
theorem KV.keys {kvs : List (κ × V)} {vs : List (κ × Value)} (r : KV kvs vs) : kvs.map (·.1) = vs.map (·.1) := by
 unfold KV at r
 induction r with
 | nil => rfl
 | cons h t ih => rw [zAK, zAK, ih, h.1]
theorem KV.length {kvs : List (κ × V)} {vs : List (κ × Value)} (r : KV kvs vs) : kvs.length = vs.length := Paired.length r
end
theorem tm {P : Program} {w : World} {k : Key} {u : Value} (r : RelV (kV k) u) : (bN P w).is k u = true := by
 cases k with
 | inl i => obtain ⟨t, e⟩ := (show ∃ t, u = Value.int i t from r); subst e; exact j2 P w i t
 | inr x => obtain ⟨t, e⟩ := (show ∃ t, u = Value.str x t from r); subst e; exact j3 P w x t
abbrev KT (H : Hp) : List (List Key × V) -> List (List Key × Addr × Value) -> Prop := Paired fun p q => p.1 = q.1 /\ H q.2.1 = some (.tup (p.1.map kV)) /\ RelV p.2 q.2.2
theorem KT.val {H : Hp} {kvs : List (List Key × V)} {xs : List (List Key × Addr × Value)} (r : KT H kvs xs) (k : List Key) : dW (cY kvs k) ((atKey xs k).map (·.2)) := by
 induction r with
 | nil => exact True.intro
 | @cons p q ps qs h t ih =>
  obtain ⟨h1, _, h2⟩ := h
  by_cases e : p.1 = k
  ·have e' : q.1 = k := h1.symm.trans e
   have b : atKey (q :: qs) k = some q.2 := by simp [atKey, zAx, e']
   rw [gr e, b]; exact h2
  ·have e' : ¬ q.1 = k := fun z => e (h1.trans z)
   have b : atKey (q :: qs) k = atKey qs k := by simp [atKey, zAx, e']
   rw [gq e, b]; exact ih
theorem KT.repl {H : Hp} {kvs : List (List Key × V)} {xs : List (List Key × Addr × Value)} (r : KT H kvs xs) (k : List Key) {y : V} {u : Value} (ry : RelV y u) :
  KT H (kvs.map fun kv => if kv.1 = k then (kv.1, y) else kv) (xs.map (putAt k u)) := by
 induction r with
 | nil => exact .nil
 | @cons p q ps qs h t ih =>
  rw [zAK, zAK]
  refine .cons ?_ ih
  obtain ⟨h1, h2, h3⟩ := h
  unfold putAt
  by_cases e : p.1 = k
  ·rw [if_pos e, if_pos (h1.symm.trans e)]; exact ⟨h1, h2, ry⟩
  ·rw [if_neg e, if_neg (fun z => e (h1.trans z))]; exact ⟨h1, h2, h3⟩
theorem KT.put {H : Hp} {kvs : List (List Key × V)} {xs : List (List Key × Addr × Value)} (r : KT H kvs xs) (k : List Key) {b : Addr} {y : V} {u : Value} (hb : H b = some (.tup (k.map kV))) (ry : RelV y u) :
  KT H (putK kvs k y) (storedH xs k b u) := by
 have e : (kvs.any fun kv => decide (kv.1 = k)) = (atKey xs k).isSome := by
  rw [jV, (r.val k).isSome_eq, Option.isSome_map]
 unfold putK storedH
 rw [e]
 by_cases q : (atKey xs k).isSome = true
 ·rw [if_pos q, if_pos q]; exact r.repl k ry
 ·rw [if_neg q, if_neg q]; exact Paired.snoc r ⟨rfl, hb, ry⟩
theorem KT.keeps {H H' : Hp} {kvs : List (List Key × V)} {xs : List (List Key × Addr × Value)} (r : KT H kvs xs) (ht : ∀ b ys, H b = some (.tup ys) -> H' b = some (.tup ys)) : KT H' kvs xs :=
 Paired.mapP r fun _ _ z => ⟨z.1, ht _ _ z.2.1, z.2.2⟩
section
variable {P : Program} {w : World} {H : Hp} {h : Heap} {a : Addr}
theorem tO {u : HO} (ok : HOk P w H h) (e : Rd H a u) : aN P w H h a u := e.ok ok
theorem sV {kvs : List (Key × V)} (ok : HOk P w H h) (e : Rd H a (.dK kvs)) : kvs.length <= sizeLine /\ (a == sysModules) = false /\ ∃ vs, KV kvs vs /\ h.DictOf (bN P w) a vs :=
 show aN P w H h a (.dK kvs) from tO ok e
theorem sU {kvs : List (Key × V)} (ok : HOk P w H h) (e : H a = some (.dK kvs)) : kvs.length <= sizeLine /\ (a == sysModules) = false /\ ∃ vs, KV kvs vs /\ h.DictOf (bN P w) a vs := sV ok (.inl e)
end
def lC (H : Hp) (a : Addr) (y : V) (r : Option V) : Prop :=
 (∃ kvs k, Rd H a (.dK kvs) /\ y = kV k /\ r = cY kvs k) ∨ ∃ kvs k b, Rd H a (.dT kvs) /\ y = .ref b /\ H b = some (.tup (k.map kV)) /\ r = cY kvs k
def lD (H : Hp) (a : Addr) (y v : V) (H' : Hp) : Prop :=
 (∃ kvs k, H a = some (.dK kvs) /\ y = kV k /\ kvs.length < sizeLine /\ H' = upd H a (.dK (putK kvs k v))) ∨
 ∃ kvs k b, H a = some (.dT kvs) /\ y = .ref b /\ H b = some (.tup (k.map kV)) /\ kvs.length < sizeLine /\ H' = upd H a (.dT (putK kvs k v))
theorem lC.k {H : Hp} {a : Addr} {kvs : List (Key × V)} {k : Key} (e : H a = some (.dK kvs)) : lC H a (kV k) (cY kvs k) := .inl ⟨kvs, k, .inl e, rfl, rfl⟩
theorem lC.t {H : Hp} {a b : Addr} {kvs : List (List Key × V)} {k : List Key} (e : H a = some (.dT kvs)) (eb : H b = some (.tup (k.map kV))) : lC H a (.ref b) (cY kvs k) := .inr ⟨kvs, k, b, .inl e, rfl, eb, rfl⟩
theorem lD.k {H : Hp} {a : Addr} {kvs : List (Key × V)} {k : Key} {v : V} (e : H a = some (.dK kvs)) (hl : kvs.length < sizeLine) : lD H a (kV k) v (upd H a (.dK (putK kvs k v))) := .inl ⟨kvs, k, e, rfl, hl, rfl⟩
theorem lD.t {H : Hp} {a b : Addr} {kvs : List (List Key × V)} {k : List Key} {v : V} (e : H a = some (.dT kvs)) (eb : H b = some (.tup (k.map kV))) (hl : kvs.length < sizeLine) :
  lD H a (.ref b) v (upd H a (.dT (putK kvs k v))) := .inr ⟨kvs, k, b, e, rfl, eb, hl, rfl⟩
section
variable {X : Cx} {pins : List (Addr × Obj)} {σ : St} {H : Hp} {s : Shared} {a : Addr} {y v : V} {u r : Value} {o : Option V} {A : Around} {E : Value -> Shared -> Prop}
theorem Inv.big (I : Inv X pins σ H s) : sysModules < s.heap.objs.size := by
 have h : mainGlobals < s.heap.objs.size := (I.mod.glob.keeps I.bk).lt
 exact Nat.lt_trans (by decide) h
theorem qt {h' : Heap} {t' : Nat} {ob : HO} (I : Inv X pins σ H s) (mu : Mut (H a)) (hs : Heap.SameBut a s.heap h') (he : ∃ q, h'.get? a = some q) (new : aN X.prog X.w (upd H a ob) h' a ob) :
  Inv X pins σ (upd H a ob) { s with heap := h', toks := t' } :=
 I.write (x := a) (e := a) mu (.inl rfl) (fun b q hb z => (hs.2 b hb).trans z) he new
end
section
variable {X : Cx} {pins : List (Addr × Obj)} {σ : St} {H : Hp} {s : Shared} {a : Addr} {kvs : List (Key × V)} {k : Key} {u : Value} {A : Around} {E : Value -> Shared -> Prop}
end
section
variable {X : Cx} {o i e value : Expr} {pos pos' tpos : Pos} {td ty tv : TE}
end
theorem o2 {P : Program} {w : World} {H : Hp} (h : Heap) (hb : sysModules < h.objs.size) : aN P w H (h.push { cls := .type "dict", data := .dict #[] }) h.objs.size (.dK []) :=
 ⟨zAZ _, beq_eq_false_iff_ne.mpr (Ne.symm (zAT hb)), [], .nil, Heap.DictOf.new h⟩
section
variable {X : Cx} {pos : Pos}
end
abbrev VV : List (V × V) -> List (Value × Value) -> Prop := Paired fun p q => RelV p.1 q.1 /\ RelV p.2 q.2
def rX (kvs more : List (Key × V)) : List (Key × V) := more.foldl (fun acc kv => putK acc kv.1 kv.2) kvs
theorem KV.merge : ∀ {more : List (Key × V)} {rs : List (Key × Value)} {kvs : List (Key × V)} {vs : List (Key × Value)}, KV more rs -> KV kvs vs -> KV (rX kvs more) (merged vs rs) := by
 intro more rs kvs vs r
 unfold KV at r
 induction r generalizing kvs vs with
 | nil => intro q; exact q
 | @cons p q ps qs h t ih =>
  intro r0
  have e : KV (putK kvs p.1 p.2) (stored vs q.1 q.2) := by
   have := r0.put p.1 h.2
   rw [<- h.1]; exact this
  exact ih e
theorem gv {P : Program} {w : World} : ∀ {kvs : List (Key × V)} {ws : List (Value × Value)}, VV (kvs.map fun kv => (kV kv.1, kv.2)) ws -> ∃ rs, Carries (bN P w) ws rs /\ KV kvs rs
 | [], _, r => by rw [zAw] at r; cases r; exact ⟨[], True.intro, .nil⟩
 | p :: kvs, _, r => by
  rw [zAK] at r
  cases r with
  | @cons a b as bs h t =>
   obtain ⟨rs, c, q⟩ := gv (P := P) (w := w) t
   obtain ⟨b1, b2⟩ := b
   exact ⟨(p.1, b2) :: rs, ⟨tm h.1, rfl, c⟩, .cons ⟨rfl, h.2⟩ q⟩
structure M1 (X : Cx) (o : Expr) (m : Str) (apos : Pos) (e : Expr) (cpos : Pos) : Prop where
 base : attributeBase o m X.env (eval o X.env) = eval o X.env
 few : ((backTo cpos (starEach [e] X.env)).all (fun x => !x.1) && (backToKw cpos (keywordEach [] X.env)).all (fun x => x.1.isSome)
  && decide (([e] : List Expr).length + ([] : List Keyword).length + (if ([] : List Keyword).isEmpty then 0 else 1) < 30)) = true
 line : (apos.endLine == cpos.line) = true
 trees : backTo cpos (starEach [e] X.env) = [(false, eval e X.env)]
structure M2 (X : Cx) (o : Expr) (m : Str) (apos : Pos) (e f : Expr) (cpos : Pos) : Prop where
 base : attributeBase o m X.env (eval o X.env) = eval o X.env
 few : ((backTo cpos (starEach [e, f] X.env)).all (fun x => !x.1) && (backToKw cpos (keywordEach [] X.env)).all (fun x => x.1.isSome)
  && decide (([e, f] : List Expr).length + ([] : List Keyword).length + (if ([] : List Keyword).isEmpty then 0 else 1) < 30)) = true
 line : (apos.endLine == cpos.line) = true
 trees : backTo cpos (starEach [e, f] X.env) = [(false, eval e X.env), (false, eval f X.env)]
section
variable {X : Cx} {pins : List (Addr × Obj)} {σ : St} {H : Hp} {s : Shared} {a : Addr} {y d : V} {u r : Value} {o : Option V} {A : Around} {E : Value -> Shared -> Prop}
end
section
variable {X : Cx} {o e f : Expr} {apos cpos : Pos} {td ty tx : TE}
end
section
variable {X : Cx} {pins : List (Addr × Obj)} {σ : St} {H : Hp} {s : Shared} {a : Addr} {kvs : List (Key × V)} {A : Around} {E : Value -> Shared -> Prop}
end
section
variable {X : Cx} {pins : List (Addr × Obj)} {σ : St} {H : Hp} {s : Shared} {a : Addr} {y : V} {u : Value} {A : Around} {E : Value -> Shared -> Prop}
end
end L2
namespace PM
def g3 (x y z : Int) : Nat := Int.gcd (Int.gcd x y : Int) z
end PM
namespace PX
open PySem PySem.W PySem.Spec PySem.Calls PyProof.Rows PySem.Builtin.ObjectAttr PySem.Builtin.Getset_descriptor
def ExcAt (e c : Addr) (h : Heap) : Prop := ∃ o vs, h.get? e = some o /\ o.cls = .ref c /\ o.data = .fields vs
theorem ExcAt.ty {M : Model} {e c : Addr} {h : Heap} (p : ExcAt e c h) : Looks M h (typeOf (.ref e)) (.ref c) := by
 obtain ⟨o, vs, h1, h2, _⟩ := p
 exact h2 ▸ (Looks.ld h1).andThen .now
def o3 (K : Frag) (c : Addr) : Bool :=
 (clsIn K c).isSome && findIn K (.ref c) "__getattribute__" == some (some (.builtin "BaseException.__getattribute__"))
 && findIn K (.ref c) "__getattr__" == some none && findIn K (.ref c) "__class__" == some (some (.builtin "object.__class__"))
 && specialIn K (.builtin "object.__class__") "__get__" == some (some (.builtin "getset_descriptor.__get__"))
 && takesIn K (.builtin "object.__class__") == some true
 && mroIn K c (.type "object") == some true && mroIn K c (.type "BaseException") == some true
 && kitOne K (.ref c) (.type "int") == some false && kitOne K (.ref c) (.type "bool") == some false && kitOne K (.ref c) (.type "tuple") == some false
 && kitOne K (.ref c) (.type "list") == some false && kitOne K (.ref c) (.type "str") == some false
def rY (K : Frag) (c : Addr) : Bool :=
 plainGet K c "__class__" && hasDictIn K c && findIn K (.ref c) "__class__" == some (some (.builtin "object.__class__"))
 && specialIn K (.builtin "object.__class__") "__get__" == some (some (.builtin "getset_descriptor.__get__"))
 && takesIn K (.builtin "object.__class__") == some true && mroIn K c (.type "object") == some true
 && kitOne K (.ref c) (.type "int") == some false && kitOne K (.ref c) (.type "bool") == some false && kitOne K (.ref c) (.type "tuple") == some false
 && kitOne K (.ref c) (.type "list") == some false && kitOne K (.ref c) (.type "str") == some false
structure fu (K : Frag) (c : Addr) : Prop where
 pg : plainGet K c "__class__" = true
 hd : hasDictIn K c = true
 at_ : findIn K (.ref c) "__class__" = some (some (.builtin "object.__class__"))
 get : specialIn K (.builtin "object.__class__") "__get__" = some (some (.builtin "getset_descriptor.__get__"))
 takes : takesIn K (.builtin "object.__class__") = some true
 obj : mroIn K c (.type "object") = some true
 not : ∀ T, (T = "int" ∨ T = "bool" ∨ T = "tuple" ∨ T = "list" ∨ T = "str") -> kitOne K (.ref c) (.type T) = some false
theorem fu.of {K : Frag} {c : Addr} (h : rY K c = true) : fu K c := by
 unfold rY at h
 simp only [zAW, beq_iff_eq] at h
 obtain ⟨⟨⟨⟨⟨⟨⟨⟨⟨⟨h1, h2⟩, h3⟩, h4⟩, h5⟩, h6⟩, h9⟩, h10⟩, h11⟩, h12⟩, h13⟩ := h
 exact ⟨h1, h2, h3, h4, h5, h6, fun T hT => by rcases hT with e | e | e | e | e <;> subst e <;> assumption⟩
structure b9 (K : Frag) (c : Addr) : Prop where
 cls : (clsIn K c).isSome = true
 ga : findIn K (.ref c) "__getattribute__" = some (some (.builtin "BaseException.__getattribute__"))
 hook : findIn K (.ref c) "__getattr__" = some none
 at_ : findIn K (.ref c) "__class__" = some (some (.builtin "object.__class__"))
 get : specialIn K (.builtin "object.__class__") "__get__" = some (some (.builtin "getset_descriptor.__get__"))
 takes : takesIn K (.builtin "object.__class__") = some true
 obj : mroIn K c (.type "object") = some true
 exc : mroIn K c (.type "BaseException") = some true
 not : ∀ T, (T = "int" ∨ T = "bool" ∨ T = "tuple" ∨ T = "list" ∨ T = "str") -> kitOne K (.ref c) (.type T) = some false
theorem b9.of {K : Frag} {c : Addr} (h : o3 K c = true) : b9 K c := by
 unfold o3 at h
 simp only [zAW, beq_iff_eq] at h
 obtain ⟨⟨⟨⟨⟨⟨⟨⟨⟨⟨⟨⟨h1, h2⟩, h3⟩, h4⟩, h5⟩, h6⟩, h7⟩, h8⟩, h9⟩, h10⟩, h11⟩, h12⟩, h13⟩ := h
 exact ⟨h1, h2, h3, h4, h5, h6, h7, h8, fun T hT => by rcases hT with e | e | e | e | e <;> subst e <;> assumption⟩
section
variable {prog : Program} {w : World} {A : Around} {E : Value -> Shared -> Prop} {s : Shared} {K : Frag} {e c : Addr}
theorem tS {R : Result -> Shared -> Prop} {tp : Value} (X : K.In s.heap) (p : ExcAt e c s.heap) (hm : mroIn K c (.type "object") = some true) (hq : R (.ok (.ret (.ref c))) s) :
  codeAny (model prog w) A (.call (.builtin "getset_descriptor.__get__") ⟨[.builtin "object.__class__", .ref e, tp], []⟩) R s := by
 obtain ⟨h, g, dr, t, os⟩ := s
 have La := p.ty (M := model prog w)
 have Lb := looks_mroIn (M := model prog w) X hm
 refine codeAny_call_builtin (KF.slot_gs.plain) KF.entry_gs (KF.slot_gs.check _ _ _ _ _ _ _ _ KF.type_class (KF.args_gs _ _ _) ?_)
 unfold Builtin.«getset_descriptor.__get__» descrGet
 rw [dga_obj]
 refine wpAny_bind (wpAny_pure ?_)
 unfold descrGetter descrCheckInstance descrNameAndClass isInstance
 simp only [KF.owner_class]
 repeat lk
 refine ⟨Code.quiet_builtin _ (by decide +kernel), codeAny_builtin KF.entry_class ?_⟩
 unfold Builtin.«object.__class__» shownTypeOf
 repeat lk
 exact hq
theorem sR {M : Model} {h : Heap} (k : b9 K c) (X : K.In h) : Looks M h (find (.ref e) (.ref c) "__class__") (.bind (.builtin "getset_descriptor.__get__") (.builtin "object.__class__")) := by
 have La := looks_findIn (M := M) X k.at_
 have Lb : Looks M h (getOf (some (.builtin "object.__class__"))) (some (.builtin "getset_descriptor.__get__")) := looks_specialIn X k.get
 have Lc := looks_takesIn (M := M) X k.takes
 refine La.andThen (Lb.andThen ?_)
 exact (show Looks M h (dataDescriptor? (some (.builtin "object.__class__")) (some (.builtin "getset_descriptor.__get__"))) (some (.builtin "getset_descriptor.__get__", .builtin "object.__class__")) from Lc.andThen .now).andThen (Looks.tag .now)
theorem q5 {tk : Tok} {Q : Fin -> Shared -> Prop} (k : b9 K c) (X : K.In s.heap) (p : ExcAt e c s.heap) (hq : Q (.done (.ret (.ref c))) s) :
  wpAny (model prog w) A (Builtin.«object.__getattribute__» ⟨[.ref e, .str "__class__" tk], []⟩) Q E s := by
 obtain ⟨h, g, dr, t, os⟩ := s
 have La := p.ty (M := model prog w)
 have Lb := sR (M := model prog w) (e := e) k X
 refine wpAny_bind (wpAny_pure ?_)
 refine wpAny_bind (wpAny_pure ?_)
 refine wpAny_bind (La.at (wpAny_bind (Lb.at ?_)))
 show wpAny _ _ (bindTo _ _ _ _) _ _ _
 unfold bindTo
 repeat (first | with_reducible refine wpAny_bind ?_ | with_reducible refine wpAny_holding ?_)
 refine wpAny_call (tS X p k.obj ?_)
 exact wpAny_pure hq
theorem q0 {M : Model} {nv : Value} {Q : Unit -> Shared -> Prop} (k : b9 K c) (X : K.In s.heap) (p : ExcAt e c s.heap) (hq : Q () s) :
  wpAny M A (checkBuiltinCall "BaseException.__getattribute__" ⟨[.ref e, nv], []⟩) Q E s := by
 obtain ⟨h, g, dr, t, os⟩ := s
 have hk : builtinKind "BaseException.__getattribute__" = some .slot := by decide +kernel
 have hsp : splitId "BaseException.__getattribute__" = some ("BaseException", "__getattribute__") := by decide +kernel
 have ha := F.args_bexc_ga (.ref e) nv
 have La := p.ty (M := M)
 have Lb := looks_mroIn (M := M) X k.exc
 have Li : Looks M h (isInstance (.ref e) (.type "BaseException")) true := La.andThen Lb
 simp only [checkBuiltinCall, hk, hsp]
 refine wpAny_bind (Li.at ?_)
 repeat (first | wp_step)
 exact hq
theorem x_call {tk : Tok} {R : Result -> Shared -> Prop} (k : b9 K c) (X : K.In s.heap) (p : ExcAt e c s.heap) (hq : R (.ok (.ret (.ref c))) s) :
  codeAny (model prog w) A (.call (.builtin "BaseException.__getattribute__") ⟨[.ref e, .str "__class__" tk], []⟩) R s :=
 codeAny_call_builtin F.excAttr_ValueError.ga.plain F.entry_bexc_ga (q0 k X p (q5 k X p hq))
theorem sQ {Q : Option Value -> Shared -> Prop} (k : b9 K c) (X : K.In s.heap) (p : ExcAt e c s.heap) (hq : Q (some (.ref c)) { s with toks := s.toks + 1 }) :
  wpAny (model prog w) A (getAttr? (.ref e) "__class__") Q E s := by
 obtain ⟨h, g, dr, t, os⟩ := s
 have La := p.ty (M := model prog w)
 have Lb := looks_findIn (M := model prog w) X k.ga
 have Lc := looks_findIn (M := model prog w) X k.hook
 have f3 := F.excAttr_ValueError.ga.bind (.ref e)
 unfold getAttr? getAttrBy? getAttrBy
 refine wpAny_bind (wpAny_mkText (wpAny_bind (wpAny_attempt (wpAny_holding (wpAny_bind (La.at (wpAny_bind (Lb.at ?_))))))))
 have hne : (Value.builtin "BaseException.__getattribute__" == Value.builtin "object.__getattribute__") = false := by decide +kernel
 simp only [onTheHeap, Bool.true_and, hne, zAv, if_false]
 unfold getAttrByItsOwn hookBefore
 simp only [onTheHeap, if_true]
 refine wpAny_bind (Lc.at ?_)
 refine wpAny_bind (wpAny_attempt (wpAny_holding ?_))
 unfold callGetattribute boundAndCalled
 simp only [Bool.false_and, zAv, if_false]
 refine wpAny_bind (wpAny_of_eq f3 ?_)
 refine wpAny_call (x_call k X p ?_)
 refine wpAny_pure (a := Value.ref c) ?_
 exact wpAny_pure hq
theorem jw (k : b9 K c) : KitX K (.ref e) (.ref c) (ExcAt e c) where
 ty := fun _ _ _ p => p.ty
 it := fun _ _ X _ => by
  have h := k.cls
  unfold clsIn at h
  split at h
  ·rename_i c' d' cd' sl' ho
   intro A' Q' E' s' kk q
   unfold isType loadHead
   exact wpAny_bind (wpAny_loadPart (kk _ _ (X _ _ ho)) (wpAny_pure q))
  ·cases h
 ne := fun h tp dd its n sl X htp => by
  have h := k.cls
  refine Bool.eq_false_iff.mpr fun q => ?_
  have z : c = tp := Value.ref.inj (beq_iff_eq.mp q)
  subst z
  unfold clsIn at h
  split at h
  ·rename_i c' d' cd' sl' ho
   cases (X _ _ ho).symm.trans htp
  ·cases h
 ca := fun X p kk => sQ k X p kk
end
end PX
namespace PD
open PySem PySem.Spec PyProof.Rows L2 PX
abbrev St := L2.St
def NT : HO -> Prop
 | .tbl _ => False
 | _ => True
def uc : Str := "lightest.<locals>.<lambda>"
def rf (c : Addr) : Heap -> Prop := fun h => h.CodeRec (.ref c) uc
def bV (H : Hp) : Prop := ∀ P ps, H P = some (.tbl ps) -> TriplesOk ps.toList /\ ∀ pos cv, codeAmong pos ps.toList = some cv -> ∃ c, cv = .ref c /\ H c = some (.ext (rf c))
def tabOf (K : PySem.W.Frag) : Option Addr :=
 match PySem.W.nsIn K mainGlobals "lightest" with
 | some (some (.ref f)) => (match K.lookup f with
  | some ⟨_, _, .func fd, _⟩ => (match fd.code with
   | .ref c => (match K.lookup c with
    | some ⟨_, _, .fields vs, _⟩ => (match (vs[11]? : Option Value) with
     | some (.ref P) => if (K.lookup P).isNone = true then some P else none
     | _ => none)
    | _ => none)
   | _ => none)
  | _ => none)
 | _ => none
structure af (H H' : Hp) : Prop where
 kp : ∀ b o, H b = some o -> NT o -> H' b = some o
 tb : ∀ b ps, H b = some (.tbl ps) -> ∃ more, H' b = some (.tbl (ps ++ more))
 ok : bV H -> bV H'
theorem af.app {H H' : Hp} (e : af H H') (b : Addr) (o : HO) (h : H b = some o) (nt : NT o := by first | exact True.intro | assumption) : H' b = some o := e.kp b o h nt
instance {H H' : Hp} : CoeFun (af H H') (fun _ => ∀ (b : Addr) (o : HO), H b = some o -> (nt : NT o := by first | exact True.intro | assumption) -> H' b = some o) := ⟨@af.app H H'⟩
theorem af.refl (H : Hp) : af H H := ⟨fun _ _ h _ => h, fun _ ps h => ⟨#[], by rw [h]; simp⟩, id⟩
theorem af.trans {H H1 H2 : Hp} (a : af H H1) (b : af H1 H2) : af H H2 := ⟨fun c o h n => b.kp c o (a.kp c o h n) n, fun c ps h => by
 obtain ⟨m1, e1⟩ := a.tb c ps h
 obtain ⟨m2, e2⟩ := b.tb c _ e1
 exact ⟨m1 ++ m2, by rw [e2, zAp]⟩, fun h => b.ok (a.ok h)⟩
theorem af.ex {H H' : Hp} (e : af H H') {b : Addr} {o : HO} (h : H b = some o) : ∃ o', H' b = some o' := by
 by_cases n : NT o
 ·exact ⟨o, e.kp b o h n⟩
 ·cases o with
  | tbl ps =>
   obtain ⟨m, q⟩ := e.tb b ps h
   exact ⟨_, q⟩
  | _ => exact absurd True.intro n
theorem af.free {H H' : Hp} (e : af H H') {l : Addr} (h : H' l = Option.none) : H l = Option.none := by
 cases q : H l with
 | none => rfl
 | some o =>
  obtain ⟨o', z⟩ := e.ex q
  rw [h] at z; cases z
theorem af.seq {K : PySem.W.Frag} {H H' : Hp} {a : Addr} {xs : List V} (e : af H H') (h : SqL K H a xs) : SqL K H' a xs := by
 rcases h with (h | ⟨o, h⟩) | h
 ·exact .inl (.inl (e _ _ h))
 ·exact .inl (.inr ⟨o, e _ _ h⟩)
 ·exact .inr h
theorem bV.upd {H : Hp} {p : Addr} {o : HO} (n : NT o) (hp : H p = none ∨ ∃ u, H p = some u /\ (∀ φ, u ≠ .ext φ) /\ NT u) (h : bV H) : bV (upd H p o) := by
 intro P ps e
 have hne : P ≠ p := fun z => by
  subst z
  rw [aw] at e
  cases e
  exact n
 rw [aj hne] at e
 obtain ⟨h1, h2⟩ := h P ps e
 refine ⟨h1, fun pos cv q => ?_⟩
 obtain ⟨c, e1, e2⟩ := h2 pos cv q
 refine ⟨c, e1, ?_⟩
 rw [aj fun z => ?_]
 ·exact e2
 ·subst z
  rcases hp with hp | ⟨u, hp, hu, _⟩
  ·rw [hp] at e2; cases e2
  ·rw [hp] at e2; cases e2; exact hu _ rfl
structure de (K : PySem.W.Frag) (H : Hp) : Prop where
 ok : bV H
 at' : ∀ P, tabOf K = some P -> ∃ ps, H P = some (.tbl ps)
theorem de.same {K : PySem.W.Frag} {H H' : Hp} (h : de K H) (e : af H H') : de K H' := ⟨e.ok h.ok, fun P q => by
 obtain ⟨ps, z⟩ := h.at' P q
 obtain ⟨m, z⟩ := e.tb P ps z
 exact ⟨_, z⟩⟩
theorem de.upd {K : PySem.W.Frag} {H : Hp} {p : Addr} {o : HO} (h : de K H) (n : NT o) (hp : H p = none ∨ ∃ u, H p = some u /\ (∀ φ, u ≠ .ext φ) /\ NT u) : de K (upd H p o) := ⟨bV.upd n hp h.ok, fun P q => by
 obtain ⟨ps, z⟩ := h.at' P q
 refine ⟨ps, ?_⟩
 rw [aj fun e => ?_]
 ·exact z
 ·subst e
  rcases hp with hp | ⟨u, hp, _, hu⟩
  ·rw [hp] at z; cases z
  ·rw [hp] at z; cases z; exact hu⟩
inductive D where
 | non | bl (b : Bool) | int (i : Int) | str (x : Str) | tup (ds : List D) | lst (t : Bool) (ds : List D) | exc (c : Addr) | obj (C : Addr) (ns : List Str) (ds : List D) | dic
def Sol : HO -> Prop
 | .ext _ => True | .ins _ _ _ => True | _ => False
theorem Sol.nt {o : HO} (h : Sol o) : NT o := by cases o <;> first | exact True.intro | exact h.elim
def SqG (K : PySem.W.Frag) (H : Hp) (t : Bool) (a : Addr) (vs : List V) : Prop := SqL K H a vs /\ (t = true -> H a = some (.lst vs) /\ K.lookup a = none)
theorem SqG.same {K : PySem.W.Frag} {H H' : Hp} {t : Bool} {a : Addr} {vs : List V} (e : af H H') (q : SqG K H t a vs) : SqG K H' t a vs := ⟨e.seq q.1, fun z => ⟨e _ _ (q.2 z).1, (q.2 z).2⟩⟩
theorem SqG.any {K : PySem.W.Frag} {H : Hp} {a : Addr} {vs : List V} (q : SqL K H a vs) : SqG K H false a vs := ⟨q, fun z => by cases z⟩
theorem SqG.new {K : PySem.W.Frag} {H : Hp} {t : Bool} {a : Addr} {vs : List V} (q : H a = some (.lst vs)) (k : K.lookup a = none) : SqG K H t a vs := ⟨SqL.of q, fun _ => ⟨q, k⟩⟩
def SqT (_ : PySem.W.Frag) (H : Hp) (a : Addr) (xs : List V) : Prop := H a = some (.tup xs)
theorem SqT.w {K : PySem.W.Frag} {H : Hp} {a : Addr} {xs : List V} (h : SqT K H a xs) : L2.SqT K H a xs := .inl (.inl h)
theorem SqT.of {K : PySem.W.Frag} {H : Hp} {a : Addr} {xs : List V} (h : H a = some (.tup xs)) : SqT K H a xs := h
mutual
def Den (K : PySem.W.Frag) (P : Bool -> Addr -> Prop) (H : Hp) : D -> V -> Prop
 | .non, v => v = .non
 | .bl b, v => v = .bl b
 | .int i, v => v = .int i
 | .str x, v => v = .str x
 | .tup ds, v => ∃ a vs, v = .ref a /\ SqT K H a vs /\ ae K P H ds vs
 | .lst t ds, v => ∃ a vs, v = .ref a /\ ¬ P t a /\ SqG K H t a vs /\ ae K P H ds vs
 | .exc c, v => ∃ e, v = .ref e /\ H e = some (.ext (ExcAt e c)) /\ b9 K c
 | .dic, v => ∃ a, v = .ref a /\ H a = some (.ext (PySem.W.KitAt a "dict"))
 | .obj C ns ds, v => ∃ a dx vs, v = .ref a /\ H a = some (.ins C dx (ns.zip vs)) /\ vs.length = ns.length /\ fu K C /\ ae K P H ds vs
def ae (K : PySem.W.Frag) (P : Bool -> Addr -> Prop) (H : Hp) : List D -> List V -> Prop
 | [], vs => vs = []
 | d :: ds, vs => ∃ v r, vs = v :: r /\ Den K P H d v /\ ae K P H ds r
end
section
variable {K : PySem.W.Frag} {P P' : Bool -> Addr -> Prop} {H H' : Hp}
mutual
theorem Den.map (hT : ∀ a vs, SqT K H a vs -> SqT K H' a vs) (hL : ∀ t a vs, ¬ P t a -> SqG K H t a vs -> ¬ P' t a /\ SqG K H' t a vs) (hX : ∀ a o, Sol o -> H a = some o -> H' a = some o) : ∀ (d : D) (v : V), Den K P H d v -> Den K P' H' d v
 | .non, _, h => by simpa only [Den] using h
 | .bl _, _, h => by simpa only [Den] using h
 | .int _, _, h => by simpa only [Den] using h
 | .str _, _, h => by simpa only [Den] using h
 | .tup ds, _, h => by
  simp only [Den] at h ⊢
  obtain ⟨a, vs, e, q, r⟩ := h
  exact ⟨a, vs, e, hT a vs q, ae.map hT hL hX ds vs r⟩
 | .lst t ds, _, h => by
  simp only [Den] at h ⊢
  obtain ⟨a, vs, e, p, q, r⟩ := h
  exact ⟨a, vs, e, (hL t a vs p q).1, (hL t a vs p q).2, ae.map hT hL hX ds vs r⟩
 | .exc c, _, h => by
  simp only [Den] at h ⊢
  obtain ⟨a, e, q, k⟩ := h
  exact ⟨a, e, hX a _ True.intro q, k⟩
 | .obj C ns ds, _, h => by
  simp only [Den] at h ⊢
  obtain ⟨a, dx, vs, e, q, l, k, r⟩ := h
  exact ⟨a, dx, vs, e, hX a _ True.intro q, l, k, ae.map hT hL hX ds vs r⟩
 | .dic, _, h => by
  simp only [Den] at h ⊢
  obtain ⟨a, e, q⟩ := h
  exact ⟨a, e, hX a _ True.intro q⟩
theorem ae.map (hT : ∀ a vs, SqT K H a vs -> SqT K H' a vs) (hL : ∀ t a vs, ¬ P t a -> SqG K H t a vs -> ¬ P' t a /\ SqG K H' t a vs) (hX : ∀ a o, Sol o -> H a = some o -> H' a = some o) : ∀ (ds : List D) (vs : List V), ae K P H ds vs -> ae K P' H' ds vs
 | [], _, h => by simpa only [ae] using h
 | d :: ds, _, h => by
  simp only [ae] at h ⊢
  obtain ⟨v, r, e, h1, h2⟩ := h
  exact ⟨v, r, e, Den.map hT hL hX d v h1, ae.map hT hL hX ds r h2⟩
end
end
theorem SqT.same {K : PySem.W.Frag} {H H' : Hp} {a : Addr} {xs : List V} (e : af H H') (h : SqT K H a xs) : SqT K H' a xs := e _ _ h
section
variable {K : PySem.W.Frag} {P : Bool -> Addr -> Prop} {H H' : Hp}
theorem Den.same {d : D} {v : V} (e : af H H') (h : Den K P H d v) : Den K P H' d v := Den.map (fun _ _ q => SqT.same e q) (fun _ _ _ p q => ⟨p, q.same e⟩) (fun a _ n q => e.kp a _ q n.nt) d v h
theorem ae.same {ds : List D} {vs : List V} (e : af H H') (h : ae K P H ds vs) : ae K P H' ds vs := ae.map (fun _ _ q => SqT.same e q) (fun _ _ _ p q => ⟨p, q.same e⟩) (fun a _ n q => e.kp a _ q n.nt) ds vs h
theorem Den.fewer {P' : Bool -> Addr -> Prop} {d : D} {v : V} (e : ∀ t a, P' t a -> P t a) (h : Den K P H d v) : Den K P' H d v := Den.map (fun _ _ q => q) (fun _ _ _ p q => ⟨fun z => p (e _ _ z), q⟩) (fun _ _ _ q => q) d v h
theorem ae.fewer {P' : Bool -> Addr -> Prop} {ds : List D} {vs : List V} (e : ∀ t a, P' t a -> P t a) (h : ae K P H ds vs) : ae K P' H ds vs := ae.map (fun _ _ q => q) (fun _ _ _ p q => ⟨fun z => p (e _ _ z), q⟩) (fun _ _ _ q => q) ds vs h
theorem ae.len : ∀ {ds : List D} {vs : List V}, ae K P H ds vs -> vs.length = ds.length
 | [], _, h => by simp only [ae] at h; subst h; rfl
 | d :: ds, _, h => by
  simp only [ae] at h
  obtain ⟨v, r, rfl, _, h2⟩ := h
  simp [ae.len h2]
theorem ae.get : ∀ {ds : List D} {vs : List V} {i : Nat} {d : D}, ae K P H ds vs -> ds[i]? = some d -> ∃ v, vs[i]? = some v /\ Den K P H d v
 | [], _, _, _, _, e => by simp at e
 | d :: ds, _, 0, _, h, e => by
  simp only [ae] at h
  obtain ⟨v, r, rfl, h1, _⟩ := h
  simp at e; subst e
  exact ⟨v, rfl, h1⟩
 | d :: ds, _, i + 1, x, h, e => by
  simp only [ae] at h
  obtain ⟨v, r, rfl, _, h2⟩ := h
  obtain ⟨u, e1, e2⟩ := ae.get (i := i) (d := x) h2 (by simpa using e)
  exact ⟨u, by simpa using e1, e2⟩
theorem ae.aI : ∀ {ds : List D} {vs : List V} {i : Nat} {v : V}, ae K P H ds vs -> vs[i]? = some v -> ∃ d, ds[i]? = some d /\ Den K P H d v
 | [], _, _, _, h, e => by simp only [ae] at h; subst h; simp at e
 | d :: ds, _, 0, _, h, e => by
  simp only [ae] at h
  obtain ⟨v, r, rfl, h1, _⟩ := h
  simp at e; subst e
  exact ⟨d, rfl, h1⟩
 | d :: ds, _, i + 1, x, h, e => by
  simp only [ae] at h
  obtain ⟨v, r, rfl, _, h2⟩ := h
  obtain ⟨u, e1, e2⟩ := ae.aI (i := i) (v := x) h2 (by simpa using e)
  exact ⟨u, by simpa using e1, e2⟩
theorem ae.append : ∀ {ds es : List D} {vs us : List V}, ae K P H ds vs -> ae K P H es us -> ae K P H (ds ++ es) (vs ++ us)
 | [], _, _, _, h, h' => by simp only [ae] at h; subst h; exact h'
 | d :: ds, _, _, _, h, h' => by
  simp only [ae] at h
  obtain ⟨v, r, rfl, h1, h2⟩ := h
  simp only [zAn, ae]
  exact ⟨v, _, rfl, h1, ae.append h2 h'⟩
theorem ae.one {d : D} {v : V} (h : Den K P H d v) : ae K P H [d] [v] := by
 simp only [ae]
 exact ⟨v, [], rfl, h, rfl⟩
theorem ae.nil : ae K P H [] [] := by simp only [ae]
theorem ae.cons {d : D} {v : V} {ds : List D} {vs : List V} (h : Den K P H d v) (h' : ae K P H ds vs) : ae K P H (d :: ds) (v :: vs) := by
 simp only [ae]
 exact ⟨v, vs, rfl, h, h'⟩
theorem Den.int_ {i : Int} {v : V} (h : Den K P H (.int i) v) : v = .int i := by simpa only [Den] using h
theorem Den.bl_ {b : Bool} {v : V} (h : Den K P H (.bl b) v) : v = .bl b := by simpa only [Den] using h
theorem Den.non_ {v : V} (h : Den K P H .non v) : v = .non := by simpa only [Den] using h
theorem Den.str_ {x : Str} {v : V} (h : Den K P H (.str x) v) : v = .str x := by simpa only [Den] using h
theorem Den.int (i : Int) : Den K P H (.int i) (.int i) := by simp only [Den]
theorem Den.bl (b : Bool) : Den K P H (.bl b) (.bl b) := by simp only [Den]
theorem Den.non : Den K P H .non .non := by simp only [Den]
theorem Den.str (x : Str) : Den K P H (.str x) (.str x) := by simp only [Den]
theorem Den.tup_ {ds : List D} {v : V} (h : Den K P H (.tup ds) v) : ∃ a vs, v = .ref a /\ SqT K H a vs /\ ae K P H ds vs := by simpa only [Den] using h
theorem Den.lstG_ {t : Bool} {ds : List D} {v : V} (h : Den K P H (.lst t ds) v) : ∃ a vs, v = .ref a /\ ¬ P t a /\ SqG K H t a vs /\ ae K P H ds vs := by simpa only [Den] using h
theorem Den.lst_ {t : Bool} {ds : List D} {v : V} (h : Den K P H (.lst t ds) v) : ∃ a vs, v = .ref a /\ ¬ P t a /\ SqL K H a vs /\ ae K P H ds vs := by
 obtain ⟨a, vs, h1, h2, h3, h4⟩ := h.lstG_
 exact ⟨a, vs, h1, h2, h3.1, h4⟩
theorem Den.dic_ {v : V} (h : Den K P H .dic v) : ∃ a, v = .ref a /\ H a = some (.ext (PySem.W.KitAt a "dict")) := by simpa only [Den] using h
theorem Den.dic {a : Addr} (h : H a = some (.ext (PySem.W.KitAt a "dict"))) : Den K P H .dic (.ref a) := by simp only [Den]; exact ⟨a, rfl, h⟩
theorem Den.obj_ {C : Addr} {ns : List Str} {ds : List D} {v : V} (h : Den K P H (.obj C ns ds) v) : ∃ a dx vs, v = .ref a /\ H a = some (.ins C dx (ns.zip vs)) /\ vs.length = ns.length /\ fu K C /\ ae K P H ds vs := by simpa only [Den] using h
theorem Den.obj {C a dx : Addr} {ns : List Str} {ds : List D} {vs : List V} (h : H a = some (.ins C dx (ns.zip vs))) (l : vs.length = ns.length) (k : fu K C) (d : ae K P H ds vs) : Den K P H (.obj C ns ds) (.ref a) := by simp only [Den]; exact ⟨a, dx, vs, rfl, h, l, k, d⟩
theorem Den.exc_ {c : Addr} {v : V} (h : Den K P H (.exc c) v) : ∃ e, v = .ref e /\ H e = some (.ext (ExcAt e c)) /\ b9 K c := by simpa only [Den] using h
theorem Den.exc {c e : Addr} (h : H e = some (.ext (ExcAt e c))) (k : b9 K c) : Den K P H (.exc c) (.ref e) := by simp only [Den]; exact ⟨e, rfl, h, k⟩
theorem Den.tup {ds : List D} {a : Addr} {vs : List V} (h : SqT K H a vs) (h' : ae K P H ds vs) : Den K P H (.tup ds) (.ref a) := by simp only [Den]; exact ⟨a, vs, rfl, h, h'⟩
theorem Den.lst {t : Bool} {ds : List D} {a : Addr} {vs : List V} (p : ¬ P t a) (h : SqG K H t a vs) (h' : ae K P H ds vs) : Den K P H (.lst t ds) (.ref a) := by simp only [Den]; exact ⟨a, vs, rfl, p, h, h'⟩
end
inductive LI where
 | own (ds : List D) | val (d : D)
inductive OS where
 | lst (ds : List D) | dk (kvs : List (Key × D)) | dt (kvs : List (List Key × D)) | ll (xs : List LI)
inductive Sl where
 | val (d : D)
 | ob (x : OS)
abbrev Sl.own (ds : List D) : Sl := .ob (.lst ds)
def ao (K : PySem.W.Frag) (P : Bool -> Addr -> Prop) (H : Hp) (B : Nat -> Option Addr) : Nat -> List LI -> List V -> Prop
 | _, [], vs => vs = []
 | k, .own ds :: r, vs => ∃ b us u, vs = .ref b :: u /\ B k = some b /\ H b = some (.lst us) /\ ae K P H ds us /\ ao K P H B (k + 1) r u
 | k, .val d :: r, vs => ∃ v u, vs = v :: u /\ Den K P H d v /\ ao K P H B (k + 1) r u
theorem ao.map {K : PySem.W.Frag} {P P' : Bool -> Addr -> Prop} {H H' : Hp} {B B' : Nat -> Option Addr} (hd : ∀ ds vs, ae K P H ds vs -> ae K P' H' ds vs) (hB : ∀ k b, B k = some b -> B' k = some b /\ ∀ us, H b = some (.lst us) -> H' b = some (.lst us)) : ∀ {k : Nat} {xs : List LI} {vs : List V}, ao K P H B k xs vs -> ao K P' H' B' k xs vs
 | _, [], _, h => by simpa only [ao] using h
 | k, .own ds :: r, _, h => by
  simp only [ao] at h ⊢
  obtain ⟨b, us, u, e, h1, h2, h3, h4⟩ := h
  exact ⟨b, us, u, e, (hB k b h1).1, (hB k b h1).2 us h2, hd ds us h3, ao.map hd hB h4⟩
 | k, .val d :: r, _, h => by
  simp only [ao] at h ⊢
  obtain ⟨v, u, e, h1, h2⟩ := h
  have h3 := hd [d] [v] (ae.one h1)
  simp only [ae] at h3
  obtain ⟨v', r', e', h4, _⟩ := h3
  cases e'
  exact ⟨v, u, e, h4, ao.map hd hB h2⟩
inductive bz (K : PySem.W.Frag) (P : Bool -> Addr -> Prop) (H : Hp) (B : Nat -> Option Addr) : OS -> HO -> Prop where
 | lst {ds : List D} {vs : List V} (h : ae K P H ds vs) : bz K P H B (.lst ds) (.lst vs)
 | ll {xs : List LI} {vs : List V} (h : ao K P H B 0 xs vs) : bz K P H B (.ll xs) (.lst vs)
 | dk {kvs : List (Key × D)} {kws : List (Key × V)} (e : kws.map (·.1) = kvs.map (·.1)) (h : ae K P H (kvs.map (·.2)) (kws.map (·.2))) : bz K P H B (.dk kvs) (.dK kws)
 | dt {kvs : List (List Key × D)} {kws : List (List Key × V)} (e : kws.map (·.1) = kvs.map (·.1)) (h : ae K P H (kvs.map (·.2)) (kws.map (·.2))) : bz K P H B (.dt kvs) (.dT kws)
def da : HO -> Prop
 | .lst _ => True | .dK _ => True | .dT _ => True | _ => False
theorem da.nt {o : HO} (h : da o) : NT o := by cases o <;> first | exact True.intro | exact h.elim
theorem da.sol {o : HO} (h : da o) : ¬ Sol o := by cases o <;> first | exact h.elim | exact fun z => z
theorem da.ne {o : HO} (h : da o) : ∀ φ, o ≠ .ext φ := fun _ e => by subst e; exact h
section
variable {K : PySem.W.Frag} {P P' : Bool -> Addr -> Prop} {H H' : Hp} {B B' : Nat -> Option Addr} {x : OS} {o : HO}
theorem bz.map (k : ∀ ds vs, ae K P H ds vs -> ae K P' H' ds vs) (hB : ∀ k b, B k = some b -> B' k = some b /\ ∀ us, H b = some (.lst us) -> H' b = some (.lst us)) (h : bz K P H B x o) : bz K P' H' B' x o := by
 cases h with
 | lst h => exact .lst (k _ _ h)
 | ll h => exact .ll (h.map k hB)
 | dk e h => exact .dk e (k _ _ h)
 | dt e h => exact .dt e (k _ _ h)
theorem bz.same (e : af H H') (h : bz K P H B x o) : bz K P H' B x o := h.map (fun _ _ z => z.same e) fun _ _ q => ⟨q, fun _ z => e _ _ z⟩
theorem bz.fewer (e : ∀ t a, P' t a -> P t a) (hB : ∀ k b, B k = some b -> B' k = some b) (h : bz K P H B x o) : bz K P' H B' x o := h.map (fun _ _ z => z.fewer e) fun k b q => ⟨hB k b q, fun _ z => z⟩
theorem bz.mut (h : bz K P H B x o) : da o := by cases h <;> exact True.intro
theorem bz.lst_ {ds : List D} (h : bz K P H B (.lst ds) o) : ∃ vs, o = .lst vs /\ ae K P H ds vs := by
 cases h with
 | lst h => exact ⟨_, rfl, h⟩
end
abbrev Ro := List (Option Sl)
structure Own where
 B : Addr -> Prop
 O : Nat -> Option Addr
 S : Addr -> Prop
def Own.bad (W : Own) (t : Bool) (a : Addr) : Prop := W.B a ∨ (∃ i, W.O i = some a) ∨ (t = true /\ W.S a)
def Own.drop (W : Own) (i : Nat) : Own := ⟨W.B, fun j => if j = i then none else W.O j, W.S⟩
def Own.put (W : Own) (i : Nat) (a : Addr) : Own := ⟨W.B, fun j => if j = i then some a else W.O j, W.S⟩
theorem Own.drop_bad {W : Own} {i : Nat} {t : Bool} {a : Addr} (h : (W.drop i).bad t a) : W.bad t a := by
 rcases h with h | ⟨j, h⟩ | h
 ·exact .inl h
 ·have h' : (if j = i then none else W.O j) = some a := h
  by_cases e : j = i
  ·rw [if_pos e] at h'; cases h'
  ·rw [if_neg e] at h'; exact .inr (.inl ⟨j, h'⟩)
 ·exact .inr (.inr h)
theorem Own.bad_up {W : Own} {t : Bool} {a : Addr} (h : W.bad false a) : W.bad t a := by
 rcases h with h | h | ⟨h, _⟩
 ·exact .inl h
 ·exact .inr (.inl h)
 ·cases h
def vix (n i k : Nat) : Nat := n * (k + 1) + i
theorem bU {n i j k : Nat} (h : j < n) : vix n i k ≠ j := fun e => by
 unfold vix at e
 rw [Nat.mul_add] at e
 omega
theorem lA {n i j k l : Nat} (hi : i < n) (hj : j < n) (e : vix n i k = vix n j l) : i = j /\ k = l := by
 unfold vix at e
 have h1 : (n * (k + 1) + i) % n = i := by rw [Nat.mul_add_mod, zAX hi]
 have h2 : (n * (l + 1) + j) % n = j := by rw [Nat.mul_add_mod, zAX hj]
 have e1 : i = j := by rw [<- h1, e, h2]
 refine ⟨e1, ?_⟩
 have h3 : n * (k + 1) = n * (l + 1) := by omega
 have := Nat.eq_of_mul_eq_mul_left (by omega) h3
 omega
abbrev Own.sub (W : Own) (n i : Nat) (k : Nat) : Option Addr := W.O (vix n i k)
theorem Own.drop_sub {W : Own} {n i j : Nat} (h : i < n) (k : Nat) (b : Addr) (e : W.sub n j k = some b) : (W.drop i).sub n j k = some b := by
 show (if vix n j k = i then none else W.O (vix n j k)) = _
 rw [if_neg (bU h)]
 exact e
structure Rel (X : Cx) (W : Own) (H : Hp) (σ : St) (ρ : Ro) : Prop where
 val : ∀ (i : Nat) (d : D), ρ[i]? = some (some (Sl.val d)) -> ∃ v, σ[i]? = some (some v) /\ Den X.K W.bad H d v
 own : ∀ (i : Nat) (x : OS), ρ[i]? = some (some (Sl.ob x)) -> ∃ a o, W.O i = some a /\ σ[i]? = some (some (.ref a)) /\ H a = some o /\ bz X.K W.bad H (W.sub σ.length i) x o
 inj : ∀ i j a, W.O i = some a -> W.O j = some a -> i = j
 kn : ∀ i a, W.O i = some a -> X.K.lookup a = none /\ (¬ W.B a /\ ¬ W.S a) /\ ∃ o, H a = some o /\ da o
 ke : ∀ i a, W.O i = some a -> X.H₀ a = none
 bt : ∀ a, W.B a -> ∃ o, H a = some o
 st : ∀ a, W.S a -> ∃ o, H a = some o
 ent : af X.H₀ H
 tab : de X.K H
theorem Rel.same {X : Cx} {W : Own} {H H' : Hp} {σ : St} {ρ : Ro} (r : Rel X W H σ ρ) (e : af H H') : Rel X W H' σ ρ where
 val := fun i d h => let ⟨v, h1, h2⟩ := r.val i d h; ⟨v, h1, h2.same e⟩
 own := fun i ds h => let ⟨a, vs, h1, h2, h3, h4⟩ := r.own i ds h; ⟨a, vs, h1, h2, e.kp _ _ h3 h4.mut.nt, h4.same e⟩
 inj := r.inj
 kn := fun i a h => let ⟨h1, h2, o, h3, h4⟩ := r.kn i a h; ⟨h1, h2, o, e.kp _ _ h3 h4.nt, h4⟩
 ke := r.ke
 bt := fun a h => let ⟨_, q⟩ := r.bt a h; e.ex q
 st := fun a h => let ⟨_, q⟩ := r.st a h; e.ex q
 ent := r.ent.trans e
 tab := r.tab.same e
theorem Rel.ownL {X : Cx} {W : Own} {H : Hp} {σ : St} {ρ : Ro} (r : Rel X W H σ ρ) (i : Nat) (ds : List D) (h : ρ[i]? = some (some (Sl.own ds))) : ∃ a vs, W.O i = some a /\ σ[i]? = some (some (.ref a)) /\ H a = some (.lst vs) /\ ae X.K W.bad H ds vs := by
 obtain ⟨a, o, h1, h2, h3, h4⟩ := r.own i _ h
 obtain ⟨vs, e, h5⟩ := h4.lst_
 subst e
 exact ⟨a, vs, h1, h2, h3, h5⟩
theorem Rel.tracked {X : Cx} {W : Own} {H : Hp} {σ : St} {ρ : Ro} (r : Rel X W H σ ρ) (t : Bool) (a : Addr) (h : W.bad t a) : ∃ o, H a = some o := by
 rcases h with h | ⟨i, h⟩ | ⟨_, h⟩
 ·exact r.bt a h
 ·obtain ⟨_, _, o, q, _⟩ := r.kn i a h
  exact ⟨_, q⟩
 ·exact r.st a h
theorem Rel.fresh {X : Cx} {W : Own} {H : Hp} {σ : St} {ρ : Ro} (r : Rel X W H σ ρ) {t : Bool} {p : Addr} (h : H p = none) : ¬ W.bad t p := fun z => by
 obtain ⟨o, q⟩ := r.tracked t p z
 rw [h] at q; cases q
structure Fwd (W : Own) (H : Hp) (W' : Own) (H' : Hp) : Prop where
 B : W'.B = W.B
 S : W'.S = W.S
 kp : ∀ b o, (∀ i, W.O i ≠ some b) -> H b = some o -> NT o -> H' b = some o
 new : ∀ i a, W'.O i = some a -> (∃ j, W.O j = some a) ∨ H a = none
 tb : ∀ b ps, H b = some (.tbl ps) -> ∃ more, H' b = some (.tbl (ps ++ more))
 ok : bV H -> bV H'
theorem Fwd.keep {W W' : Own} {H H' : Hp} (f : Fwd W H W' H') (b : Addr) (o : HO) (h : ∀ i, W.O i ≠ some b) (q : H b = some o) (nt : NT o := by first | exact True.intro | assumption) : H' b = some o := f.kp b o h q nt
theorem Fwd.ex {W W' : Own} {H H' : Hp} (f : Fwd W H W' H') {b : Addr} {o : HO} (h : ∀ i, W.O i ≠ some b) (q : H b = some o) : ∃ o', H' b = some o' := by
 by_cases n : NT o
 ·exact ⟨o, f.kp b o h q n⟩
 ·cases o with
  | tbl ps =>
   obtain ⟨m, e⟩ := f.tb b ps q
   exact ⟨_, e⟩
  | _ => exact absurd True.intro n
theorem Fwd.refl (W : Own) (H : Hp) : Fwd W H W H := ⟨rfl, rfl, fun _ _ _ h _ => h, fun i _ h => .inl ⟨i, h⟩, fun _ ps h => ⟨#[], by rw [h]; simp⟩, id⟩
theorem Fwd.trans {W W1 W2 : Own} {H H1 H2 : Hp} (a : Fwd W H W1 H1) (b : Fwd W1 H1 W2 H2) : Fwd W H W2 H2 := by
 refine ⟨b.B.trans a.B, b.S.trans a.S, fun x o n h t => b.kp x o (fun i z => ?_) (a.kp x o n h t) t, fun i x h => ?_, fun c ps h => ?_, fun h => b.ok (a.ok h)⟩
 ·rcases a.new i x z with ⟨j, q⟩ | q
  ·exact n j q
  ·rw [h] at q; cases q
 ·rcases b.new i x h with ⟨j, q⟩ | q
  ·exact a.new j x q
  ·by_cases z : ∃ j, W.O j = some x
   ·exact .inl z
   ·refine .inr ?_
    cases e : H x with
    | none => rfl
    | some o =>
     obtain ⟨o', this⟩ := a.ex (fun i w => z ⟨i, w⟩) e
     rw [this] at q; cases q
 ·obtain ⟨m1, e1⟩ := a.tb c ps h
  obtain ⟨m2, e2⟩ := b.tb c _ e1
  exact ⟨m1 ++ m2, by rw [e2, zAp]⟩
theorem Fwd.same {W : Own} {H H' : Hp} (e : af H H') : Fwd W H W H' := ⟨rfl, rfl, fun _ _ _ h n => e.kp _ _ h n, fun i _ h => .inl ⟨i, h⟩, e.tb, e.ok⟩
theorem af.ins {H₀ H : Hp} (e : af H₀ H) {a : Addr} {o o' : HO} (h0 : H₀ a = none) (ha : H a = some o) (hm : da o) (hn : NT o') : af H₀ (upd H a o') :=
 ⟨fun b u h n => by rw [aj (aA h h0)]; exact e.kp b u h n, fun b ps h => by rw [aj (aA h h0)]; exact e.tb b ps h, fun h => bV.upd hn (.inr ⟨o, ha, hm.ne, hm.nt⟩) (e.ok h)⟩
theorem Fwd.upd {W : Own} {H : Hp} {i : Nat} {a : Addr} {o o' : HO} (oa : W.O i = some a) (ha : H a = some o) (hm : da o) (hn : NT o') : Fwd W H W (upd H a o') :=
 ⟨rfl, rfl, fun b u n h _ => by rw [aj fun e => n i (by rw [e]; exact oa)]; exact h, fun j _ h => .inl ⟨j, h⟩, fun b ps h => ⟨#[], by rw [aj (fun e => by subst e; rw [ha] at h; cases h; exact hm), h]; simp⟩, bV.upd hn (.inr ⟨o, ha, hm.ne, hm.nt⟩)⟩
structure dE where
 nx : Ro -> Prop
 rt : D -> Prop
 bk : Ro -> Prop := fun _ => False
 ct : Ro -> Prop := fun _ => False
abbrev DE := Ro -> (D -> Prop) -> Prop
abbrev DT := Ro -> (Bool -> Prop) -> Prop
abbrev DA := Ro -> (List D -> Prop) -> Prop
abbrev DS := dE -> Ro -> Prop
def DP (X : Cx) (pins : List (Addr × Obj)) (σ : St) (W : Own) (H : Hp) (Q : D -> Prop) (u : Value) (s' : Shared) : Prop :=
 ∃ v H' d, Inv X pins σ H' s' /\ RelV v u /\ af H H' /\ Den X.K W.bad H' d v /\ Q d
def DTP (X : Cx) (pins : List (Addr × Obj)) (σ : St) (H : Hp) (Q : Bool -> Prop) (b : Bool) (s' : Shared) : Prop :=
 ∃ H', Inv X pins σ H' s' /\ af H H' /\ Q b
def DAP (X : Cx) (pins : List (Addr × Obj)) (σ : St) (W : Own) (H : Hp) (Q : List D -> Prop) (us : List Value) (s' : Shared) : Prop :=
 ∃ vs H' ds, Inv X pins σ H' s' /\ Vals vs us /\ af H H' /\ ae X.K W.bad H' ds vs /\ Q ds
def SPD (X : Cx) (pins : List (Addr × Obj)) (W : Own) (H : Hp) (E : dE) (f : Flow) (s' : Shared) : Prop :=
 ∃ W' σ' H', Inv X pins σ' H' s' /\ Fwd W H W' H' ∧
 match f with
 | .next => ∃ ρ', Rel X W' H' σ' ρ' /\ E.nx ρ'
 | .brk => ∃ ρ', Rel X W' H' σ' ρ' /\ E.bk ρ'
 | .cont => ∃ ρ', Rel X W' H' σ' ρ' /\ E.ct ρ'
 | .ret u => ∃ v d, RelV v u /\ Den X.K W'.bad H' d v /\ E.rt d
def PED (X : Cx) (e : Expr) (t : DE) : Prop :=
 ∀ (pins : List (Addr × Obj)) (s : Shared) (σ : St) (H : Hp) (W : Own) (ρ : Ro) (Q : D -> Prop), Inv X pins σ H s -> Rel X W H σ ρ -> t ρ Q →
  wpAny (model X.prog X.w) X.A (eval e X.env) (DP X pins σ W H Q) X.xe s
def PTD (X : Cx) (e : Expr) (t : DT) : Prop :=
 ∀ (pins : List (Addr × Obj)) (s : Shared) (σ : St) (H : Hp) (W : Own) (ρ : Ro) (Q : Bool -> Prop), Inv X pins σ H s -> Rel X W H σ ρ -> t ρ Q →
  wpAny (model X.prog X.w) X.A (isTrue e X.env (eval e X.env)) (DTP X pins σ H Q) X.xe s
def PWD (X : Cx) (e : Expr) (t : DT) : Prop :=
 ∀ (whole : Sem Value) (pins : List (Addr × Obj)) (s : Shared) (σ : St) (H : Hp) (W : Own) (ρ : Ro) (Q : Bool -> Prop), Inv X pins σ H s -> Rel X W H σ ρ -> t ρ Q →
  wpAny (model X.prog X.w) X.A (isTrue e X.env whole) (DTP X pins σ H Q) X.xe s
theorem PWD.pt {X : Cx} {e : Expr} {t : DT} (h : PWD X e t) : PTD X e t := h _
def PAD (X : Cx) (es : List Expr) (t : DA) : Prop :=
 ∀ (pos : Pos) (pins : List (Addr × Obj)) (s : Shared) (σ : St) (H : Hp) (W : Own) (ρ : Ro) (Q : List D -> Prop), Inv X pins σ H s -> Rel X W H σ ρ -> t ρ Q →
  wpAny (model X.prog X.w) X.A (spliced (backTo pos (starEach es X.env))) (DAP X pins σ W H Q) X.xe s
def PSD (X : Cx) (st : Stmt) (t : DS) : Prop :=
 ∀ (pins : List (Addr × Obj)) (s : Shared) (σ : St) (H : Hp) (W : Own) (ρ : Ro) (E : dE), Inv X pins σ H s -> Rel X W H σ ρ -> t E ρ →
  wpAny (model X.prog X.w) X.A (exec st X.env) (SPD X pins W H E) X.xe s
def bA (X : Cx) (st : List Stmt) (t : DS) : Prop :=
 ∀ (pins : List (Addr × Obj)) (s : Shared) (σ : St) (H : Hp) (W : Own) (ρ : Ro) (E : dE), Inv X pins σ H s -> Rel X W H σ ρ -> t E ρ →
  wpAny (model X.prog X.w) X.A (execs st X.env) (SPD X pins W H E) X.xe s
def iR (X : Cx) (t : DE) : TE := fun σ H Q => ∃ W ρ Qd, Rel X W H σ ρ /\ t ρ Qd /\ ∀ v H' d, af H H' -> Den X.K W.bad H' d v -> Qd d -> Q v H'
def tB (X : Cx) (t : DS) : TS := fun D σ H => ∃ W ρ Ed, Rel X W H σ ρ /\ t Ed ρ ∧
 (∀ W' σ' H' ρ', Fwd W H W' H' -> Rel X W' H' σ' ρ' -> Ed.nx ρ' -> D.nx σ' H') ∧
 (∀ W' H' v d, Fwd W H W' H' -> Den X.K W'.bad H' d v -> Ed.rt d -> D.rt v H') ∧
 (∀ W' σ' H' ρ', Fwd W H W' H' -> Rel X W' H' σ' ρ' -> Ed.bk ρ' -> D.bk σ' H') ∧
 (∀ W' σ' H' ρ', Fwd W H W' H' -> Rel X W' H' σ' ρ' -> Ed.ct ρ' -> D.ct σ' H')
section
variable {X : Cx}
theorem PED.pe {e : Expr} {t : DE} (h : PED X e t) : PE X e (iR X t) := by
 intro pins s σ H Q I q
 obtain ⟨W, ρ, Qd, r, ht, k⟩ := q
 exact thn (h pins s σ H W ρ Qd I r ht) fun u s1 ⟨v, H', d, I1, rv, e1, hd, qd⟩ => ⟨v, H', I1, rv, k v H' d e1 hd qd⟩
theorem bA.ps {st : List Stmt} {t : DS} (h : bA X st t) : PSs X st (tB X t) := by
 intro pins s σ H D I q
 obtain ⟨W, ρ, Ed, r, ht, k1, k2, k3, k4⟩ := q
 refine thn (h pins s σ H W ρ Ed I r ht) fun f s1 ⟨W', σ', H', I1, fw, q⟩ => ?_
 cases f with
 | next => obtain ⟨ρ', r', q'⟩ := q; exact ⟨σ', H', I1, k1 W' σ' H' ρ' fw r' q'⟩
 | brk => obtain ⟨ρ', r', q'⟩ := q; exact ⟨σ', H', I1, k3 W' σ' H' ρ' fw r' q'⟩
 | cont => obtain ⟨ρ', r', q'⟩ := q; exact ⟨σ', H', I1, k4 W' σ' H' ρ' fw r' q'⟩
 | ret u => obtain ⟨v, d, rv, hd, q'⟩ := q; exact ⟨v, σ', H', I1, rv, k2 W' H' v d fw hd q'⟩
theorem PED.of {e : Expr} {te : TE} {t : DE} (h : PE X e te) (k : ∀ σ H W ρ Q, Rel X W H σ ρ -> t ρ Q -> te σ H fun v H' => af H H' /\ ∃ d, Den X.K W.bad H' d v /\ Q d) : PED X e t := by
 intro pins s σ H W ρ Q I r ht
 exact thn (h pins s σ H _ I (k σ H W ρ Q r ht)) fun u s1 ⟨v, H', I1, rv, e1, d, hd, q⟩ => ⟨v, H', d, I1, rv, e1, hd, q⟩
end
section
variable {X : Cx} {a b c : Expr} {ta tb : DE} {pos : Pos}
def lV (i : Nat) : DE := fun ρ Q => ∃ d, ρ[i]? = some (some (.val d)) /\ Q d
def dC (d : D) : DE := fun _ Q => Q d
theorem dv (i : Nat) {x : Str} {pos : Pos} (hN : X.N[i]? = some x := by rfl) (hv : Vis X.env.scope x := by first | exact Or.inl rfl | exact Or.inr (Or.inl rfl) | exact Or.inr (Or.inr rfl)) (hd : (x == ("__debug__" : Str)) = false := by decide)
  (hcd : (x == ("__classdict__" : Str)) = false := by decide) : PED X (.Name x pos) (lV i) :=
 PED.of (eI hN hv hd hcd) fun σ H W ρ Q r ht => by
  obtain ⟨d, e, q⟩ := ht
  obtain ⟨v, e1, e2⟩ := r.val i d e
  exact ⟨v, e1, af.refl H, d, e2, q⟩
theorem ah {i j pos} : PED X (.Constant (.int i) j pos) (dC (.int i)) := PED.of sx fun _ H _ _ _ _ q => ⟨af.refl H, _, Den.int i, q⟩
theorem bK {i j pos} : PED X (.Constant (.bool i) j pos) (dC (.bl i)) := PED.of tL fun _ H _ _ _ _ q => ⟨af.refl H, _, Den.bl i, q⟩
theorem dh {j pos} : PED X (.Constant .none j pos) (dC .non) := PED.of sy fun _ H _ _ _ _ q => ⟨af.refl H, _, Den.non, q⟩
theorem bQ {x j pos} : PED X (.Constant (.str x) j pos) (dC (.str x)) := PED.of sA fun _ H _ _ _ _ q => ⟨af.refl H, _, Den.str x, q⟩
abbrev RD2 := D -> D -> (D -> Prop) -> Prop
def OpD (X : Cx) (f : Value -> Value -> Sem Value) (r : RD2) : Prop :=
 ∀ (pins : List (Addr × Obj)) (s : Shared) (σ : St) (H : Hp) (W : Own) (x y : D) (v u : V) (vv uu : Value) (Q : D -> Prop), Inv X pins σ H s -> (∀ t a, W.bad t a -> ∃ o, H a = some o) -> RelV v vv -> RelV u uu -> Den X.K W.bad H x v -> Den X.K W.bad H y u -> r x y Q →
  wpAny (model X.prog X.w) X.A (f vv uu) (DP X pins σ W H Q) X.xe s
def dOp (r : RD2) (ta tb : DE) : DE := fun ρ Q => ta ρ fun x => tb ρ fun y => r x y Q
theorem pL (ha : PED X a ta) (hb : PED X b tb) {pins : List (Addr × Obj)} {s : Shared} {σ : St} {H : Hp} {W : Own} {ρ : Ro} {R : D -> D -> Prop} (I : Inv X pins σ H s) (r : Rel X W H σ ρ) (h : ta ρ fun x => tb ρ fun y => R x y)
  {α : Type} {Q : α -> Shared -> Prop} {f : Value -> Value -> Sem α}
  (hf : ∀ vv uu s2 v u x y H2, Inv X pins σ H2 s2 -> af H H2 -> RelV v vv -> RelV u uu -> Den X.K W.bad H2 x v -> Den X.K W.bad H2 y u -> R x y -> wpAny (model X.prog X.w) X.A (f vv uu) Q X.xe s2) :
  wpAny (model X.prog X.w) X.A (eval a X.env) (fun v s₁ => wpAny (model X.prog X.w) X.A (eval b X.env) (fun u s₂ => wpAny (model X.prog X.w) X.A (f v u) Q X.xe s₂) X.xe s₁) X.xe s := by
 refine thn (ha pins s σ H W ρ _ I r h) fun vv s1 ⟨v, H1, x, I1, rv, e1, hx, q1⟩ => ?_
 refine thn (hb pins s1 σ H1 W ρ _ I1 (r.same e1) q1) fun uu s2 ⟨u, H2, y, I2, ru, e2, hy, q2⟩ => ?_
 exact hf vv uu s2 v u x y H2 I2 (e1.trans e2) rv ru (hx.same e2) hy q2
theorem DP.up {pins : List (Addr × Obj)} {σ : St} {W : Own} {H H1 : Hp} {Q : D -> Prop} {u : Value} {s' : Shared} (e : af H H1) (h : DP X pins σ W H1 Q u s') : DP X pins σ W H Q u s' := by
 obtain ⟨v, H', d, I, r, e1, hd, q⟩ := h
 exact ⟨v, H', d, I, r, e.trans e1, hd, q⟩
theorem ar {op : Operator} {r : RD2} (ho : OpD X (binaryOp op) r) (ha : PED X a ta) (hb : PED X b tb) : PED X (.BinOp a op b pos) (dOp r ta tb) := by
 intro pins s σ H W ρ Q I rr h
 refine wpAny_BinOp (pL ha hb I rr h fun vv uu s2 v u x y H2 I2 e rv ru hx hy q => ?_)
 exact thn (ho pins s2 σ H2 W x y v u vv uu Q I2 (rr.same e).tracked rv ru hx hy q) fun _ _ z => z.up e
theorem sS {op : UnaryOp} {r : V -> Hp -> VK -> Prop} {rd : D -> (D -> Prop) -> Prop} (ho : UnR X (unaryOp op) r) (ha : PED X a ta)
  (k : ∀ P H d v Q, Den X.K P H d v -> rd d Q -> r v H fun v' H' => af H H' /\ ∃ d', Den X.K P H' d' v' /\ Q d') : PED X (.UnaryOp op a pos) (fun ρ Q => ta ρ fun x => rd x Q) := by
 intro pins s σ H W ρ Q I rr h
 refine UnaryOp_ (thn (ha pins s σ H W ρ _ I rr h) fun vv s1 ⟨v, H1, x, I1, rv, e1, hx, q1⟩ => ?_)
 exact thn (ho pins s1 σ H1 v vv _ I1 rv (k _ H1 x v Q hx q1)) fun u s2 ⟨w', H2, I2, r2, e2, d, hd, q2⟩ => ⟨w', H2, d, I2, r2, e1.trans e2, hd, q2⟩
def oK (ta : DE) : DE := fun ρ Q => ta ρ fun x => ∃ i, x = .int i /\ Q (.int (-i))
theorem jd (ha : PED X a ta) : PED X (.UnaryOp .USub a pos) (oK ta) :=
 sS (rd := fun x Q => ∃ i, x = .int i /\ Q (.int (-i))) sO ha fun P H d v Q hd ⟨i, e, q⟩ => by
  subst e
  exact ⟨i, hd.int_, af.refl H, _, Den.int _, q⟩
theorem OpD.of {f : Value -> Value -> Sem Value} {r : R2} {rd : RD2} (h : OpR X f r) (k : ∀ P H x y v u Q, Den X.K P H x v -> Den X.K P H y u -> rd x y Q -> r v u H fun v' H' => af H H' /\ ∃ d', Den X.K P H' d' v' /\ Q d') : OpD X f rd := by
 intro pins s σ H W x y v u vv uu Q I _ rv ru hx hy q
 exact thn (h pins s σ H v u vv uu _ I rv ru (k _ H x y v u Q hx hy q)) fun _ s2 ⟨w', H2, I2, r2, e2, d, hd, q2⟩ => ⟨w', H2, d, I2, r2, e2, hd, q2⟩
def rdI (C : Int -> Int -> Prop) (g : Int -> Int -> D) : RD2 := fun x y Q => ∃ i j, x = .int i /\ y = .int j /\ C i j /\ Q (g i j)
def dY (g : Int -> Int -> D) : RD2 := fun x y Q => ∃ i j, x = .int i /\ y = .int j /\ Q (g i j)
theorem OpD.ofI {f : Value -> Value -> Sem Value} {C : Int -> Int -> Prop} {g : Int -> Int -> Int} (h : OpR X f (rI C fun i j => .int (g i j))) : OpD X f (rdI C fun i j => .int (g i j)) :=
 OpD.of h fun P H x y v u Q hx hy ⟨i, j, e1, e2, hc, q⟩ => by
  subst e1 e2
  exact ⟨i, j, hx.int_, hy.int_, hc, af.refl H, _, Den.int _, q⟩
theorem OpD.ofI0 {f : Value -> Value -> Sem Value} {g : Int -> Int -> Int} (h : OpR X f (rI0 fun i j => .int (g i j))) : OpD X f (dY fun i j => .int (g i j)) :=
 OpD.of h fun P H x y v u Q hx hy ⟨i, j, e1, e2, q⟩ => by
  subst e1 e2
  exact ⟨i, j, hx.int_, hy.int_, af.refl H, _, Den.int _, q⟩
theorem OpD.ofB0 {f : Value -> Value -> Sem Value} {g : Int -> Int -> Bool} (h : OpR X f (rI0 fun i j => .bl (g i j))) : OpD X f (dY fun i j => .bl (g i j)) :=
 OpD.of h fun P H x y v u Q hx hy ⟨i, j, e1, e2, q⟩ => by
  subst e1 e2
  exact ⟨i, j, hx.int_, hy.int_, af.refl H, _, Den.bl _, q⟩
theorem rZ : OpD X (binaryOp .Add) (dY fun i j => .int (i + j)) := OpD.ofI0 sj
theorem cw : OpD X (binaryOp .Sub) (dY fun i j => .int (i - j)) := OpD.ofI0 sv
theorem tF : OpD X (compareOp .Lt) (dY fun i j => .bl (decide (i < j))) := OpD.ofB0 tJ
theorem qi : OpD X (compareOp .LtE) (dY fun i j => .bl (decide (i <= j))) := OpD.ofB0 tI
theorem tE : OpD X (compareOp .Gt) (dY fun i j => .bl (decide (j < i))) := OpD.ofB0 tH
def Bd (n : Nat) (x : Int) : Prop := x.natAbs < 2 ^ n
theorem Bd.mono {m n : Nat} {x : Int} (h : Bd m x) (l : m <= n) : Bd n x := zAG h (Nat.pow_le_pow_right (by decide) l)
theorem Bd.sub {m : Nat} {x y : Int} (h : Bd m x) (h' : Bd m y) : Bd (m + 1) (x - y) := by
 unfold Bd at *
 rw [zAg]
 have := Int.natAbs_sub_le x y
 omega
theorem Bd.bits {n : Nat} {x : Int} (h : Bd n x) : Builtin.Int.intBits x <= n := by
 unfold Bd at h
 unfold Builtin.Int.intBits
 split
 ·exact zAZ _
 ·rename_i hz
  have hp : x.natAbs ≠ 0 := by
   intro e
   apply hz
   have : x = 0 := Int.natAbs_eq_zero.mp e
   simp [this]
  have := (Nat.log2_lt hp).mpr h
  omega
def CM (i j : Int) : Prop := Bd 64 i ∨ Bd 64 j ∨ (Bd 100000 i /\ Bd 100000 j)
theorem CM.ok {i j : Int} (h : CM i j) : IntMulOk i j := by
 rcases h with h | h | ⟨h, h'⟩
 ·exact .of_left h.bits
 ·exact .of_right h.bits
 ·exact .of_bits (zAa h.bits (by decide)) (zAa h'.bits (by decide))
theorem qP : OpR X (binaryOp .Mult) (rI CM fun i j => .int (i * j)) := opI fun _ _ _ _ _ _ _ hc q => mul_int q hc.ok
theorem fE : OpD X (binaryOp .Mult) (rdI CM fun i j => .int (i * j)) := OpD.ofI qP
def CD (_ : Int) (j : Int) : Prop := j ≠ 0 /\ Bd 8000 j
theorem CD.noPy {i j : Int} (h : CD i j) : Builtin.divisionGoesByPylong i j = false := by
 refine PyProof.noPylong_of_log2 ?_
 have hz : j.natAbs ≠ 0 := fun e => h.1 (Int.natAbs_eq_zero.mp e)
 have := (Nat.log2_lt hz).mpr h.2
 omega
theorem pA : OpR X (binaryOp .FloorDiv) (rI CD fun i j => .int (i.fdiv j)) := opI fun _ _ _ _ _ _ _ hc q => floordiv_int hc.1 q (.inl hc.noPy)
theorem cH : OpD X (binaryOp .FloorDiv) (rdI CD fun i j => .int (i.fdiv j)) := OpD.ofI pA
theorem aT : OpD X (binaryOp .Mod) (rdI (fun _ j => j ≠ 0) fun i j => .int (i.fmod j)) := OpD.ofI qO
theorem cu : OpD X (binaryOp .Pow) (rdI lB fun i j => .int (i ^ j.toNat)) := OpD.ofI sr
def dB (t : DE) : DT := fun ρ Q => t ρ fun x => ∃ k, x = .bl k /\ Q k
theorem bC {op : CmpOp} {r : RD2} (ho : OpD X (compareOp op) r) (ha : PED X a ta) (hb : PED X b tb) (hm : behindInMarks op b = false := by first | exact pq _ (by decide) (by decide) | rfl) : PTD X (.Compare a [op] [b] pos) (dB (dOp r ta tb)) := by
 intro pins s σ H W ρ Q I rr h
 refine wpAny_isTrue_Compare1 (thn (ha pins s σ H W ρ _ I rr h) fun vv s1 ⟨v, H1, x, I1, rv, e1, hx, q1⟩ => thn (hb pins s1 σ H1 W ρ _ I1 (rr.same e1) q1) fun uu s2 ⟨u, H2, y, I2, ru, e2, hy, q2⟩ =>
  thn (ho pins s2 σ H2 W x y v u vv uu _ I2 ((rr.same e1).same e2).tracked rv ru (hx.same e2) hy q2) fun c s3 ⟨z, H3, d, I3, r3, e3, hd, k, ek, q3⟩ => ?_) hm
 subst ek
 have hz := hd.bl_
 subst hz
 cases r3
 exact wpAny_truthy_bool ⟨H3, I3, e1.trans (e2.trans e3), q3⟩
theorem aS {e : Expr} {t : DE} (h : PED X e t) (he : ∀ whole, isTrue e X.env whole = (do let v ← whole; standAt e.pos; holding [v] (truthy v)) := by intro _; rfl) : PTD X e (dB t) := by
 intro pins s σ H W ρ Q I rr hw
 refine isTrue_plain (thn (h pins s σ H W ρ _ I rr hw) fun vv s1 ⟨v, H1, x, I1, rv, e1, hx, k, ek, q⟩ => ?_) (he _)
 subst ek
 have hz := hx.bl_
 subst hz
 cases rv
 exact wpAny_truthy_bool ⟨H1, I1, e1, q⟩
variable {tA tB' : DT} {rest : List Expr}
def rq (t u : DT) : DT := fun ρ Q => t ρ fun c => if c = true then u ρ Q else Q false
def dOr (t u : DT) : DT := fun ρ Q => t ρ fun c => if c = true then Q true else u ρ Q
def oO (t : DT) : DT := fun ρ Q => t ρ fun c => Q (!c)
theorem cP (ha : PTD X a tA) : PWD X (.BoolOp .Or [a] pos) tA := by
 intro wh pins s σ H W ρ Q I rr h
 refine isTrue_or (thn (ha pins s σ H W ρ Q I rr h) fun c s1 e => ?_)
 cases c with
 | false => exact isTrue_or_nil e
 | true => exact e
theorem c8 (ha : PTD X a tA) (hb : PWD X (.BoolOp .Or (b :: rest) pos) tB') : PWD X (.BoolOp .Or (a :: b :: rest) pos) (dOr tA tB') := by
 intro wh pins s σ H W ρ Q I rr h
 refine isTrue_or (thn (ha pins s σ H W ρ _ I rr h) fun c s1 ⟨H1, I1, e1, q1⟩ => ?_)
 cases c with
 | true => exact ⟨H1, I1, e1, q1⟩
 | false => exact thn (hb wh pins s1 σ H1 W ρ Q I1 (rr.same e1) q1) fun _ _ ⟨H2, I2, e2, q2⟩ => ⟨H2, I2, e1.trans e2, q2⟩
theorem aZ (ha : PTD X a tA) : PTD X (.UnaryOp .Not a pos) (oO tA) := by
 intro pins s σ H W ρ Q I rr h
 exact isTrue_not (ha pins s σ H W ρ (fun c => Q (!c)) I rr h)
def lG (ta tb : DE) : DE := fun ρ Q => ta ρ fun x => ∃ c, x = .bl c /\ if c = true then tb ρ Q else Q (.bl false)
def rA (ta tb : DE) : DE := fun ρ Q => ta ρ fun x => ∃ c, x = .bl c /\ if c = true then Q (.bl true) else tb ρ Q
def lN (ta : DE) : DE := fun ρ Q => ta ρ fun x => ∃ c, x = .bl c /\ Q (.bl (!c))
theorem fx {op} {t : DE} (h : PED X a t) : PED X (.BoolOp op [a] pos) t := fun pins s σ H W ρ Q I rr hw => BoolOp_one (h pins s σ H W ρ Q I rr hw)
theorem eB (ha : PED X a ta) (hb : PED X (.BoolOp .And (b :: rest) pos) tb) : PED X (.BoolOp .And (a :: b :: rest) pos) (lG ta tb) := by
 intro pins s σ H W ρ Q I rr h
 refine BoolOp_and (thn (ha pins s σ H W ρ _ I rr h) fun vv s1 ⟨v, H1, x, I1, rv, e1, hx, c, ec, q1⟩ => ?_)
 subst ec
 have hz := hx.bl_
 subst hz
 cases rv
 refine wpAny_truthy_bool ?_
 cases c with
 | true => exact thn (hb pins s1 σ H1 W ρ Q I1 (rr.same e1) q1) fun _ _ z => z.up e1
 | false => exact ⟨.bl false, H1, _, I1, rfl, e1, Den.bl _, q1⟩
theorem fv (ha : PED X a ta) : PED X (.UnaryOp .Not a pos) (lN ta) := by
 intro pins s σ H W ρ Q I rr h
 refine UnaryOp_ (thn (ha pins s σ H W ρ _ I rr h) fun vv s1 ⟨v, H1, x, I1, rv, e1, hx, c, ec, q1⟩ => ?_)
 subst ec
 have hz := hx.bl_
 subst hz
 cases rv
 exact not_of (wpAny_truthy_bool ⟨.bl (!c), H1, _, I1, rfl, e1, Den.bl _, q1⟩)
def dIf (t : DT) (ta tb : DE) : DE := fun ρ Q => t ρ fun c => if c = true then ta ρ Q else tb ρ Q
def pB : RD2 := fun x y Q => ∃ ds i d, (x = .tup ds ∨ ∃ t, x = .lst t ds) /\ y = .int i /\ atI ds i = some d /\ Q d
theorem iY {K : PySem.W.Frag} {P : Bool -> Addr -> Prop} {H : Hp} {ds : List D} {vs : List V} {i : Int} {d : D} (h : ae K P H ds vs) (e : atI ds i = some d) : ∃ v, atI vs i = some v /\ Den K P H d v := by
 unfold atI at e ⊢
 rw [h.len]
 cases q : ixN ds.length i with
 | none => rw [q] at e; cases e
 | some j =>
  rw [q] at e
  exact h.get e
theorem bq (ha : PED X a ta) (hb : PED X b tb) (hs : qp b := by intro _ _; rfl) : PED X (.Subscript a b pos) (dOp pB ta tb) := by
 intro pins s σ H W ρ Q I rr h
 refine Subscript_ (pL ha hb I rr h fun vv uu s2 v u x y H2 I2 e rv ru hx hy q => ?_)
 obtain ⟨ds, i, d, ex, ey, ei, q⟩ := q
 subst ey
 have hu := hy.int_
 subst hu
 have fin : ∀ (v' : V), Den X.K W.bad H2 d v' -> af H2 H2 /\ ∃ d', Den X.K W.bad H2 d' v' /\ Q d' := fun v' hd => ⟨af.refl _, d, hd, q⟩
 rcases ex with ex | ⟨tg, ex⟩
 ·subst ex
  obtain ⟨p, vs, ev, hq, hd⟩ := hx.tup_
  subst ev
  obtain ⟨v', e1, e2⟩ := iY hd ei
  exact thn (rO a b pins s2 σ H2 _ _ vv uu (fun v' H' => af H2 H' /\ ∃ d', Den X.K W.bad H' d' v' /\ Q d') I2 rv ru ⟨p, vs, i, v', rfl, rfl, hq.w, e1, fin v' e2⟩ (hs _ _))
   fun _ s3 ⟨w', H3, I3, r3, e3, d', hd', q'⟩ => ⟨w', H3, d', I3, r3, e.trans e3, hd', q'⟩
 ·subst ex
  obtain ⟨p, vs, ev, _, hq, hd⟩ := hx.lst_
  subst ev
  obtain ⟨v', e1, e2⟩ := iY hd ei
  exact thn (qL a b pins s2 σ H2 _ _ vv uu (fun v' H' => af H2 H' /\ ∃ d', Den X.K W.bad H' d' v' /\ Q d') I2 rv ru ⟨p, vs, i, v', rfl, rfl, hq, e1, fin v' e2⟩ (hs _ _))
   fun _ s3 ⟨w', H3, I3, r3, e3, d', hd', q'⟩ => ⟨w', H3, d', I3, r3, e.trans e3, hd', q'⟩
end
section
variable {X : Cx} {e : Expr} {es : List Expr} {te : DE} {t : DA} {pos : Pos}
def oN : DA := fun _ Q => Q []
def lH (ta : DE) (tr : DA) : DA := fun ρ Q => ta ρ fun x => tr ρ fun xs => Q (x :: xs)
theorem ai : PAD X [] oN := fun _ _ _ _ H W ρ Q I _ h => Calls.spliced_nil ⟨[], H, [], I, .nil, af.refl H, ae.nil, h⟩
theorem aa (ha : PED X e te) (hr : PAD X es t) (hs : starEach (e :: es) X.env = (false, eval e X.env) :: starEach es X.env := by rfl) : PAD X (e :: es) (lH te t) := by
 intro pos pins s σ H W ρ Q I rr h
 rw [hs]
 show wpAny _ _ (spliced ((false, eval e X.env) :: backTo pos (starEach es X.env))) _ _ s
 refine Calls.spliced_cons (thn (ha pins s σ H W ρ _ I rr h) fun u s1 ⟨v, H1, x, I1, r1, e1, hx, q1⟩ => ?_)
 exact thn (hr pos pins s1 σ H1 W ρ _ I1 (rr.same e1) q1) fun us s2 ⟨vs, H2, xs, I2, r2, e2, hxs, q2⟩ => ⟨v :: vs, H2, x :: xs, I2, .cons r1 r2, e1.trans e2, ae.cons (hx.same e2) hxs, q2⟩
theorem af.upd {H : Hp} {p : Addr} {o : HO} (h : H p = none) (n : NT o := by exact True.intro) : af H (upd H p o) := ⟨fun b u e _ => by rw [aj (aA e h)]; exact e, fun b ps e => ⟨#[], by rw [aj (aA e h), e]; simp⟩, bV.upd n (.inl h)⟩
def oS (t : DA) : DE := fun ρ Q => t ρ fun ds => ds.length <= sizeLine /\ Q (.tup ds)
def oJ (t : DA) : DE := fun ρ Q => t ρ fun ds => ds.length <= sizeLine /\ Q (.lst true ds)
theorem bR {x1} (h : PAD X es t) : PED X (.Tuple es x1 pos) (oS t) := by
 intro pins s σ H W ρ Q I rr hq
 refine wpAny_Tuple_spliced (thn (h pos pins s σ H W ρ _ I rr hq) fun us s1 ⟨vs, H1, ds, I1, r, e1, hd, z, q⟩ => ?_)
 rw [<- hd.len] at z
 refine ⟨by rw [<- r.length]; exact z, ?_⟩
 have hf : H1 s1.heap.objs.size = none := I1.hok.fresh (zAH _)
 refine ⟨.ref s1.heap.objs.size, L2.upd H1 s1.heap.objs.size (.tup vs), _, I1.laid (t' := s1.toks) (fun b u e => zAB _ e) (zAH _) ⟨z, us, r, ⟨_, zAJ _ rfl, rfl, _, rfl⟩⟩, rfl, e1.trans (af.upd hf), Den.tup (SqT.of aw) (hd.same (af.upd hf)), q⟩
theorem Inv.kfresh {pins : List (Addr × Obj)} {σ : St} {H : Hp} {s : Shared} (I : Inv X pins σ H s) : X.K.lookup s.heap.objs.size = none := by
 cases e : X.K.lookup s.heap.objs.size with
 | none => rfl
 | some o => exact absurd (zAC (I.kIn _ _ e)) (zAe _)
theorem aP (h : PAD X es t) : PED X (.List es pos) (oJ t) := by
 intro pins s σ H W ρ Q I rr hq
 refine wpAny_List_spliced (thn (h pos pins s σ H W ρ _ I rr hq) fun us s1 ⟨vs, H1, ds, I1, r, e1, hd, z, q⟩ => ?_)
 rw [<- hd.len] at z
 refine ⟨by rw [<- r.length]; exact z, ?_⟩
 have hf : H1 s1.heap.objs.size = none := I1.hok.fresh (zAH _)
 exact ⟨.ref s1.heap.objs.size, L2.upd H1 s1.heap.objs.size (.lst vs), _, I1.laid (t' := s1.toks) (fun b u e => zAB _ e) (zAH _) ⟨z, us, 0, r, zAJ _ rfl⟩, rfl, e1.trans (af.upd hf),
  Den.lst ((rr.same e1).fresh hf) (.new aw (Inv.kfresh I1)) (hd.same (af.upd hf)), q⟩
end
abbrev DSp := List D -> (D -> Prop) -> (Value -> Prop) -> Prop
def aM (K : PySem.W.Frag) (sp : DSp) : Sp := fun vs H Q E => ∃ (P : Addr -> Prop) (ds : List D) (Qd : D -> Prop) (Ed : Value -> Prop), de K H /\ (∀ a, P a -> ∃ o, H a = some o) /\ ae K (fun t a => t = true ∨ P a) H ds vs /\ sp ds Qd Ed ∧
 (∀ d v H', af H H' -> Den K (fun t a => P a ∨ (t = true /\ ∃ o, H a = some o)) H' d v -> Qd d -> Q v H') /\ ∀ c a H', af H H' -> Ed c -> E c a H'
mutual
def av : D -> D
 | .tup ds => .tup (ay ds)
 | .lst _ ds => .lst false (ay ds)
 | .obj C ns ds => .obj C ns (ay ds)
 | .dic => .dic
 | .non => .non | .bl b => .bl b | .int i => .int i | .str x => .str x | .exc c => .exc c
def ay : List D -> List D
 | [] => []
 | d :: ds => av d :: ay ds
end
section
variable {K : PySem.W.Frag} {P : Bool -> Addr -> Prop} {P' : Addr -> Prop} {H : Hp}
mutual
theorem Den.av (h : ∀ t a, P' a -> P t a) : ∀ (d : D) (v : V), Den K P H d v -> Den K (fun t a => t = true ∨ P' a) H (PD.av d) v
 | .non, _, q => by simpa only [Den, PD.av] using q
 | .bl _, _, q => by simpa only [Den, PD.av] using q
 | .int _, _, q => by simpa only [Den, PD.av] using q
 | .str _, _, q => by simpa only [Den, PD.av] using q
 | .exc _, _, q => by simpa only [Den, PD.av] using q
 | .tup ds, _, q => by
  simp only [Den, PD.av] at q ⊢
  obtain ⟨a, vs, e, q1, q2⟩ := q
  exact ⟨a, vs, e, q1, ae.av h ds vs q2⟩
 | .obj C ns ds, _, q => by
  simp only [Den, PD.av] at q ⊢
  obtain ⟨a, dx, vs, e, q1, l, k, q2⟩ := q
  exact ⟨a, dx, vs, e, q1, l, k, ae.av h ds vs q2⟩
 | .dic, _, q => by simpa only [Den, PD.av] using q
 | .lst t ds, _, q => by
  simp only [Den, PD.av] at q ⊢
  obtain ⟨a, vs, e, p, q1, q2⟩ := q
  exact ⟨a, vs, e, fun z => z.elim (fun z => by cases z) fun z => p (h t a z), .any q1.1, ae.av h ds vs q2⟩
theorem ae.av (h : ∀ t a, P' a -> P t a) : ∀ (ds : List D) (vs : List V), ae K P H ds vs -> ae K (fun t a => t = true ∨ P' a) H (PD.ay ds) vs
 | [], _, q => by simpa only [ae, PD.ay] using q
 | d :: ds, _, q => by
  simp only [ae, PD.ay] at q ⊢
  obtain ⟨v, r, e, h1, h2⟩ := q
  exact ⟨v, r, e, Den.av h d v h1, ae.av h ds r h2⟩
end
end
theorem Den.back {K : PySem.W.Frag} {W : Own} {H H' : Hp} {d : D} {v : V} (tr : ∀ t a, W.bad t a -> ∃ o, H a = some o) (h : Den K (fun t a => W.bad false a ∨ (t = true /\ ∃ o, H a = some o)) H' d v) : Den K W.bad H' d v :=
 h.fewer fun t a z => by
  cases t with
  | false => exact .inl z
  | true => exact .inr ⟨rfl, tr true a z⟩
section
variable {X : Cx} {CX : CXT} {k : Nat} {f : Addr} {fd : FuncData} {ps : List Str} {sp : DSp} {x : Str} {p pos : Pos} {e : Expr} {es : List Expr} {t : DA}
def iO (sp : DSp) (dds : List D) (t : DA) : DE := fun ρ Q => t ρ fun ds => sp (ay ds ++ dds) Q fun _ => False
def fB : D -> V
 | .non => .non | .bl b => .bl b | .int i => .int i | .str x => .str x | _ => .non
def gI : D -> Prop
 | .tup _ => False | .lst _ _ => False | .exc _ => False | .obj _ _ _ => False | .dic => False | _ => True
theorem ae.hW {K : PySem.W.Frag} {P : Bool -> Addr -> Prop} {H : Hp} : ∀ {dds : List D}, (∀ d ∈ dds, gI d) -> ae K P H dds (dds.map fB)
 | [], _ => ae.nil
 | d :: r, h => by
  refine ae.cons ?_ (ae.hW fun x hx => h x (zAb _ hx))
  have := h d zAf
  cases d with
  | non => exact Den.non
  | bl b => exact Den.bl b
  | int i => exact Den.int i
  | str x => exact Den.str x
  | tup _ => exact this.elim
  | lst _ _ => exact this.elim
  | exc _ => exact this.elim
  | obj _ _ _ => exact this.elim
  | dic => exact this.elim
theorem tP {dds : List D} {dsv : List Value} (F : aE X.prog X.w X.K X.mg X.base CX k f fd ps (aM X.K sp)) (hr : aH k X.A) (hb : Binds X.K fd ps dsv) (hd : Vals (dds.map fB) dsv) (hs : ∀ d ∈ dds, gI d) (hx : Passes CX X E0)
  {pins : List (Addr × Obj)} {σ : St} {H : Hp} {s : Shared} {W : Own} {ρ : Ro} {us : List Value} {vs : List V} {ds : List D} {Q : D -> Prop} (I : Inv X pins σ H s) (rr : Rel X W H σ ρ) (r : Vals vs us) (hds : ae X.K W.bad H ds vs)
  (q : sp (ay ds ++ dds) Q fun _ => False) : wpAny (model X.prog X.w) X.A (call (.ref f) us) (DP X pins σ W H Q) X.xe s := by
 refine thn (jM (Q := fun v H' => af H H' /\ ∃ d, Den X.K W.bad H' d v /\ Q d) F hr hb hd hx I r ⟨W.bad false, ay ds ++ dds, Q, fun _ => False, rr.tab, rr.tracked false, (ae.av (fun _ _ => Own.bad_up) ds vs hds).append (ae.hW hs), q, fun d v H' e h1 h2 => ⟨e, d, Den.back rr.tracked h1, h2⟩, fun _ _ _ _ z => z.elim⟩)
  fun u s2 ⟨v, H2, I2, r2, e2, d, h1, h2⟩ => ⟨v, H2, d, I2, r2, e2, h1, h2⟩
theorem oV {dds : List D} {dsv : List Value} (F : aE X.prog X.w X.K X.mg X.base CX k f fd ps (aM X.K sp)) (hr : aH k X.A) (hg : Gl X x) (hm : X.mg x = some (.ref f)) (hk : PySem.W.keepIn X.K (.ref f) = true) (hb : Binds X.K fd ps dsv) (hd : Vals (dds.map fB) dsv) (hs : ∀ d ∈ dds, gI d) (hx : Passes CX X E0)
  (ha : PAD X (e :: es) t) (hdb : (x == ("__debug__" : Str)) = false := by decide) (he : starEach (e :: es) X.env = (false, eval e X.env) :: starEach es X.env := by rfl) (hpl : (backTo pos (starEach es X.env)).any (·.1) = false := by rfl) :
  PED X (.Call (.Name x p) (e :: es) [] pos) (iO sp dds t) := by
 intro pins s σ H W ρ Q I rr h
 refine wpAny_Call_Name_kw (ck I hg hm ?_ hdb)
 refine PySem.W.callWith_K (h₀ := X.base) I.ok.mod.kin hk (thn (ha pos pins s σ H W ρ _ I rr h) fun us s1 ⟨vs, H1, ds, I1, r, e1, hds, q⟩ => ⟨I1.kIn, ?_⟩) he hpl
 exact thn (tP F hr hb hd hs hx I1 (rr.same e1) r hds q) fun _ _ z => z.up e1
def dCB (r : List D -> (D -> Prop) -> Prop) (t : DA) : DE := fun ρ Q => t ρ fun ds => r ds Q
def dD (X : Cx) (f : Value) (r : List D -> (D -> Prop) -> Prop) : Prop :=
 ∀ (pins : List (Addr × Obj)) (s : Shared) (σ : St) (H : Hp) (W : Own) (ds : List D) (vs : List V) (us : List Value) (Q : D -> Prop), Inv X pins σ H s -> (∀ t a, W.bad t a -> ∃ o, H a = some o) -> Vals vs us -> ae X.K W.bad H ds vs -> r ds Q →
  wpAny (model X.prog X.w) X.A (call f us) (DP X pins σ W H Q) X.xe s
theorem dD.of {f : Value} {r : List V -> Hp -> VK -> Prop} {rd : List D -> (D -> Prop) -> Prop} (h : c7 X f r) (k : ∀ P H ds vs Q, (∀ t a, P t a -> ∃ o, H a = some o) -> ae X.K P H ds vs -> rd ds Q -> r vs H fun v' H' => af H H' /\ ∃ d', Den X.K P H' d' v' /\ Q d') : dD X f rd := by
 intro pins s σ H W ds vs us Q I tr r hd q
 exact thn (h pins s σ H vs us _ I r (k _ H ds vs Q tr hd q)) fun _ s2 ⟨w', H2, I2, r2, e2, d, hd, q2⟩ => ⟨w', H2, d, I2, r2, e2, hd, q2⟩
variable {id T : String} {r : List D -> (D -> Prop) -> Prop}
theorem bL (hc : dD X (.builtin id) r) (hg : Gl X x) (hm : X.mg x = none) (hv : bootBuiltins x = some (.builtin id)) (ha : PAD X (e :: es) t) (hn : x ≠ "__name__" := by decide) (hdb : (x == ("__debug__" : Str)) = false := by decide)
  (hst : starEach (e :: es) X.env = (false, eval e X.env) :: starEach es X.env := by rfl) (hpl : (backTo pos (starEach es X.env)).any (·.1) = false := by rfl) :
  PED X (.Call (.Name x p) (e :: es) [] pos) (dCB r t) := by
 intro pins s σ H W ρ Q I rr h
 refine wpAny_Call_Name_kw (cq I hg hm hv ?_ hn hdb)
 exact PyProof.Rows.callWith_builtin1 (thn (ha pos pins s σ H W ρ _ I rr h) fun us s1 ⟨vs, H1, ds, I1, rv, e1, hd, q⟩ => thn (hc pins s1 σ H1 W ds vs us Q I1 (rr.same e1).tracked rv hd q) fun _ _ z => z.up e1) hst hpl
theorem ik (hc : dD X (.type T) r) (hg : Gl X x) (hm : X.mg x = none) (hv : bootBuiltins x = some (.type T)) (ha : PAD X (e :: es) t) (hn : x ≠ "__name__" := by decide) (hdb : (x == ("__debug__" : Str)) = false := by decide)
  (hst : starEach (e :: es) X.env = (false, eval e X.env) :: starEach es X.env := by rfl) (hpl : (backTo pos (starEach es X.env)).any (·.1) = false := by rfl) :
  PED X (.Call (.Name x p) (e :: es) [] pos) (dCB r t) := by
 intro pins s σ H W ρ Q I rr h
 refine wpAny_Call_Name_kw (cq I hg hm hv ?_ hn hdb)
 exact PyProof.Rows.callWith_type1 (thn (ha pos pins s σ H W ρ _ I rr h) fun us s1 ⟨vs, H1, ds, I1, rv, e1, hd, q⟩ => thn (hc pins s1 σ H1 W ds vs us Q I1 (rr.same e1).tracked rv hd q) fun _ _ z => z.up e1) hst hpl
end
end PD
namespace PD
open PySem PySem.Spec PyProof.Rows L2 PX
mutual
def pyD : D -> PyData
 | .non => .none
 | .bl b => .bool b
 | .int i => .int i
 | .str x => .str x
 | .tup ds => .tuple (bG ds)
 | .lst _ ds => .list (bG ds)
 | .exc _ => .none
 | .obj _ _ _ => .none
 | .dic => .none
def bG : List D -> List PyData
 | [] => []
 | d :: ds => pyD d :: bG ds
end
mutual
def plD : D -> Bool
 | .tup ds => eV ds
 | .lst _ ds => eV ds
 | .exc _ => false
 | .obj _ _ _ => false
 | .dic => false
 | _ => true
def eV : List D -> Bool
 | [] => true
 | d :: ds => plD d && eV ds
end
def eqD (x y : D) : Bool := PyData.eqv (pyD x) (pyD y)
def okD (x : D) : Prop := plD x = true /\ SeqAt.shaped (pyD x) = true
section
variable {X : Cx} {pins : List (Addr × Obj)} {σ : St} {H : Hp} {s : Shared} {P : Bool -> Addr -> Prop}
mutual
theorem fy (I : Inv X pins σ H s) : ∀ (d : D) (v : V) (u : Value), Den X.K P H d v -> RelV v u -> plD d = true -> ∃ as, Reads s.heap u (pyD d) as
 | .non, _, _, h, r, _ => by have e := h.non_; subst e; cases r; rw [pyD]; exact ⟨_, .none⟩
 | .bl b, _, _, h, r, _ => by have e := h.bl_; subst e; cases r; rw [pyD]; exact ⟨_, .bool b⟩
 | .int i, _, _, h, r, _ => by have e := h.int_; subst e; obtain ⟨t, rfl⟩ := r; rw [pyD]; exact ⟨_, .int i t⟩
 | .str x, _, _, h, r, _ => by have e := h.str_; subst e; obtain ⟨t, rfl⟩ := r; rw [pyD]; exact ⟨_, .str x t⟩
 | .tup ds, _, _, h, r, pl => by
  rw [plD] at pl
  obtain ⟨a, vs, e, hq, hd⟩ := h.tup_
  subst e
  cases r
  obtain ⟨its, rv, ⟨o, h1, h2, n, h3⟩, _⟩ := I.tuple hq.w
  obtain ⟨as, q⟩ := eQ I ds vs its hd rv pl
  rw [pyD]
  exact ⟨as, reads_tuple_at h1 h2 h3 (by simpa using q)⟩
 | .lst _ ds, _, _, h, r, pl => by
  rw [plD] at pl
  obtain ⟨a, vs, e, _, hq, hd⟩ := h.lst_
  subst e
  cases r
  obtain ⟨its, rv, ⟨o, n, h1, h2, _, h3⟩, _⟩ := I.list hq
  obtain ⟨as, q⟩ := eQ I ds vs its hd rv pl
  rw [pyD]
  exact ⟨_, reads_list_at h1 h2 h3 (by simpa using q)⟩
 | .exc _, _, _, _, _, pl => by rw [plD] at pl; cases pl
 | .obj _ _ _, _, _, _, _, pl => by rw [plD] at pl; cases pl
 | .dic, _, _, _, _, pl => by rw [plD] at pl; cases pl
theorem eQ (I : Inv X pins σ H s) : ∀ (ds : List D) (vs : List V) (us : List Value), ae X.K P H ds vs -> Vals vs us -> eV ds = true -> ∃ as, ReadsAll s.heap us (bG ds) as
 | [], _, _, h, r, _ => by simp only [ae] at h; subst h; cases r; rw [bG]; exact ⟨_, .nil⟩
 | d :: ds, _, _, h, r, pl => by
  rw [eV, zAW] at pl
  simp only [ae] at h
  obtain ⟨v, r', rfl, h1, h2⟩ := h
  cases r with
  | cons ra rb =>
   obtain ⟨as, q⟩ := fy I d v _ h1 ra pl.1
   obtain ⟨bs, q'⟩ := eQ I ds _ _ h2 rb pl.2
   rw [bG]
   exact ⟨_, .cons q q'⟩
end
def sG : RD2 := fun x y Q => okD x /\ okD y /\ Q (.bl (eqD x y))
def pC : RD2 := fun x y Q => okD x /\ okD y /\ Q (.bl (!eqD x y))
theorem qj (hu : X.A.units + 64 < cLine) : OpD X (compareOp .NotEq) pC := by
 intro pins s σ H W x y v u vv uu Q I _ rv ru hx hy q
 obtain ⟨h1, h2, q⟩ := q
 obtain ⟨as, ra⟩ := fy I x v vv hx rv h1.1
 obtain ⟨bs, rb⟩ := fy I y u uu hy ru h2.1
 exact ne_dataH ra rb h1.2 h2.2 hu ⟨.bl _, H, _, I, rfl, af.refl H, Den.bl _, q⟩
theorem fD : OpD X (compareOp .Eq) (dY fun i j => .bl (decide (i = j))) := OpD.of tG fun P H x y v u Q hx hy ⟨i, j, e1, e2, q⟩ => by
 subst e1 e2
 have a := hx.int_
 have b := hy.int_
 subst a b
 refine ⟨rfl, af.refl H, _, Den.bl _, ?_⟩
 rw [show decide (V.int i = V.int j) = decide (i = j) from by rw [fO]; rfl]
 exact q
theorem jA : OpD X (compareOp .NotEq) (dY fun i j => .bl (!decide (i = j))) := OpD.of tK fun P H x y v u Q hx hy ⟨i, j, e1, e2, q⟩ => by
 subst e1 e2
 have a := hx.int_
 have b := hy.int_
 subst a b
 refine ⟨rfl, af.refl H, _, Den.bl _, ?_⟩
 rw [show decide (V.int i = V.int j) = decide (i = j) from by rw [fO]; rfl]
 exact q
def eT : D -> Bool
 | .non => true
 | _ => false
theorem mP {K : PySem.W.Frag} {d : D} {v : V} (h : Den K P H d v) : decide (v = .non) = eT d := by
 cases d with
 | non => have := h.non_; subst this; rfl
 | bl b => have := h.bl_; subst this; rfl
 | int b => have := h.int_; subst this; rfl
 | str b => have := h.str_; subst this; rfl
 | tup ds => obtain ⟨a, vs, e, _⟩ := h.tup_; subst e; rfl
 | lst _ ds => obtain ⟨a, vs, e, _⟩ := h.lst_; subst e; rfl
 | exc c => obtain ⟨a, e, _⟩ := h.exc_; subst e; rfl
 | obj C ns ds => obtain ⟨a, dx, vs, e, _⟩ := h.obj_; subst e; rfl
 | dic => obtain ⟨a, e, _⟩ := h.dic_; subst e; rfl
theorem r9 : OpD X (compareOp .Is) (fun x y Q => y = .non /\ Q (.bl (eT x))) := OpD.of sk fun P H x y v u Q hx hy ⟨e, q⟩ => by
 subst e
 refine ⟨hy.non_, af.refl H, _, Den.bl _, ?_⟩
 rw [mP hx]
 exact q
end
section
variable {X : Cx}
theorem sT {K : PySem.W.Frag} {P : Bool -> Addr -> Prop} {H : Hp} {x y : D} {vs : List V} (h : ae K P H [x, y] vs) : ∃ v u, vs = [v, u] /\ Den K P H x v /\ Den K P H y u := by
 simp only [ae] at h
 obtain ⟨v, r, e, h1, u, r', e', h2, e''⟩ := h
 subst e' e'' e
 exact ⟨v, u, rfl, h1, h2⟩
theorem iQ {K : PySem.W.Frag} {P : Bool -> Addr -> Prop} {H : Hp} {x : D} {vs : List V} (h : ae K P H [x] vs) : ∃ v, vs = [v] /\ Den K P H x v := by
 simp only [ae] at h
 obtain ⟨v, r, e, h1, e'⟩ := h
 subst e' e
 exact ⟨v, rfl, h1⟩
theorem cO : dD X (.builtin "len") (fun ds Q => ∃ xs, ((∃ t, ds = [.lst t xs]) ∨ ds = [.tup xs]) /\ Q (.int (xs.length : Int))) := dD.of i0 fun P H ds vs Q _ hd ⟨xs, e, q⟩ => by
 rcases e with ⟨tg, e⟩ | e
 ·subst e
  obtain ⟨v, rfl, h1⟩ := iQ hd
  obtain ⟨a, ws, e, _, hq, hw⟩ := h1.lst_
  subst e
  refine ⟨a, ws, rfl, .inl hq, af.refl H, _, Den.int _, ?_⟩
  rw [hw.len]
  exact q
 ·subst e
  obtain ⟨v, rfl, h1⟩ := iQ hd
  obtain ⟨a, ws, e, hq, hw⟩ := h1.tup_
  subst e
  refine ⟨a, ws, rfl, .inr hq.w, af.refl H, _, Den.int _, ?_⟩
  rw [hw.len]
  exact q
def tyD : D -> String
 | .non => "NoneType" | .bl _ => "bool" | .int _ => "int" | .str _ => "str" | .tup _ => "tuple" | .lst _ _ => "list" | .exc _ => "object" | .obj _ _ _ => "object" | .dic => "dict"
def tyV : D -> Value
 | .exc c => .ref c
 | .obj C _ _ => .ref C
 | d => .type (tyD d)
variable {e : Expr} {te : DE} {p p' pos : Pos} {T : String} {x : Str}
theorem kJ {P : Program} {w : World} {H : Hp} {h : Heap} {a C dx : Addr} {fs : List (Str × V)} (x : aN P w H h a (.ins C dx fs)) : ∃ od, PySem.W.InstAt h a (PySem.W.instObj C dx) C (some od) := by
 obtain ⟨d, z, ne, ob, mA, n, r, q⟩ := x
 obtain ⟨od, hI, _⟩ := ot.look ⟨ob, n, ne⟩
 exact ⟨od, hI⟩
theorem jv {pins : List (Addr × Obj)} {σ : St} {H : Hp} {s : Shared} {P : Bool -> Addr -> Prop} {A : Around} {E : Value -> Shared -> Prop} {Q : Value -> Shared -> Prop} {c : Value} {b : Bool} {d : D} {v : V} {u : Value} (I : Inv X pins σ H s) (h : Den X.K P H d v) (r : RelV v u)
  (e : PySem.W.kitOne X.K (tyV d) c = some b) (q : ∀ tk, Q (.bool b) { s with toks := tk }) : wpAny (model X.prog X.w) A (call (.builtin "isinstance") [u, c]) Q E s := by
 cases d with
 | non => have z := h.non_; subst z; cases r; exact PySem.W.kia_one PySem.W.kitx_none I.kIn True.intro e (fun z => nomatch z) q
 | bl y => have z := h.bl_; subst z; cases r; exact PySem.W.kia_one PySem.W.kitx_bool I.kIn True.intro e (fun z => nomatch z) q
 | int i => have z := h.int_; subst z; obtain ⟨t, rfl⟩ := r; exact PySem.W.kia_one PySem.W.kitx_int I.kIn True.intro e (fun z => nomatch z) q
 | str y => have z := h.str_; subst z; obtain ⟨t, rfl⟩ := r; exact PySem.W.kia_one PySem.W.kitx_str I.kIn True.intro e (fun z => nomatch z) q
 | tup ds =>
  obtain ⟨a, vs, z, hq, _⟩ := h.tup_
  subst z
  cases r
  obtain ⟨its, rv, ⟨o, h1, h2, n, h3⟩, _⟩ := I.tuple hq.w
  exact PySem.W.kia_one PySem.W.kitx_tuple I.kIn ⟨o, h1, h2⟩ e (fun z => nomatch z) q
 | lst _ ds =>
  obtain ⟨a, vs, z, _, hq, _⟩ := h.lst_
  subst z
  cases r
  obtain ⟨its, rv, ⟨o, n, h1, h2, _, h3⟩, _⟩ := I.list hq
  exact PySem.W.kia_one PySem.W.kitx_list I.kIn ⟨o, h1, h2⟩ e (fun z => nomatch z) q
 | exc c' =>
  obtain ⟨a, z, hq, k⟩ := h.exc_
  subst z
  cases r
  exact PySem.W.kia_one (jw k) I.kIn (I.hok a _ hq).1 e (fun z => nomatch z) q
 | obj C ns ds =>
  obtain ⟨a, dx, vs, z, hq, _, k, _⟩ := h.obj_
  subst z
  cases r
  obtain ⟨od, hI⟩ := kJ (I.hok a _ hq)
  exact PySem.W.kia_one (PySem.W.kitx_own k.pg k.hd k.at_ k.get k.takes k.obj) I.kIn hI e (fun z => nomatch z) q
 | dic =>
  obtain ⟨a, z, hq⟩ := h.dic_
  subst z
  cases r
  exact PySem.W.kia_one PySem.W.kitx_dict I.kIn (I.hok a _ hq).1 e (fun z => nomatch z) q
theorem jZ (K : PySem.W.Frag) (S T : String) : PySem.W.kitOne K (.type S) (.type T) = if S = T then some true else if PySem.W.kitMeta T = true then (fastBuiltinMro S).map (·.contains (.type T)) else none := by
 unfold PySem.W.kitOne PySem.W.kitCls PySem.W.subIn
 by_cases h : S = T
 ·subst h; simp
 ·have : (Value.type S == Value.type T) = false := by
   rw [beq_eq_false_iff_ne]
   intro e
   injection e with e
   exact h e
  rw [this, if_neg zAL, if_neg h]
def isT (T : String) (d : D) : Bool := tyD d == T || (tyD d == "bool" && T == "int")
theorem kit_ans (K : PySem.W.Frag) (d : D) (hk : ∀ c, d = .exc c -> b9 K c) (ho : ∀ C ns ds, d = .obj C ns ds -> fu K C) (hT : T = "int" ∨ T = "bool" ∨ T = "tuple" ∨ T = "list" ∨ T = "str") : PySem.W.kitOne K (tyV d) (.type T) = some (isT T d) := by
 by_cases hx : ∃ c, d = .exc c
 ·obtain ⟨c, rfl⟩ := hx
  show PySem.W.kitOne K (.ref c) (.type T) = _
  rw [(hk c rfl).not T hT]
  show _ = some ("object" == T || ("object" == "bool" && T == "int"))
  rcases hT with e | e | e | e | e <;> subst e <;> decide +kernel
 by_cases hy : ∃ C ns ds, d = .obj C ns ds
 ·obtain ⟨C, ns, ds, rfl⟩ := hy
  show PySem.W.kitOne K (.ref C) (.type T) = _
  rw [(ho C ns ds rfl).not T hT]
  show _ = some ("object" == T || ("object" == "bool" && T == "int"))
  rcases hT with e | e | e | e | e <;> subst e <;> decide +kernel
 have hv : tyV d = .type (tyD d) := by cases d <;> first | rfl | exact absurd ⟨_, rfl⟩ hx | exact absurd ⟨_, _, _, rfl⟩ hy
 rw [hv, jZ]
 unfold isT
 have hS : tyD d = "NoneType" ∨ tyD d = "bool" ∨ tyD d = "int" ∨ tyD d = "str" ∨ tyD d = "tuple" ∨ tyD d = "list" ∨ tyD d = "dict" := by cases d <;> first | exact absurd ⟨_, rfl⟩ hx | exact absurd ⟨_, _, _, rfl⟩ hy | simp [tyD]
 generalize tyD d = S at hS ⊢
 rcases hT with e | e | e | e | e <;> subst e <;> rcases hS with e | e | e | e | e | e | e <;> subst e <;> decide +kernel
def dIs (T : String) (te : DE) : DE := fun ρ Q => te ρ fun d => Q (.bl (isT T d))
theorem bo (hg : Gl X "isinstance") (hm : X.mg "isinstance" = none) (hgT : Gl X x) (hmT : X.mg x = none) (hv : bootBuiltins x = some (.type T)) (hT : T = "int" ∨ T = "bool" ∨ T = "tuple" ∨ T = "list" ∨ T = "str") (he : PED X e te)
  (hn : x ≠ "__name__" := by decide) (hdb : (x == ("__debug__" : Str)) = false := by decide)
  (hst : starEach [e, .Name x p'] X.env = (false, eval e X.env) :: starEach [.Name x p'] X.env := by rfl) (hst2 : starEach [.Name x p'] X.env = (false, eval (.Name x p') X.env) :: starEach [] X.env := by rfl) (hst3 : (backTo pos (starEach [.Name x p'] X.env)).any (·.1) = false := by rfl) :
  PED X (.Call (.Name "isinstance" p) [e, .Name x p'] [] pos) (dIs T te) := by
 intro pins s σ H W ρ Q I rr h
 have hpa : PA X [e, .Name x p'] (cA (iR X te) (cA (tC (.ty T)) hZ)) := bD he.pe (bD (fV hgT hmT hv rfl hn hdb) dm hst2) hst
 refine wpAny_Call_Name_kw (cq I hg hm boot_isinstance ?_ (by decide) (by decide))
 refine PyProof.Rows.callWith_builtin1 (thn (hpa pos pins s σ H (fun vs H1 => ∃ v d, vs = [v, .ty T] /\ af H H1 /\ Den X.K W.bad H1 d v /\ Q (.bl (isT T d))) I ⟨W, ρ, _, rr, h, fun v H1 d e1 hd q1 => ⟨v, d, rfl, e1, hd, q1⟩⟩) fun us s1 ⟨vs, H1, I1, rv, v, d, ev, e1, hd, q1⟩ => ?_) hst hst3
 subst ev
 cases rv with
 | cons r1 rr =>
  cases rr with
  | cons r2 rr =>
   cases rr
   cases (show _ = Value.type T from r2)
   exact jv I1 hd r1 (kit_ans X.K d (fun c z => by subst z; exact hd.exc_.choose_spec.2.2) (fun C ns ds z => by subst z; obtain ⟨_, _, _, _, _, _, k, _⟩ := hd.obj_; exact k) hT) fun tk => ⟨.bl _, H1, _, I1.tok tk, rfl, e1, Den.bl _, q1⟩
end
section
variable {X : Cx} {pos : Pos}
theorem SPD.up {pins : List (Addr × Obj)} {W0 W : Own} {H0 H : Hp} {E : dE} {f : Flow} {s' : Shared} (g : Fwd W0 H0 W H) (h : SPD X pins W H E f s') : SPD X pins W0 H0 E f s' := by
 obtain ⟨W', σ', H', I, fw, q⟩ := h
 exact ⟨W', σ', H', I, g.trans fw, q⟩
variable {st : Stmt} {rest : List Stmt} {t u : DS} {e : Expr} {te : DE}
def lM : DS := fun E ρ => E.nx ρ
def lR (t u : DS) : DS := fun E ρ => t { E with nx := u E } ρ
theorem aG : bA X [] lM := fun _ _ σ H W ρ E I r h => wpAny_execs_nil ⟨W, σ, H, I, Fwd.refl W H, ρ, r, h⟩
theorem aq (h1 : PSD X st t) (h2 : bA X rest u) : bA X (st :: rest) (lR t u) := by
 intro pins s σ H W ρ E I r h
 refine wpAny_execs_cons (thn (h1 pins s σ H W ρ { E with nx := u E } I r h) fun f s1 ⟨W', σ', H', I', fw, q⟩ => ?_)
 cases f with
 | next =>
  obtain ⟨ρ', r', q⟩ := q
  exact thn (h2 pins s1 σ' H' W' ρ' E I' r' q) fun _ _ z => z.up fw
 | ret v => exact ⟨W', σ', H', I', fw, q⟩
 | brk => exact ⟨W', σ', H', I', fw, q⟩
 | cont => exact ⟨W', σ', H', I', fw, q⟩
theorem au (h1 : PSD X st t) : bA X [st] t := by
 intro pins s σ H W ρ E I r h
 refine wpAny_execs_cons (thn (h1 pins s σ H W ρ E I r h) fun f s1 q => ?_)
 cases f with
 | next => exact wpAny_execs_nil q
 | ret v => exact q
 | brk => exact q
 | cont => exact q
def oQ (te : DE) : DS := fun E ρ => te ρ E.rt
theorem aB (he : PED X e te) : PSD X (.Return (some e) pos) (oQ te) := by
 intro pins s σ H W ρ E I r h
 exact wpAny_Return_some (thn (he pins s σ H W ρ _ I r h) fun u s1 ⟨v, H1, d, I1, r1, e1, hd, q1⟩ => ⟨W, σ, H1, I1, Fwd.same e1, v, d, r1, hd, q1⟩)
def pP (te : DE) : DS := fun E ρ => te ρ fun _ => E.nx ρ
def oG (c : DT) (t u : DS) : DS := fun E ρ => c ρ fun b => if b = true then t E ρ else u E ρ
theorem aV {c : Expr} {a b : List Stmt} {tc : DT} (hc : PTD X c tc) (ha : bA X a t) (hb : bA X b u) : PSD X (.If c a b pos) (oG tc t u) := by
 intro pins s σ H W ρ E I r h
 refine wpAny_If (thn (hc pins s σ H W ρ _ I r h) fun d s1 ⟨H1, I1, e1, q1⟩ => ?_)
 cases d with
 | true => exact thn (ha pins s1 σ H1 W ρ E I1 (r.same e1) q1) fun _ _ z => z.up (Fwd.same e1)
 | false => exact thn (hb pins s1 σ H1 W ρ E I1 (r.same e1) q1) fun _ _ z => z.up (Fwd.same e1)
theorem Rel.put {X : Cx} {W : Own} {H : Hp} {σ : St} {ρ : Ro} {i : Nat} {d : D} {v : V} (r : Rel X W H σ ρ) (hi : i < σ.length) (hd : Den X.K W.bad H d v) : Rel X (W.drop i) H (σ.set i (some v)) (ρ.set i (some (.val d))) where
 val := fun j x h => by
  by_cases hj : j = i
  ·subst hj
   refine ⟨v, by simp [hi], ?_⟩
   by_cases hl : j < ρ.length
   ·rw [zAE hl] at h
    cases h
    exact hd.fewer fun _ _ => Own.drop_bad
   ·rw [zAY (by simpa using hl)] at h
    cases h
  ·rw [zAA (Ne.symm hj)] at h
   obtain ⟨w, h1, h2⟩ := r.val j x h
   exact ⟨w, by rw [zAA (Ne.symm hj)]; exact h1, h2.fewer fun _ _ => Own.drop_bad⟩
 own := fun j x h => by
  by_cases hj : j = i
  ·subst hj
   by_cases hl : j < ρ.length
   ·rw [zAE hl] at h; cases h
   ·rw [zAY (by simpa using hl)] at h; cases h
  ·rw [zAA (Ne.symm hj)] at h
   obtain ⟨a, vs, h1, h2, h3, h4⟩ := r.own j x h
   exact ⟨a, vs, by show (if j = i then none else W.O j) = _; rw [if_neg hj]; exact h1, by rw [zAA (Ne.symm hj)]; exact h2, h3, by rw [zAS]; exact h4.fewer (fun _ _ => Own.drop_bad) (Own.drop_sub hi)⟩
 inj := fun j k a h1 h2 => by
  have h1' : (if j = i then none else W.O j) = some a := h1
  have h2' : (if k = i then none else W.O k) = some a := h2
  by_cases e1 : j = i
  ·rw [if_pos e1] at h1'; cases h1'
  ·by_cases e2 : k = i
   ·rw [if_pos e2] at h2'; cases h2'
   ·rw [if_neg e1] at h1'
    rw [if_neg e2] at h2'
    exact r.inj j k a h1' h2'
 kn := fun j a h1 => by
  have h1' : (if j = i then none else W.O j) = some a := h1
  by_cases e1 : j = i
  ·rw [if_pos e1] at h1'; cases h1'
  ·rw [if_neg e1] at h1'
   exact r.kn j a h1'
 ke := fun j a h1 => by
  have h1' : (if j = i then none else W.O j) = some a := h1
  by_cases e1 : j = i
  ·rw [if_pos e1] at h1'; cases h1'
  ·rw [if_neg e1] at h1'
   exact r.ke j a h1'
 bt := r.bt
 st := r.st
 ent := r.ent
 tab := r.tab
theorem Fwd.drop (W : Own) (H : Hp) (i : Nat) : Fwd W H (W.drop i) H := ⟨rfl, rfl, fun _ _ _ h _ => h, fun j a h => by
 have h' : (if j = i then none else W.O j) = some a := h
 by_cases e1 : j = i
 ·rw [if_pos e1] at h'; cases h'
 ·rw [if_neg e1] at h'; exact .inl ⟨j, h'⟩, fun _ ps h => ⟨#[], by rw [h]; simp⟩, id⟩
theorem Inv.ilt {pins : List (Addr × Obj)} {σ : St} {H : Hp} {s : Shared} {i : Nat} {x : Str} (I : Inv X pins σ H s) (hi : X.N[i]? = some x) : i < σ.length := by
 rw [I.len]
 exact (zAD.mp hi).1
def lT (i : Nat) (te : DE) : DS := fun E ρ => te ρ fun d => E.nx (ρ.set i (some (.val d)))
theorem bf {x : Str} {pos' : Pos} (i : Nat) (hN : X.N.Nodup) (he : PED X e te) (hi : X.N[i]? = some x := by rfl) (hx : Loc X.env.scope x := by first | exact Or.inl rfl | exact Or.inr rfl) (hs : swapsWith e (some (.Name x pos')) pos.line X.env = pure false := by rfl)
  (hf : X.fn x = true ∨ X.env.scope.names.lookup x = some .local := by first | exact .inl rfl | exact .inr rfl | assumption) : PSD X (.Assign [.Name x pos'] e pos) (lT i te) := by
 intro pins s σ H W ρ E I r h
 refine wpAny_Assign_Name (thn (he pins s σ H W ρ _ I r h) fun u s1 ⟨v, H1, d, I1, r1, e1, hd, q1⟩ => ?_) hs
 exact cK I1 hN hi hx r1 (fun s2 I2 => ⟨W.drop i, _, H1, I2, (Fwd.same e1).trans (Fwd.drop W H1 i), _, (r.same e1).put (Inv.ilt I1 hi) hd, q1⟩) hf
theorem PSD.of {ts : TS} {t : DS} (h : PS X st ts) (k : ∀ σ H W ρ E, Rel X W H σ ρ -> σ.length = X.N.length -> t E ρ -> ts ⟨(fun σ' H' => ∃ W' ρ', Fwd W H W' H' /\ Rel X W' H' σ' ρ' /\ E.nx ρ'), (fun v H' => ∃ W' d, Fwd W H W' H' /\ Den X.K W'.bad H' d v /\ E.rt d),
   (fun σ' H' => ∃ W' ρ', Fwd W H W' H' /\ Rel X W' H' σ' ρ' /\ E.bk ρ'), (fun σ' H' => ∃ W' ρ', Fwd W H W' H' /\ Rel X W' H' σ' ρ' /\ E.ct ρ')⟩ σ H) : PSD X st t := by
 intro pins s σ H W ρ E I r ht
 refine thn (h pins s σ H _ I (k σ H W ρ E r I.len ht)) fun f s1 q => ?_
 cases f with
 | next => obtain ⟨σ', H', I', W', ρ', fw, r', q⟩ := q; exact ⟨W', σ', H', I', fw, ρ', r', q⟩
 | brk => obtain ⟨σ', H', I', W', ρ', fw, r', q⟩ := q; exact ⟨W', σ', H', I', fw, ρ', r', q⟩
 | cont => obtain ⟨σ', H', I', W', ρ', fw, r', q⟩ := q; exact ⟨W', σ', H', I', fw, ρ', r', q⟩
 | ret u => obtain ⟨v, σ', H', I', rv, W', d, fw, hd, q⟩ := q; exact ⟨W', σ', H', I', fw, v, d, rv, hd, q⟩
end
section
variable {X : Cx} {pos : Pos}
theorem rL {X : Cx} {W W' : Own} {H H' : Hp} {σ : St} {ρ : Ro} (r : Rel X W H σ ρ) (f : Fwd W H W' H') (a : Addr) (o : HO) (n : Sol o) (q : H a = some o) : H' a = some o :=
 f.kp a _ (fun i z => by obtain ⟨_, _, o', q', m⟩ := r.kn i a z; rw [q] at q'; cases q'; exact m.sol n) q n.nt
theorem rK {X : Cx} {W W' : Own} {H H' : Hp} {σ : St} {ρ : Ro} (r : Rel X W H σ ρ) (f : Fwd W H W' H') (a : Addr) (vs : List V) (q : SqT X.K H a vs) : SqT X.K H' a vs := by
 exact f.keep a _ (fun i e => by
  obtain ⟨_, _, o', q', m⟩ := r.kn i a e
  have q2 : H a = some (.tup vs) := q
  rw [q'] at q2
  cases q2
  exact m) q
theorem rJ {X : Cx} {W W' : Own} {H H' : Hp} {σ' : St} {ρ' : Ro} (r' : Rel X W' H' σ' ρ') (f : Fwd W H W' H') (t : Bool) (a : Addr) (vs : List V) (p : ¬ W.bad t a) (q : SqG X.K H t a vs) : ¬ W'.bad t a /\ SqG X.K H' t a vs := by
 have no : ∀ i, W.O i ≠ some a := fun i e => p (.inr (.inl ⟨i, e⟩))
 refine ⟨fun b => ?_, ?_, fun z => ⟨f.keep a _ no (q.2 z).1, (q.2 z).2⟩⟩
 ·rcases b with b | ⟨i, b⟩ | ⟨e, b⟩
  ·rw [f.B] at b; exact p (.inl b)
  ·rcases f.new i a b with ⟨j, z⟩ | z
   ·exact no j z
   ·rcases q.1 with (q | ⟨o, q⟩) | ⟨o, its, n, q, _⟩
    ·rw [z] at q; cases q
    ·rw [z] at q; cases q
    ·rw [(r'.kn i a b).1] at q; cases q
  ·rw [f.S] at b; exact p (.inr (.inr ⟨e, b⟩))
 ·rcases q.1 with (q | ⟨o, q⟩) | q
  ·exact .inl (.inl (f.keep a _ no q))
  ·exact .inl (.inr ⟨o, f.keep a _ no q⟩)
  ·exact .inr q
theorem Den.fwd {X : Cx} {W W' : Own} {H H' : Hp} {σ σ' : St} {ρ ρ' : Ro} {d : D} {v : V} (r : Rel X W H σ ρ) (r' : Rel X W' H' σ' ρ') (f : Fwd W H W' H') (h : Den X.K W.bad H d v) : Den X.K W'.bad H' d v :=
 Den.map (rK r f) (rJ r' f) (rL r f) d v h
theorem SqL.fwd {K : PySem.W.Frag} {W W' : Own} {H H' : Hp} {a : Addr} {vs : List V} {t : Bool} (f : Fwd W H W' H') (p : ¬ W.bad t a) (q : SqL K H a vs) : SqL K H' a vs := by
 have no : ∀ i, W.O i ≠ some a := fun i e => p (.inr (.inl ⟨i, e⟩))
 rcases q with (q | ⟨o, q⟩) | q
 ·exact .inl (.inl (f.keep a _ no q))
 ·exact .inl (.inr ⟨o, f.keep a _ no q⟩)
 ·exact .inr q
abbrev DG := D -> Ro -> (Ro -> Prop) -> Prop
def PGD (X : Cx) (target : Expr) (g : DG) : Prop :=
 ∀ (pins : List (Addr × Obj)) (s : Shared) (σ : St) (H : Hp) (W : Own) (ρ : Ro) (d : D) (v : V) (u : Value) (Q : Ro -> Prop), Inv X pins σ H s -> Rel X W H σ ρ -> RelV v u -> Den X.K W.bad H d v -> g d ρ Q →
  wpAny (model X.prog X.w) X.A (assign target X.env u) (fun _ s' => ∃ W' σ' H' ρ', Inv X pins σ' H' s' /\ Fwd W H W' H' /\ Rel X W' H' σ' ρ' /\ Q ρ') X.xe s
abbrev DGs := List D -> Ro -> (Ro -> Prop) -> Prop
def iT (X : Cx) (ts : List Expr) (t : DGs) : Prop :=
 ∀ (pins : List (Addr × Obj)) (s : Shared) (σ : St) (H : Hp) (W : Own) (ρ : Ro) (ds : List D) (vs : List V) (us : List Value) (Q : Ro -> Prop), Inv X pins σ H s -> Rel X W H σ ρ -> Vals vs us -> ae X.K W.bad H ds vs -> t ds ρ Q →
  wpAny (model X.prog X.w) X.A (assignInOrder ((assignEach ts X.env).map (·.2)) us) (fun _ s' => ∃ W' σ' H' ρ', Inv X pins σ' H' s' /\ Fwd W H W' H' /\ Rel X W' H' σ' ρ' /\ Q ρ') X.xe s
theorem ae.fwd {X : Cx} {W W' : Own} {H H' : Hp} {σ σ' : St} {ρ ρ' : Ro} (r : Rel X W H σ ρ) (r' : Rel X W' H' σ' ρ') (f : Fwd W H W' H') : ∀ {ds : List D} {vs : List V}, ae X.K W.bad H ds vs -> ae X.K W'.bad H' ds vs
 | [], _, h => by simpa only [ae] using h
 | d :: ds, _, h => by
  simp only [ae] at h ⊢
  obtain ⟨v, q, e, h1, h2⟩ := h
  exact ⟨v, q, e, Den.fwd r r' f h1, ae.fwd r r' f h2⟩
def eF (i : Nat) : DG := fun d ρ Q => Q (ρ.set i (some (.val d)))
theorem bI {x : Str} (i : Nat) (hN : X.N.Nodup) (hi : X.N[i]? = some x := by rfl) (hx : Loc X.env.scope x := by first | exact Or.inl rfl | exact Or.inr rfl)
  (hf : X.fn x = true ∨ X.env.scope.names.lookup x = some .local := by first | exact .inl rfl | exact .inr rfl | assumption) : PGD X (.Name x pos) (eF i) := by
 intro pins s σ H W ρ d v u Q I r rv hd h
 exact wpAny_assign_Name (cK I hN hi hx rv (fun s' I' => ⟨W.drop i, _, H, _, I', Fwd.drop W H i, r.put (Inv.ilt I hi) hd, h⟩) hf)
def dG : DGs := fun ds ρ Q => ds = [] /\ Q ρ
def aW (g : DG) (u : DGs) : DGs := fun ds ρ Q => ∃ d r, ds = d :: r /\ g d ρ fun ρ' => u r ρ' Q
theorem gY : iT X [] dG := by
 intro pins s σ H W ρ ds vs us Q I r rv hd h
 obtain ⟨e, h⟩ := h
 subst e
 simp only [ae] at hd
 subst hd
 cases rv
 exact assignInOrder_nil ⟨W, σ, H, ρ, I, Fwd.refl W H, r, h⟩
theorem bM {e : Expr} {es : List Expr} {g : DG} {u : DGs} (h1 : PGD X e g) (h2 : iT X es u) (hs : (assignEach (e :: es) X.env).map (·.2) = assign e X.env :: (assignEach es X.env).map (·.2) := by rfl) : iT X (e :: es) (aW g u) := by
 intro pins s σ H W ρ ds vs us Q I r rv hd h
 obtain ⟨d, dr, e1, h⟩ := h
 subst e1
 simp only [ae] at hd
 obtain ⟨v, vr, e2, hd1, hd2⟩ := hd
 subst e2
 cases rv with
 | cons ra rb =>
  rw [hs]
  refine assignInOrder_cons (thn (h1 pins s σ H W ρ d v _ _ I r ra hd1 h) fun _ s1 ⟨W1, σ1, H1, ρ1, I1, f1, r1, q1⟩ => ?_)
  exact thn (h2 pins s1 σ1 H1 W1 ρ1 dr vr _ Q I1 r1 rb (ae.fwd r r1 f1 hd2) q1) fun _ s2 ⟨W2, σ2, H2, ρ2, I2, f2, r2, q2⟩ => ⟨W2, σ2, H2, ρ2, I2, f1.trans f2, r2, q2⟩
theorem ju {h h' : Heap} {it l : Addr} {items : Array Value} (hl : h.IsList l items) (hs : Heap.SameBut it h h') (hne : l ≠ it) : h'.IsList l items := by
 obtain ⟨o, ho, r⟩ := hl
 exact ⟨o, (hs.2 l hne).trans ho, r⟩
theorem iq {prog : Program} {w : World} {A : Around} {E : Value -> Shared -> Prop} {it l : Addr} {items : Array Value} (hne : l ≠ it) : ∀ (n i : Nat) (s : Shared) (Q : List Value -> Shared -> Prop), s.heap.IsListIter it l i -> s.heap.IsList l items -> i + n <= items.size →
  (∀ h', h'.IsListIter it l (i + n) -> Heap.SameBut it s.heap h' -> Q ((items.toList.drop i).take n) { s with heap := h' }) -> wpAny (model prog w) A (draw (.ref it) n) Q E s
 | 0, i, s, Q, hit, _, _, hQ => by
  show wpAny _ _ (pure []) Q E s
  exact wpAny_pure (by simpa using hQ s.heap hit (Heap.SameBut.refl ..))
 | n + 1, i, s, Q, hit, hl, hle, hQ => by
  have hlt : i < items.size := by omega
  show wpAny _ _ (pyNext (.ref it) >>= _) Q E s
  refine wpAny_bind (wpAny_pyNext_list_item hit hl (x := items[i]) (by simp [hlt]) fun h₁ hit₁ hs₁ => ?_)
  refine wpAny_bind (wpAny_holding (iq hne n (i + 1) _ _ hit₁ (ju hl hs₁ hne) (by omega) fun h₂ hit₂ hs₂ => wpAny_pure ?_))
  have hd : items.toList.drop i = items[i] :: items.toList.drop (i + 1) := by simp [List.drop_eq_getElem_cons, hlt]
  have := hQ h₂ (by rw [show i + (n + 1) = i + 1 + n by omega]; exact hit₂) (hs₁.trans hs₂)
  rw [hd, List.take_succ_cons] at this
  exact this
theorem gp {prog : Program} {w : World} {A : Around} {E : Value -> Shared -> Prop} {s : Shared} {l : Addr} {items : Array Value} {Q : List Value -> Shared -> Prop} (hh : A.handled = none) (hl : s.heap.IsList l items)
  (hQ : ∀ h', Heap.ExtBut s.heap.objs.size s.heap h' -> Q items.toList { s with heap := h' }) : wpAny (model prog w) A (unpackItems (.ref l) items.size none) Q E s := by
 have hlt : l ≠ s.heap.objs.size := by obtain ⟨o, ho, _⟩ := hl; exact zAT (zAC ho)
 unfold unpackItems
 refine wpAny_bind ?_
 ·unfold notIterableAtAll
  refine wpAny_bind (wpAny_specialOf hl.typeIs F.slot_list_iter.lookup ?_)
  refine wpAny_pure ?_
  simp only [zAv, if_false]
  refine wpAny_bind (wpAny_holding (wpAny_pyIter_list hl ?_))
  have hl0 : (s.heap.push { cls := .type "list_iterator", data := .fields #[.ref l, rawInt 0] }).IsList l items := by
   obtain ⟨o, ho, r⟩ := hl
   exact ⟨o, zAB _ ho, r⟩
  refine wpAny_bind (wpAny_holding (iq hlt items.size 0 _ _ ⟨_, zAJ _ rfl, rfl, rfl⟩ hl0 (by omega) fun h₁ hit₁ hs₁ => ?_))
  have hall : List.take items.size (List.drop 0 items.toList) = items.toList := by
   rw [List.drop_zero]; exact List.take_of_length_le (by simp)
  rw [hall]
  rw [if_neg (by simp)]
  have hl₁ : h₁.IsList l items := ju hl0 hs₁ hlt
  refine wpAny_bind (wpAny_holding (wpAny_pyNext_list_end hh hit₁ hl₁ (by simp) fun h₂ he₂ => ?_))
  simp only [Option.isSome_none, zAv, if_false]
  refine wpAny_pure (hQ h₂ fun b o hb e => he₂ b o hb (hs₁.extBut b o hb (zAB _ e)))
def bW (n : Nat) (t : DGs) : DG := fun d ρ Q => ∃ ds, (d = .tup ds ∨ ∃ t, d = .lst t ds) /\ ds.length = n /\ t ds ρ Q
theorem jr {es : List Expr} {k : Nat} {t : DGs} {n : Nat} (hc : X.calm = true) (h : iT X es t) (hn : (assignEach es X.env).length = n := by rfl) (hst : (assignEach es X.env).findIdx? (·.1) = none := by rfl) : PGD X (.Tuple es k pos) (bW n t) := by
 intro pins s σ H W ρ d v u Q I r rv hd hw
 obtain ⟨ds, ed, hl, hw⟩ := hw
 rcases ed with ed | ⟨tg, ed⟩
 ·subst ed
  obtain ⟨a, vs, e1, hq, hds⟩ := hd.tup_
  subst e1
  cases rv
  obtain ⟨its, rvs, ht, hz⟩ := I.tuple hq.w
  refine assign_Tuple_tuple (I.ok.hd hc) ht (by simp [hn, <- hl, <- rvs.length, hds.len]) hst fun h' hx => ?_
  have I1 : Inv X pins σ H { s with heap := h' } := I.kept (t' := s.toks) fun b o e => hx b o (zAT (zAC e)) e
  exact h pins _ σ H W ρ ds vs _ Q I1 r (by simpa using rvs) hds hw
 ·subst ed
  obtain ⟨a, vs, e1, _, hq, hds⟩ := hd.lst_
  subst e1
  cases rv
  obtain ⟨its, rvs, ht, hz⟩ := I.list hq
  rw [assign_Tuple]
  refine wpAny_bind (wpAny_standAt ?_)
  unfold unpack
  rw [hst, show (assignEach es X.env).length = its.toArray.size by simp [hn, <- hl, <- rvs.length, hds.len]]
  refine wpAny_bind (wpAny_holding (gp (I.ok.hd hc) ht.isList fun h' hx => ?_))
  have I1 : Inv X pins σ H { s with heap := h' } := I.kept (t' := s.toks) fun b o e => hx b o (zAT (zAC e)) e
  exact h pins _ σ H W ρ ds vs _ Q I1 r (by simpa using rvs) hds hw
def oE (te : DE) (g : DG) : DS := fun E ρ => te ρ fun d => g d ρ E.nx
theorem rF {tg e : Expr} {te : DE} {g : DG} (he : PED X e te) (hg : PGD X tg g) (hs : swapsWithSole [tg] e pos.line X.env = pure false := by rfl) (hw : swappedStores [tg] e X.env = pure none := by rfl)
  (h1 : (assignEach [tg] X.env).map (·.2) = [assign tg X.env] := by rfl) : PSD X (.Assign [tg] e pos) (oE te g) := by
 intro pins s σ H W ρ E I r h
 refine wpAny_Assign_stores (thn (he pins s σ H W ρ _ I r h) fun u s1 ⟨v, H1, d, I1, r1, e1, hd, q1⟩ => ?_) hs hw
 rw [h1]
 exact thn (hg pins s1 σ H1 W ρ d v u _ I1 (r.same e1) r1 hd q1) fun _ s2 ⟨W2, σ2, H2, ρ2, I2, f2, r2, q2⟩ => ⟨W2, σ2, H2, I2, (Fwd.same e1).trans f2, ρ2, r2, q2⟩
def YD (K : PySem.W.Frag) (W : Own) (H : Hp) (J : It) (ds : List D) : Prop := ∀ (P' : Bool -> Addr -> Prop) (H' : Hp), (∀ a vs, SqT K H a vs -> SqT K H' a vs) -> (∀ t a vs, ¬ W.bad t a -> SqG K H t a vs -> ¬ P' t a /\ SqG K H' t a vs) -> (∀ a o, Sol o -> H a = some o -> H' a = some o) -> ∀ i, (i < ds.length -> J.go i H') /\ (∀ x H3, J.yld i H' x H3 -> i < ds.length -> af H' H3 /\ ∃ d, ds[i]? = some d /\ Den K P' H3 d x) /\ (ds.length <= i -> J.stop i H')
def PID (X : Cx) (tg iter : Expr) (wi : DA) : Prop :=
 ∀ (pins : List (Addr × Obj)) (s : Shared) (σ : St) (H : Hp) (W : Own) (ρ : Ro) (R : List D -> Prop), Inv X pins σ H s -> Rel X W H σ ρ -> wi ρ R →
  wpAny (model X.prog X.w) X.A (eval iter X.env) (fun v s1 => wpAny (model X.prog X.w) X.A (pyIter v) (fun itv s2 => ∃ (it : Addr) (fp : List Addr) (tn : Nat -> Heap -> Prop) (J : It) (H' : Hp) (ds : List D), itv = .ref it /\ Inv X pins σ H' s2 /\ af H H' ∧
   Turn X.prog X.w X.K tg J fp it tn /\ tn 0 s2.heap /\ (∀ b ∈ fp, bF X pins H' b) /\ YD X.K W H' J ds /\ R ds) X.xe s1) X.xe s
theorem PID.of {tg iter : Expr} {wi : TI} {wd : DA} (h : PI X tg iter wi) (k : ∀ σ H W ρ R, Rel X W H σ ρ -> wd ρ R -> wi σ H fun J H' => af H H' /\ ∃ ds, YD X.K W H' J ds /\ R ds) : PID X tg iter wd := by
 intro pins s σ H W ρ R I r hw
 refine thn (h pins s σ H _ I (k σ H W ρ R r hw)) fun v s1 h1 => thn h1 fun itv s2 h2 => ?_
 obtain ⟨it, fp, tn, J, H', e, I2, T, st, f2, e2, ds, y, q⟩ := h2
 exact ⟨it, fp, tn, J, H', ds, e, I2, e2, T, st, f2, y, q⟩
def lL (ti : DE) : DA := fun ρ R => ti ρ fun d => ∃ t ds, d = .lst t ds /\ R ds
theorem fT {tg iter : Expr} {ti : DE} (h : PED X iter ti) : PID X tg iter (lL ti) := by
 refine PID.of (k8 h.pe) fun σ H W ρ R r hw => ⟨W, ρ, _, r, hw, fun v H1 d e1 hd q => ?_⟩
 obtain ⟨tg', ds, rfl, q⟩ := q
 obtain ⟨a, vs, rfl, na, hq, hds⟩ := hd.lstG_
 refine ⟨a, rfl, ⟨vs, hq.1⟩, e1, ds, ?_, q⟩
 intro P' H' hT hL hX i
 have hq' : SqL X.K H' a vs := (hL _ a vs na hq).2.1
 have hl := hds.len
 refine ⟨fun hi => ?_, fun x H3 y hi => ?_, fun hi => ⟨vs, hq', by omega⟩⟩
 ·obtain ⟨v, hv, _⟩ := hds.get (i := i) (d := ds[i]) (by simp [hi])
  exact ⟨vs, v, hq', hv⟩
 ·obtain ⟨e3, y⟩ := y
  subst e3
  obtain ⟨d, h1, h2⟩ := hds.aI (y vs hq')
  exact ⟨af.refl _, d, h1, Den.map hT hL hX d _ h2⟩
def d0 (lo step : Int) (n : Nat) : List D := (List.range n).map fun (i : Nat) => D.int (lo + i * step)
theorem gm (lo step : Int) (n : Nat) : (d0 lo step n).length = n := by simp [d0]
theorem jL {lo step : Int} {n i : Nat} (h : i < n) : (d0 lo step n)[i]? = some (D.int (lo + i * step)) := by simp [d0, h]
def rg (lo c : Int) (n : Nat) : It := ⟨fun i _ => i < n, fun i H x H' => H' = H /\ x = .int (lo + i * c), fun i _ => n <= i⟩
theorem pI (K : PySem.W.Frag) (W : Own) (H : Hp) (lo c : Int) (n : Nat) : YD K W H (rg lo c n) (d0 lo c n) := fun P' H' _ _ _ i => by
 rw [gm]
 refine ⟨fun h => h, fun x H3 y hi => ?_, fun h => h⟩
 obtain ⟨e, ex⟩ := y
 subst e ex
 exact ⟨af.refl _, _, jL hi, Den.int _⟩
theorem kg {P : Program} {w : World} {K : PySem.W.Frag} {tg : Expr} (it : Addr) (lo c : Int) (n : Nat) : Turn P w K tg (rg lo c n) [it] it (fun i h => IsRangeIter h it (lo + (i : Nat) * c) ((n : Int) - (i : Nat)) c) where
 mem := by simp
 obj := fun i h st b hb => by
  have e : b = it := by simpa using hb
  subst e
  exact ⟨_, st, fun v z => by
   have z' : Data.fields _ = Data.cell v := z
   cases z'⟩
 keep := fun i h h' st k => k it (by simp) _ st
 item := by
  intro X hP hw hK hc i pins s σ H E I hf st hg
  subst hP hw hK
  obtain ⟨f0, f1, f2, f3, f4, f5⟩ := hf it (by simp)
  have W := Walks.range (prog := X.prog) (w := X.w) (I.ok.hd hc) it lo c n
  refine W.item i s _ _ hg st fun v h' tk hv st' kk => ?_
  obtain ⟨t, rfl⟩ := hv
  have I1 : Inv X pins σ H { s with heap := h', toks := tk } := I.turned (fun b o hb e => kk b o (by simpa using hb) e) f0 f1 f3 f4 f5
  exact ⟨_, rfl, qc (s := { s with heap := h', toks := tk }) (n := "range_iterator") st' rfl rfl (by decide) ⟨.int (lo + i * c), H, I1, ⟨t, rfl⟩, ⟨rfl, rfl⟩, st', fun b hb => (hf b hb).1⟩⟩
 done := by
  intro X hP hw hK hc i pins s σ H E I hf st hg
  subst hP hw hK
  obtain ⟨f0, f1, f2, f3, f4, f5⟩ := hf it (by simp)
  exact wpAny_pyNext_range_end (I.ok.hd hc) st (by have : n <= i := hg; omega) fun h' eb => ⟨rfl, I.turned (t' := s.toks) (fun b o hb e => eb b o hb e) f0 f1 f3 f4 f5⟩
 self := fun _ _ _ _ _ st h => wpAny_pyIter_rangeiter st h
def dn (lo hi c : Int) : Nat := (Builtin.Range.rangeSize lo hi c).toNat
theorem nZ {a b c : Int} (ha : -(2 ^ 40) <= a) (ha' : a < 2 ^ 40) (hb : -(2 ^ 40) <= b) (hb' : b < 2 ^ 40) (hc : 0 < c) (hc' : c < 2 ^ 20) : Builtin.Range.small a b c = true /\ 0 <= Builtin.Range.rangeSize a b c := by
 have hd : a < b -> 0 <= (b - a - 1) / c /\ (b - a - 1) / c <= b - a - 1 := fun h => ⟨Int.ediv_nonneg (by omega) (by omega), Int.ediv_le_self _ (by omega)⟩
 have hm : a < b -> (b - a - 1) / c * c <= b - a - 1 := fun h => Int.ediv_mul_le _ (by omega)
 unfold Builtin.Range.small Builtin.Range.rangeSize
 rw [if_pos (show c > 0 from hc)]
 by_cases h : a < b
 ·obtain ⟨h1, h2⟩ := hd h
  have h3 := hm h
  rw [if_pos h]
  generalize (b - a - 1) / c = q at h1 h2 h3 ⊢
  have h4 : 0 <= q * c := Int.mul_nonneg h1 (by omega)
  simp only [Builtin.Range.rangeFitsLong, zAW, Bool.or_eq_true, decide_eq_true_eq, beq_iff_eq]
  have e : (q + 1 - 1) * c = q * c := by rw [Int.add_sub_cancel]
  have e' : (q + 1) * c = q * c + c := by rw [Int.add_mul, Int.one_mul]
  constructor
  ·rw [if_pos (show c > 0 from hc)]
   simp only [zAW, decide_eq_true_eq]
   omega
  ·omega
 ·rw [if_neg h]
  simp only [Builtin.Range.rangeFitsLong, zAW, Bool.or_eq_true, decide_eq_true_eq, beq_iff_eq]
  constructor
  ·simp; omega
  ·exact Int.le_refl _
theorem nS {pins : List (Addr × Obj)} {σ : St} {H : Hp} {s : Shared} {W : Own} {R : List D -> Prop} {E : Value -> Shared -> Prop} {tg : Expr} {lo hi c : Int} {t u v : Tok} {tk : Nat} (I : Inv X pins σ H s) (h1 : -(2 ^ 40) <= lo) (h2 : lo < 2 ^ 40) (h3 : -(2 ^ 40) <= hi) (h4 : hi < 2 ^ 40) (h5 : 0 < c) (h6 : c < 2 ^ 20)
  (q : R (d0 lo c (dn lo hi c))) : wpAny (model X.prog X.w) X.A (pyIter (.ref s.heap.objs.size)) (fun itv s2 => ∃ (it : Addr) (fp : List Addr) (tn : Nat -> Heap -> Prop) (J : It) (H' : Hp) (ds : List D), itv = .ref it /\ Inv X pins σ H' s2 /\ af H H' ∧
   Turn X.prog X.w X.K tg J fp it tn /\ tn 0 s2.heap /\ (∀ b ∈ fp, bF X pins H' b) /\ YD X.K W H' J ds /\ R ds) E { s with heap := s.heap.push { cls := .type "range", data := .fields #[.int lo t, .int hi u, .int c v] }, toks := tk } := by
 obtain ⟨sm, nn⟩ := nZ h1 h2 h3 h4 h5 h6
 refine wpAny_pyIter_range (IsRange.new ..) sm ?_
 have I1 : Inv X pins σ H { s with heap := s.heap.push { cls := .type "range", data := .fields #[.int lo t, .int hi u, .int c v] }, toks := tk } := I.kept fun b o e => zAB _ e
 refine ⟨(s.heap.push { cls := .type "range", data := .fields #[.int lo t, .int hi u, .int c v] }).objs.size, [(s.heap.push { cls := .type "range", data := .fields #[.int lo t, .int hi u, .int c v] }).objs.size], _, _, H, _, rfl,
  I1.kept (t' := tk) fun b o e => zAB _ e, af.refl H, kg _ lo c (dn lo hi c), ?_, fun b hb => ?_, pI _ _ _ _ _ _, q⟩
 ·have e1 : lo + ((0 : Nat) : Int) * c = lo := by simp
  have e2 : ((dn lo hi c : Nat) : Int) - ((0 : Nat) : Int) = Builtin.Range.rangeSize lo hi c := by unfold dn; omega
  show IsRangeIter _ _ (lo + ((0 : Nat) : Int) * c) (((dn lo hi c : Nat) : Int) - ((0 : Nat) : Int)) c
  rw [e1, e2]
  exact zAJ _ rfl
 ·have e : b = (s.heap.push { cls := .type "range", data := .fields #[.int lo t, .int hi u, .int c v] }).objs.size := by simpa using hb
  subst e
  exact I1.fpOk (zAH _) (I1.hok.fresh (zAH _))
def CR3 (i : Int) : Prop := -(2 ^ 40) <= i /\ i < 2 ^ 40
def pU (ta : DA) : DA := fun ρ R => ta ρ fun ds => ∃ i j c : Int, ds = [.int i, .int j, .int c] /\ CR3 i /\ CR3 j /\ 0 < c /\ c < 2 ^ 20 /\ R (d0 i c (dn i j c))
def pT (ta : DA) : DA := fun ρ R => ta ρ fun ds => ∃ i j : Int, ds = [.int i, .int j] /\ CR3 i /\ CR3 j /\ R (d0 i 1 (dn i j 1))
def lQ (ta : DA) : DA := fun ρ R => ta ρ fun ds => ∃ j : Int, ds = [.int j] /\ CR3 j /\ R (d0 0 1 (dn 0 j 1))
theorem nj {tg a : Expr} {ta : DA} {p pos : Pos} (hg : Gl X "range") (hm : X.mg "range" = none) (ha : PAD X [a] ta) (hs : starEach [a] X.env = (false, eval a X.env) :: starEach [] X.env := by rfl) (hs2 : (backTo pos (starEach [] X.env)).any (·.1) = false := by rfl) :
  PID X tg (.Call (.Name "range" p) [a] [] pos) (lQ ta) := by
 intro pins s σ H W ρ R I r h
 refine Call_ (cq I hg hm boot_range (PyProof.Rows.callWith_type1 (thn (ha pos pins s σ H W ρ _ I r h) fun us s1 ⟨vs, H1, ds, I1, r1, e1, hd, q1⟩ => ?_) hs hs2))
 obtain ⟨j, e, ⟨b1, b2⟩, q⟩ := q1
 subst e
 obtain ⟨v1, rfl, d1⟩ := iQ hd
 have z1 := d1.int_
 subst z1
 cases r1 with
 | cons ra rr =>
  cases rr
  obtain ⟨t, rfl⟩ := ra
  refine call_range_1 ?_
  exact thn (nS (W := W) (R := R) I1 (by decide) (by decide) b1 b2 (by decide) (by decide) q) fun itv s2 ⟨it, fp, tn, J, H', ds, x1, x2, x3, x4, x5, x6, x7, x8⟩ => ⟨it, fp, tn, J, H', ds, x1, x2, e1.trans x3, x4, x5, x6, x7, x8⟩
def oF (wi : DA) (g : DG) (tb : DS) : DS := fun E ρ => wi ρ fun ds => ∃ Pv : Nat -> Ro -> Prop, Pv 0 ρ ∧
 (∀ j x ρ', ds[j]? = some x -> Pv j ρ' -> g x ρ' fun ρ2 => tb { E with nx := Pv (j + 1), ct := Pv (j + 1), bk := E.nx } ρ2) /\ ∀ ρ', Pv ds.length ρ' -> E.nx ρ'
theorem jg {tg iter : Expr} {body : List Stmt} {wi : DA} {g : DG} {tb : DS} (hp : PassesOwn (model X.prog X.w) X.A X.env X.xe) (hc : X.calm = true) (hi : PID X tg iter wi) (hg : PGD X tg g) (hb : bA X body tb)
  (hs : ∀ x, foldedSetIterable iter X.env x = pure x := by intro _; rfl) : PSD X (.For tg iter body [] pos) (oF wi g tb) := by
 intro pins s σ H W ρ E I r h
 refine wpAny_For (thn (hi pins s σ H W ρ _ I r h) fun v s1 h1 => thn h1 fun itv s2 h2 => ?_) hs
 obtain ⟨it, fp, tn, J, H2, ds, e, I2, e2, T, st2, f2, yd, Pv, p0, turn, pd⟩ := h2
 subst e
 have r2 := r.same e2
 have stat : ∀ {H' : Hp}, (∀ b ∈ fp, H' b = none) -> ∀ b ∈ fp, bF X pins H' b := fun hn b hb => ⟨hn b hb, (f2 b hb).2⟩
 refine codeAny_forLoop_any (fun n s' => ∃ i W' σ' H' ρ', n = ds.length - i /\ i <= ds.length /\ Inv X pins σ' H' s' /\ tn i s'.heap /\ (∀ b ∈ fp, H' b = none) /\ Fwd W H2 W' H' /\ Rel X W' H' σ' ρ' /\ Pv i ρ') ?_ ds.length ⟨0, W, σ, H2, ρ, by simp, zAZ _, I2, st2, fun b hb => (f2 b hb).1, Fwd.refl W H2, r2, p0⟩
 rintro n s3 ⟨i, W3, σ3, H3, ρ3, en, hle, I3, st3, fr3, fw3, r3, p3⟩
 obtain ⟨yg, yy, ys⟩ := yd W3.bad H3 (rK r2 fw3) (rJ r3 fw3) (rL r2 fw3) i
 by_cases hlt : i < ds.length
 ·refine wpAny_passesOwn hp (thn (T.item X rfl rfl rfl hc i pins s3 σ3 H3 X.xe I3 (stat fr3) st3 (yg hlt)) fun rr s4 ⟨u, hr, h4⟩ => ?_)
  subst hr
  refine wpAny_passesOwn hp (thn h4 fun _ s5 ⟨x, H5, I5, r5, y5, st5, fr5⟩ => ?_)
  obtain ⟨e5, d, hd, hden⟩ := yy x H5 y5 hlt
  have I5' := I5.pinned (stat fr5) (T.obj _ _ st5)
  have rl5 := r3.same e5
  refine wpAny_passesOwn hp (thn (hg _ s5 σ3 H5 W3 ρ3 d x u _ I5' rl5 r5 hden (turn i d ρ3 hd p3)) fun _ s6 ⟨W6, σ6, H6, ρ6, I6, f6, r6, q6⟩ => ?_)
  refine wpAny_passesOwn hp (thn (hb _ s6 σ6 H6 W6 ρ6 _ I6 r6 q6) fun f s7 q7 => ?_)
  obtain ⟨W7, σ7, H7, I7, f7, q7⟩ := q7
  have fw7 : Fwd W H2 W7 H7 := fw3.trans ((Fwd.same e5).trans (f6.trans f7))
  have fw70 : Fwd W H W7 H7 := (Fwd.same e2).trans fw7
  have again : ∀ {ρ7 : Ro}, Rel X W7 H7 σ7 ρ7 -> Pv (i + 1) ρ7 -> ∃ m, m < n /\ ∃ i W' σ' H' ρ', m = ds.length - i /\ i <= ds.length /\ Inv X pins σ' H' s7 /\ tn i s7.heap /\ (∀ b ∈ fp, H' b = none) /\ Fwd W H2 W' H' /\ Rel X W' H' σ' ρ' /\ Pv i ρ' := fun {ρ7} r7 p7 => by
   refine ⟨ds.length - (i + 1), by omega, i + 1, W7, σ7, H7, ρ7, rfl, hlt, I7.unpinned, T.keep _ _ _ st5 fun b hb o e => (I7.pin (b, o) (zAI _ (zAI _ (bu hb e)))).1, fun b hb => ?_, fw7, r7, p7⟩
   obtain ⟨o, e, d⟩ := T.obj _ _ st5 b hb
   exact (I7.pin (b, o) (zAI _ (zAI _ (bu hb e)))).2.1
  cases f with
  | next => obtain ⟨ρ7, r7, n7⟩ := q7; exact again r7 n7
  | cont => obtain ⟨ρ7, r7, n7⟩ := q7; exact again r7 n7
  | brk => obtain ⟨ρ7, r7, q7⟩ := q7; exact ⟨W7, σ7, H7, I7.unpinned, fw70, ρ7, r7, q7⟩
  | ret v => obtain ⟨x7, d7, r7, h7, q7⟩ := q7; exact ⟨W7, σ7, H7, I7.unpinned, fw70, x7, d7, r7, h7, q7⟩
 ·have e : i = ds.length := by omega
  refine wpAny_passesOwn hp (thn (T.done X rfl rfl rfl hc i pins s3 σ3 H3 X.xe I3 (stat fr3) st3 (ys (by omega))) fun rr s4 ⟨hr, I4⟩ => ?_)
  subst hr
  subst e
  exact wpAny_execs_nil ⟨W3, σ3, H3, I4, (Fwd.same e2).trans fw3, ρ3, r3, pd ρ3 p3⟩
def rB (i j : Nat) (ta : DA) : DS := fun E ρ => ta ρ fun ds => ∃ d e, ds = [d, e] /\ E.nx ((ρ.set i (some (.val d))).set j (some (.val e)))
end
def aK (N : List Str) (ds : List D) : Ro := ds.map (fun d => some (.val d)) ++ List.replicate (N.length - ds.length) none
theorem Rel.start {X : Cx} {P : Addr -> Prop} {H : Hp} {N : List Str} {ds : List D} {vs : List V} (hP : ∀ a, P a -> ∃ o, H a = some o) (h : ae X.K (fun t a => t = true ∨ P a) H ds vs) (hH : X.H₀ = H) (hT : de X.K H) : Rel X ⟨P, fun _ => none, fun a => ∃ o, H a = some o⟩ H (start N vs) (aK N ds) where
 val := fun i d e => by
  unfold aK at e
  have hl := h.len
  by_cases hi : i < ds.length
  ·rw [zAV (by simpa using hi), zAN] at e
   cases q : ds[i]? with
   | none => rw [q] at e; cases e
   | some d' =>
    rw [q] at e
    have e' : d' = d := by simpa using e
    subst e'
    obtain ⟨v, h1, h2⟩ := h.get q
    refine ⟨v, ?_, h2.fewer fun tg a z => ?_⟩
    ·unfold L2.start
     rw [zAV (by simpa [hl] using hi), zAN, h1]
     rfl
    ·rcases z with z | ⟨j, z⟩ | ⟨z, _⟩
     ·exact .inr z
     ·cases z
     ·exact .inl z
  ·rw [zAM (by simpa using hi), zAj] at e
   split at e <;> cases e
 own := fun i d e => by
  unfold aK at e
  by_cases hi : i < ds.length
  ·rw [zAV (by simpa using hi), zAN] at e
   cases q : ds[i]? with
   | none => rw [q] at e; cases e
   | some d' => rw [q] at e; cases e
  ·rw [zAM (by simpa using hi), zAj] at e
   split at e <;> cases e
 inj := fun i j a h _ => by cases h
 kn := fun i a h => by cases h
 ke := fun i a h => by cases h
 bt := hP
 st := fun _ z => z
 ent := by rw [hH]; exact af.refl H
 tab := hT
end PD
namespace PD
open PySem PySem.Spec PyProof.Rows L2 PX
theorem aN.there {P : Program} {w : World} {H : Hp} {h : Heap} {a : Addr} {o : HO} (x : aN P w H h a o) : ∃ u, h.get? a = some u := by
 cases o with
 | lst xs => obtain ⟨_, _, _, _, e⟩ := x; exact ⟨_, e⟩
 | tup xs => obtain ⟨_, _, _, ob, e, _⟩ := x; exact ⟨ob, e⟩
 | dK kvs => obtain ⟨_, _, _, _, ob, _, _, e, _⟩ := x; exact ⟨ob, e⟩
 | dT kvs => obtain ⟨_, _, _, _, ob, _, _, e, _⟩ := x; exact ⟨ob, e⟩
 | set S n => obtain ⟨ob, _, _, _, e, _⟩ := x; exact ⟨ob, e⟩
 | ins C dx fs => obtain ⟨_, _, _, e, _⟩ := x; exact ⟨_, e⟩
 | own y => exact x
 | xd fs => obtain ⟨_, ⟨ob, _, _, e, _⟩, _⟩ := x; exact ⟨ob, e⟩
 | rng lo hi => obtain ⟨_, _, _, e⟩ := x; exact ⟨_, e⟩
 | frz ob u => obtain ⟨e, _⟩ := x; exact ⟨ob, e⟩
 | tbl ps => exact ⟨_, x⟩
 | met f y => exact ⟨_, x⟩
 | ext φ => obtain ⟨_, e, _⟩ := x; exact e
theorem HOk.keptT {P : Program} {w : World} {H : Hp} {h h' : Heap} (x : HOk P w H h) (k : ∀ b u, (∃ o, H b = some o) -> h.get? b = some u -> h'.get? b = some u) : HOk P w H h' := fun a o e =>
 (x a o e).stay (fun b u hb q => k b u (by
  rcases hb with z | z
  ·subst z; exact ⟨o, e⟩
  ·exact ⟨_, z⟩) q) (fun _ q => q) fun _ _ q => q
structure Fl (P : Program) (w : World) (l : List Env) (h₀ : Heap) (H₀ H : Hp) (B h : Heap) : Prop where
 un : Un (frs l) [] H₀ H h₀ h
 hok : HOk P w H h
 fr : ∀ b ∈ frs l, H₀ b = none /\ ∃ o, h₀.get? b = some o /\ ∀ vs, o.data ≠ .fields vs
 cov : ∀ b o, h.get? b = some o -> ((∃ u, H b = some u) ∨ ∃ o', h₀.get? b = some o') -> b ∉ frs l -> B.get? b = some o
section
variable {P : Program} {w : World} {l : List Env} {h₀ : Heap} {H₀ H : Hp} {B h h' : Heap}
theorem Fl.free (F : Fl P w l h₀ H₀ H B h) {b : Addr} (hb : b ∈ frs l) : H b = none := by
 obtain ⟨n, o, e, _⟩ := F.fr b hb
 exact F.un.free b o e n (by simp)
theorem Fl.step (F : Fl P w l h₀ H₀ H B h) (st : B.StaysIn h') (sl : h.UpToSlots h') : Fl P w l h₀ H₀ H B h' := by
 have fr1 : ∀ b o, b ∈ frs l -> h₀.get? b = some o -> ∃ s', h'.get? b = some { o with slots := s' } := fun b o hb e => by
  obtain ⟨n, o', e', hd⟩ := F.fr b hb
  rw [e] at e'
  cases e'
  obtain ⟨s1, e1⟩ := F.un.slot b o e n hb (by simp)
  obtain ⟨s2, e2⟩ := sl b _ e1 hd
  exact ⟨s2, e2⟩
 have kp : ∀ b o, h.get? b = some o -> ((∃ u, H b = some u) ∨ ∃ o', h₀.get? b = some o') -> b ∉ frs l -> h'.get? b = some o := fun b o e c n => st b o (F.cov b o e c n)
 refine ⟨⟨fun b o e n hb hx => kp b o (F.un.keep b o e n hb hx) (.inr ⟨o, e⟩) hb, fun b o e n hb hx => fr1 b o hb e, F.un.free, fun b o e hx => ?_, F.un.tups, F.un.frzs, F.un.tbls⟩, PD.HOk.keptT F.hok (fun b u hu e => kp b u e (.inl hu) fun z => ?_), F.fr, fun b o e c n => ?_⟩
 ·by_cases hb : b ∈ frs l
  ·obtain ⟨s2, e2⟩ := fr1 b o hb e
   exact ⟨_, e2⟩
  ·obtain ⟨o', e1⟩ := F.un.there b o e hx
   exact ⟨o', kp b o' e1 (.inr ⟨o, e⟩) hb⟩
 ·obtain ⟨o, q⟩ := hu
  rw [F.free z] at q
  cases q
 ·have : ∃ o1, h.get? b = some o1 := by
   rcases c with ⟨u, c⟩ | ⟨o', c⟩
   ·exact PD.aN.there (F.hok b u c)
   ·exact F.un.there b o' c (by simp)
  obtain ⟨o1, e1⟩ := this
  have q := kp b o1 e1 c n
  rw [e] at q
  cases q
  exact F.cov b o e1 c n
end
def CX1 (P : Program) (w : World) : CXT := fun outer H s E e s' => ∃ (ea c : Addr) (H' : Hp) (B : Heap) (a0 : Value), e = .ref ea /\ s'.os = s.os /\ AllBare s'.gens /\ Fl P w outer s.heap H H' B s'.heap /\ af H H' /\ H' ea = none /\ s.heap.get? ea = none ∧
 Heap.FlyingW B outer ea (.ref c) a0 s'.heap /\ E (.ref c) none H'
theorem mh {P : Program} {w : World} {X : Cx} : Passes (CX1 P w) X E0 := fun _ _ _ _ _ _ _ h => by
 obtain ⟨_, _, _, _, _, _, _, _, _, _, _, _, _, z⟩ := h
 exact z.elim
def MadeX (X : Cx) (Ed : Value -> Prop) : Prop := ∀ (pins : List (Addr × Obj)) (σ : St) (H : Hp) (W : Own) (ρ : Ro) (s : Shared) (e c : Addr) (vs : List Value) (h' : Heap), Inv X pins σ H s -> Rel X W H σ ρ -> Heap.MadeExcOf s.heap h' e (.ref c) vs -> Ed (.ref c) -> X.xe (.ref e) { s with heap := h' }
def bg (X : Cx) (Ed : Value -> Prop) : Prop := ∀ (pins : List (Addr × Obj)) (σ : St) (H : Hp) (W : Own) (ρ : Ro) (s : Shared) (e : Value) (s' : Shared), Inv X pins σ H s -> Rel X W H σ ρ -> CX1 X.prog X.w X.stack H s (fun c _ _ => Ed c) e s' -> X.xe e s'
section
variable {P : Program} {w : World} {K : PySem.W.Frag} {mg : Str -> Option Value} {base : Heap} {N : List Str} {qual : Str} {sc : Scope} {f : Addr} {cd : Value} {A : Around} {outer : List Env} {s₀ : Shared} {H₀ : Hp} {E : XK}
theorem i7 {pins : List (Addr × Obj)} {σ : St} {H : Hp} {s : Shared} {B h' : Heap} {e c : Addr} {a0 : Value} (I : Inv (bB (CX1 P w) P w K mg base N qual sc f cd A outer s₀ H₀ E) pins σ H s) (hS : af H₀ H) (hn : H e = none) (hn0 : s₀.heap.get? e = none)
  (cov : ∀ b o, s.heap.get? b = some o -> ((∃ u, H b = some u) ∨ ∃ o', s₀.heap.get? b = some o') -> b ∉ frs (envOfC qual sc s₀.heap.objs.size f cd :: outer) -> B.get? b = some o)
  (fl : Heap.FlyingW B outer e (.ref c) a0 h') (sl : s.heap.UpToSlots h') (hE : E (.ref c) none H) : CX1 P w outer H₀ s₀ E (.ref e) { s with heap := h' } := by
 have nf : ∀ b, ((∃ u, H b = some u) ∨ ∃ o', s₀.heap.get? b = some o') -> b ∉ frs outer -> b ∉ frs (envOfC qual sc s₀.heap.objs.size f cd :: outer) := fun b c n z => by
  rcases c with ⟨u, c⟩ | ⟨o', c⟩
  ·have := I.stkFree b z
   rw [c] at this
   cases this
  ·rcases zAU.mp (I.stkSub b z) with q | q
   ·have h1 := zAC c
    have h2 : s₀.heap.objs.size <= b := by rw [q]; exact I.ok.above
    exact absurd (zAG h1 h2) (zAe _)
   ·exact n q
 have F : Fl P w outer s₀.heap H₀ H B s.heap := ⟨I.base, I.hok, fun b hb => ⟨I.ok.frf b hb, by
  obtain ⟨_, o, e, d⟩ := I.ok.funs.mem hb
  exact ⟨o, e, d⟩⟩, fun b o e c n => cov b o e c (nf b c n)⟩
 exact ⟨e, c, H, B, a0, rfl, I.os, I.bare, F.step fl.1 sl, hS, hn, hn0, fl, hE⟩
theorem tD {Ed : Value -> Prop} (hE : ∀ c a H', af H₀ H' -> Ed c -> E c a H') : MadeX (bB (CX1 P w) P w K mg base N qual sc f cd A outer s₀ H₀ E) Ed := by
 intro pins σ H W ρ s e c vs h' I r hx hd
 show wpAny (model P w) (A.deeper (envOfC qual sc s₀.heap.objs.size f cd)) (leaving (envOfC qual sc s₀.heap.objs.size f cd) (.ref e)) _ _ _
 refine wpAny_leaves_madeW (base := PySem.W.hideAll s.heap (frs (envOfC qual sc s₀.heap.objs.size f cd :: outer))) (h := s.heap) (outer := outer) I.ok.frames rfl (fun b o q => PySem.W.of_hideAll _ q)
  (PySem.W.funFrames_hide I.stack fun env he b hb => zBD.mpr ⟨env, he, hb⟩) hx fun h'' t x1 _ _ x4 => ?_
 have ne : ∀ {h1 : Heap}, (∀ b o, h1.get? b = some o -> ∃ o', s.heap.get? b = some o') -> h1.get? e = none := fun {h1} k => by
  cases q : h1.get? e with
  | none => rfl
  | some o =>
   obtain ⟨o', q'⟩ := k e o q
   rw [hx.new] at q'
   cases q'
 refine i7 (s := s) (h' := h'') I r.ent ?_ (ne fun b o q => I.base.there b o q (by intro z; cases z)) (fun b o q _ n => PySem.W.hideAll_get _ q n) x1 (fun b o q d => ?_) (hE _ _ _ r.ent hd)
 ·cases q : H e with
  | none => rfl
  | some u =>
   obtain ⟨o, z⟩ := PD.aN.there (I.hok e u q)
   rw [hx.new] at z
   cases z
 ·exact x4 b o (hx.keeps b o q) d
theorem qR {Ed : Value -> Prop} (hE : ∀ c a H', af H₀ H' -> Ed c -> E c a H') : bg (bB (CX1 P w) P w K mg base N qual sc f cd A outer s₀ H₀ E) Ed := by
 intro pins σ H W ρ s e s' I r hx
 obtain ⟨ea, c, H', B, a0, rfl, os, bare, F, sm, hn, hn0, fl, hd⟩ := hx
 show wpAny (model P w) (A.deeper (envOfC qual sc s₀.heap.objs.size f cd)) (leaving (envOfC qual sc s₀.heap.objs.size f cd) (.ref ea)) _ _ _
 refine wpAny_leaves_onW (outer := outer) I.ok.frames rfl fl fun h'' x1 x2 => ?_
 have I' := I.call' os F.un F.hok bare (by intro b z; cases z)
 refine i7 (s := s') (h' := h'') I' (r.ent.trans sm) hn ?_ (fun b o q z n => F.cov b o q (z.elim .inl fun ⟨o', z⟩ => .inr (I.base.there b o' z (by intro q; cases q))) n) x1 x2 (hE _ _ _ (r.ent.trans sm) hd)
 cases q : s₀.heap.get? ea with
 | none => rfl
 | some o =>
  obtain ⟨o', q'⟩ := I.base.there ea o q (by intro z; cases z)
  rw [hn0] at q'
  cases q'
end
section
variable {X : Cx} {k : Nat} {f : Addr} {fd : FuncData} {ps : List Str} {sp : DSp} {x : Str} {p pos : Pos} {e : Expr} {es : List Expr} {t : DA}
theorem nV {dds : List D} {dsv : List Value} {Ed : Value -> Prop} {XE : Value -> Shared -> Prop} (F : aE X.prog X.w X.K X.mg X.base (CX1 X.prog X.w) k f fd ps (aM X.K sp)) (hr : aH k X.A) (hb : Binds X.K fd ps dsv) (hd : Vals (dds.map fB) dsv) (hs : ∀ d ∈ dds, gI d)
  {pins : List (Addr × Obj)} {σ : St} {H : Hp} {s : Shared} {W : Own} {ρ : Ro} {us : List Value} {vs : List V} {ds : List D} {Q : D -> Prop} (I : Inv X pins σ H s) (rr : Rel X W H σ ρ) (r : Vals vs us) (hds : ae X.K W.bad H ds vs)
  (q : sp (ay ds ++ dds) Q Ed) (hx : ∀ e s', CX1 X.prog X.w X.stack H s (fun c _ _ => Ed c) e s' -> XE e s') : wpAny (model X.prog X.w) X.A (call (.ref f) us) (DP X pins σ W H Q) XE s := by
 have r2 : Vals (vs ++ dds.map fB) (us ++ dsv) := r.append hd
 have hsp : aM X.K sp (vs ++ dds.map fB) H (fun v H' => af H H' /\ ∃ d, Den X.K W.bad H' d v /\ Q d) (fun c _ _ => Ed c) :=
  ⟨W.bad false, ay ds ++ dds, Q, Ed, rr.tab, rr.tracked false, (ae.av (fun _ _ => Own.bad_up) ds vs hds).append (ae.hW hs), q, fun d v H' e h1 h2 => ⟨e, d, Den.back rr.tracked h1, h2⟩, fun _ _ _ _ z => z⟩
 have hl : (us ++ dsv).length = ps.length := by rw [<- r2.length]; exact F.len _ _ _ _ hsp
 refine wpAny_call (codeAny_mono (F.run X.A X.stack s H ⟨us, []⟩ (us ++ dsv) (vs ++ dds.map fB) _ _ hr I.env0 (hb s us I.kIn hl) r2 hsp) fun res s' hq => ?_)
 cases res with
 | error er => exact hx er s' hq
 | ok fl =>
  cases fl with
  | ret u =>
   obtain ⟨v, H2, I2, r2, e2, d, h1, h2⟩ := I.after hq
   exact ⟨v, H2, d, I2, r2, e2, h1, h2⟩
  | next => exact False.elim hq
  | brk => exact False.elim hq
  | cont => exact False.elim hq
def gx (sp : DSp) (Ed : Value -> Prop) (dds : List D) (t : DA) : DE := fun ρ Q => t ρ fun ds => sp (ay ds ++ dds) Q Ed
theorem mM {dds : List D} {dsv : List Value} {Ed : Value -> Prop} (px : bg X Ed) (F : aE X.prog X.w X.K X.mg X.base (CX1 X.prog X.w) k f fd ps (aM X.K sp)) (hr : aH k X.A) (hg : Gl X x) (hm : X.mg x = some (.ref f)) (hk : PySem.W.keepIn X.K (.ref f) = true) (hb : Binds X.K fd ps dsv) (hd : Vals (dds.map fB) dsv) (hs : ∀ d ∈ dds, gI d)
  (ha : PAD X (e :: es) t) (hdb : (x == ("__debug__" : Str)) = false := by decide) (he : starEach (e :: es) X.env = (false, eval e X.env) :: starEach es X.env := by rfl) (hpl : (backTo pos (starEach es X.env)).any (·.1) = false := by rfl) :
  PED X (.Call (.Name x p) (e :: es) [] pos) (gx sp Ed dds t) := by
 intro pins s σ H W ρ Q I rr h
 refine wpAny_Call_Name_kw (ck I hg hm ?_ hdb)
 refine PySem.W.callWith_K (h₀ := X.base) I.ok.mod.kin hk (thn (ha pos pins s σ H W ρ _ I rr h) fun us s1 ⟨vs, H1, ds, I1, r, e1, hds, q⟩ => ⟨I1.kIn, ?_⟩) he hpl
 exact thn (nV F hr hb hd hs I1 (rr.same e1) r hds q fun er s' hx => px pins σ H1 W ρ s1 er s' I1 (rr.same e1) hx) fun _ _ z => z.up e1
end
theorem qH {K : PySem.W.Frag} {h : Heap} {C : Addr} {bmB : List Value} {newId : String} (X : K.In h) (q : PySem.W.excIn K C bmB newId = true) : ∃ tl N nm qn bs hd sn sub ab col dd k0 k1 k2 k3 k5 mN,
  h.get? C = some (excClassObj nm qn C N bs tl hd sn sub ab col dd k0 k1 k2 k3 k5 newId) /\ h.Ns N mN /\ mN "__init__" = none /\ OwnTail h bmB tl := by
 unfold PySem.W.excIn at q
 split at q
 next dd cd sl ho =>
  split at q
  next C' tl k0 k1 k2 k3 n k5 hm hs =>
   simp only [zAW, beq_iff_eq, Bool.not_eq_true'] at q
   obtain ⟨⟨⟨⟨⟨e1, e2⟩, hdel⟩, ht⟩, hok⟩, hni⟩ := q
   subst e1 e2
   cases cd with
   | mk nm bs mro ns qn hd sn sub ab col del =>
    simp only at hm hdel hok hni
    subst hm hdel
    have hsl : sl = #[k0, k1, k2, k3, some (.builtin n), k5] := by
     apply Array.ext'
     rw [hs]
    subst hsl
    exact ⟨tl, ns, nm, qn, bs, hd, sn, sub, ab, col, dd, k0, k1, k2, k3, k5, _, X _ _ ho, .of_isNs (PySem.W.isNs_of_in X hok), PySem.W.nsMap_none_of_in X hok hni, PySem.W.tail_of_in X ht⟩
  next => cases q
 next => cases q
abbrev mj : List Value := [.type "ValueError", .type "Exception", .type "BaseException", .type "object"]
section
variable {X : Cx} {pos : Pos}
theorem cF {x : Str} {C : Addr} {e : Expr} {es : List Expr} {t : DA} {np cpos : Pos} {Ed : Value -> Prop} (pm : MadeX X Ed) (hg : Gl X x) (hm : X.mg x = some (.ref C)) (q : PySem.W.excIn X.K C mj "ValueError.__new__" = true) (hc : X.calm = true) (ha : PAD X (e :: es) t)
  (he : starEach (e :: es) X.env = (false, eval e X.env) :: starEach es X.env := by rfl) (hpl : (backTo cpos (starEach es X.env)).any (·.1) = false := by rfl) (hdb : (x == ("__debug__" : Str)) = false := by decide) :
  PSD X (.Raise (some (.Call (.Name x np) (e :: es) [] cpos)) none pos) (fun _ ρ => t ρ fun ds => ds.length <= sizeLine /\ Ed (.ref C)) := by
 intro pins s σ H W ρ E I r h
 obtain ⟨tl, N, nm, qn, bs, hd, sn, sub, ab, col, dd, k0, k1, k2, k3, k5, mN, hC, hN, hni, T⟩ := qH I.ok.mod.kin q
 have FB := PySem.F.excBase_ValueError
 refine wpAny_Raise_call_subT (C := C) (nm := nm) (q := qn) (N := N) (bs := bs) (bm := tl) (hdct := hd) (sn := sn) (sub := sub) (ab := ab) (col := col) (dd := dd) (k0 := k0) (k1 := k1) (k2 := k2) (k3 := k3) (k5 := k5) FB (mN := mN) (T.hasType FB.hasBase) (I.ok.hd hc)
  (by rw [he]; show (false || (backTo cpos (starEach es X.env)).any (·.1)) = false; rw [hpl]; rfl) hni (ck I hg hm ⟨rfl, ?_⟩ hdb)
 have hz := ha cpos pins s σ H W ρ _ I r h
 rw [he] at hz ⊢
 refine Calls.evalArgs_plain (thn hz fun us s1 ⟨vs, H1, ds, I1, rv, e1, hds, z, hE⟩ => ?_)
 exact ⟨rfl, by rw [<- hds.len, rv.length] at z; exact z, I1.bk _ _ hC, hN.keeps I1.bk, T.keeps I1.bk, fun h' ea hm => pm pins σ H1 W ρ s1 ea C us h' I1 (r.same e1) hm hE⟩
theorem Rel.wish {W : Own} {H : Hp} {σ : St} {ρ : Ro} (r : Rel X W H σ ρ) (E : Value -> Shared -> Prop) : Rel (X.wish E) W H σ ρ := ⟨r.val, r.own, r.inj, r.kn, r.ke, r.bt, r.st, r.ent, r.tab⟩
theorem Rel.unwish {W : Own} {H : Hp} {σ : St} {ρ : Ro} {E : Value -> Shared -> Prop} (r : Rel (X.wish E) W H σ ρ) : Rel X W H σ ρ := ⟨r.val, r.own, r.inj, r.kn, r.ke, r.bt, r.st, r.ent, r.tab⟩
theorem SPD.unwish {pins : List (Addr × Obj)} {W : Own} {H : Hp} {E : dE} {f : Flow} {s' : Shared} {XE : Value -> Shared -> Prop} (h : SPD (X.wish XE) pins W H E f s') : SPD X pins W H E f s' := by
 obtain ⟨W', σ', H', I, fw, q⟩ := h
 refine ⟨W', σ', H', I.unwish, fw, ?_⟩
 cases f with
 | next => obtain ⟨ρ', r, q⟩ := q; exact ⟨ρ', r.unwish, q⟩
 | brk => obtain ⟨ρ', r, q⟩ := q; exact ⟨ρ', r.unwish, q⟩
 | cont => obtain ⟨ρ', r, q⟩ := q; exact ⟨ρ', r.unwish, q⟩
 | ret u => exact q
theorem PSD.nox {st : Stmt} {t : DS} (h : PSD X.nox st t) : PSD X st t := fun pins s σ H W ρ E I r hw =>
 wpAny_mono (h pins s σ H W ρ E (I.wish _) (r.wish _) hw) (fun _ _ q => q.unwish) fun _ _ z => False.elim z
theorem bA.nox {st : List Stmt} {t : DS} (h : bA X.nox st t) : bA X st t := fun pins s σ H W ρ E I r hw =>
 wpAny_mono (h pins s σ H W ρ E (I.wish _) (r.wish _) hw) (fun _ _ q => q.unwish) fun _ _ z => False.elim z
theorem PED.nox {e : Expr} {t : DE} (h : PED X.nox e t) : PED X e t := fun pins s σ H W ρ Q I r hw =>
 wpAny_mono (h pins s σ H W ρ Q (I.wish _) (r.wish _) hw) (fun _ _ ⟨v, H', d, I', q⟩ => ⟨v, H', d, I'.unwish, q⟩) fun _ _ z => False.elim z
abbrev Cx.markX (X : Cx) (e : Value) : Cx := { X with A := X.A.mark (some e), calm := false, xe := fun _ _ => False }
theorem Inv.marked {pins : List (Addr × Obj)} {σ : St} {H : Hp} {s : Shared} (I : Inv X pins σ H s) (e : Value) : Inv (Cx.markX X e) pins σ H s :=
 have ok := I.ok
 ⟨⟨ok.mod, ok.kind, ok.glob, ok.blt, ok.above, ok.inj, ok.has, ok.cab, (fun z => by cases z), ok.frames, ok.stk, ok.exf, ok.bs, ok.bsz, ok.noex, ok.exfs, ok.funs, ok.frf⟩, I.os, I.bare, I.base, I.loc, I.cell, I.free, I.freeC, I.pin, I.hok, I.len⟩
theorem Inv.unmark {pins : List (Addr × Obj)} {σ : St} {H : Hp} {s : Shared} {e : Value} (J : Inv (Cx.markX X e) pins σ H s) (ok : X.Ok) : Inv X pins σ H s :=
 ⟨ok, J.os, J.bare, J.base, J.loc, J.cell, J.free, J.freeC, J.pin, J.hok, J.len⟩
theorem Rel.marked {W : Own} {H : Hp} {σ : St} {ρ : Ro} (r : Rel X W H σ ρ) (e : Value) : Rel (Cx.markX X e) W H σ ρ := ⟨r.val, r.own, r.inj, r.kn, r.ke, r.bt, r.st, r.ent, r.tab⟩
theorem Rel.unmark {W : Own} {H : Hp} {σ : St} {ρ : Ro} {e : Value} (r : Rel (Cx.markX X e) W H σ ρ) : Rel X W H σ ρ := ⟨r.val, r.own, r.inj, r.kn, r.ke, r.bt, r.st, r.ent, r.tab⟩
theorem Inv.track {pins : List (Addr × Obj)} {σ : St} {H : Hp} {s : Shared} {e : Addr} {o : HO} (I : Inv X pins σ H s) (hn : H e = none) (h0 : X.s₀.heap.get? e = none) (hL : e ≠ X.env.locals) (hc : ∀ x c, X.env.cells.lookup x = some c -> c ≠ e) (hp : ∀ p ∈ X.pn ++ pins, p.1 ≠ e)
  (new : aN X.prog X.w (L2.upd H e o) s.heap e o) : Inv X pins σ (L2.upd H e o) s := by
 refine ⟨I.ok, I.os, I.bare, ⟨I.base.keep, I.base.slot, fun b u q n x => ?_, I.base.there, fun b xs q => ?_, fun b u xs q => ?_, fun b ps q => ?_⟩, I.loc, I.cell, by rw [aj (Ne.symm hL)]; exact I.free, fun x c q => by rw [aj (hc x c q)]; exact I.freeC x c q, fun p q => ?_, fun b u q => ?_, I.len⟩
 ·rw [aj (fun z => by rw [z, h0] at q; cases q)]
  exact I.base.free b u q n x
 ·have := I.base.tups b xs q
  rw [aj (aA this hn)]
  exact this
 ·have := I.base.frzs b u xs q
  rw [aj (aA this hn)]
  exact this
 ·obtain ⟨more, this⟩ := I.base.tbls b ps q
  exact ⟨more, by rw [aj (aA this hn)]; exact this⟩
 ·obtain ⟨p1, p2, p3⟩ := I.pin p q
  exact ⟨p1, by rw [aj (hp p q)]; exact p2, p3⟩
 ·by_cases hb : b = e
  ·subst hb
   rw [aw] at q
   cases q
   exact new
  ·rw [aj hb] at q
   exact (I.hok b u q).stay (fun c v _ z => z) (fun c z => by rw [aj (aA z hn)]; exact z) fun c xs z => by rw [aj (aA z hn)]; exact z
theorem nL {M : Model} {A : Around} {E : Value -> Shared -> Prop} {pins : List (Addr × Obj)} {σ : St} {H : Hp} {s : Shared} {i : Nat} {n : Str} {Q : Unit -> Shared -> Prop} (I : Inv X pins σ H s) (hN : X.N.Nodup) (hi : X.N[i]? = some n) (hk : X.env.scope.names.lookup n = some .local)
  (h : ∀ s', Inv X pins (σ.set i none) H s' -> Q () s') : wpAny M A (do bindName X.env n .none; unbindBehindTheSuite X.env n pos) Q E s := by
 obtain ⟨m, hn, hl⟩ := id I.loc
 refine wpAny_nameGoes_keeps hk hn (by rw [I.ok.kind]; rfl) fun h' v hn' hs => h _ ?_
 have neL : ∀ b o, X.s₀.heap.get? b = some o -> b ≠ X.env.locals := fun b o e => zAT (zAG (zAC e) I.ok.above)
 refine ⟨I.ok, I.os, I.bare, ⟨fun b o e z hb hx => (hs.2 b (neL b o e)).trans (I.base.keep b o e z hb hx), fun b o e z hb hx => ?_, I.base.free, fun b o e hx => ?_, I.base.tups, I.base.frzs, I.base.tbls⟩, ⟨_, hn', fun j y v' e1 e2 e3 => ?_⟩, fun y c e => ?_, I.free, I.freeC, fun p hp => ?_, fun b ob e => ?_, by simpa using I.len⟩
 ·obtain ⟨sl, e1⟩ := I.base.slot b o e z hb hx
  exact ⟨sl, (hs.2 b (neL b o e)).trans e1⟩
 ·obtain ⟨o', e1⟩ := I.base.there b o e hx
  exact ⟨o', (hs.2 b (neL b o e)).trans e1⟩
 ·by_cases hj : j = i
  ·subst hj
   rw [List.getElem?_set] at e2
   simp at e2
  ·rw [zAA (Ne.symm hj)] at e2
   obtain ⟨u', r', q⟩ := hl j y v' e1 e2 e3
   refine ⟨u', r', ?_⟩
   rcases q with ⟨k, e⟩ | ⟨k, c, e, z⟩
   ·refine .inl ⟨k, ?_⟩
    have : y ≠ n := fun e => hj (gi hN e1 (e ▸ hi))
    simp [this, e]
   ·exact .inr ⟨k, c, e, z.sameBut hs (I.cne y c e)⟩
 ·obtain ⟨w', z⟩ := I.cell y c e
  exact ⟨w', z.sameBut hs (I.cne y c e)⟩
 ·obtain ⟨e, z, ne, nf, d⟩ := I.pin p hp
  exact ⟨(hs.2 p.1 ne).trans e, z, ne, nf, d⟩
 ·refine (I.hok b ob e).stay (fun c w' hc q => (hs.2 c ?_).trans q) (fun _ q => q) fun _ _ q => q
  intro z
  rcases hc with hc | hc
  ·rw [<- hc, z, I.free] at e; cases e
  ·rw [z, I.free] at hc; cases hc
theorem Rel.unset {W : Own} {H : Hp} {σ : St} {ρ : Ro} {i : Nat} (r : Rel X W H σ ρ) (hi : i < σ.length) : Rel X (W.drop i) H (σ.set i none) (ρ.set i none) := by
 have at_ : ∀ {j : Nat} {x : Sl}, (ρ.set i none)[j]? = some (some x) -> j ≠ i /\ ρ[j]? = some (some x) := fun {j x} h => by
  by_cases hj : j = i
  ·subst hj
   rw [List.getElem?_set] at h
   simp at h
  ·rw [zAA (Ne.symm hj)] at h
   exact ⟨hj, h⟩
 have dr : ∀ {j : Nat} {a : Addr}, (W.drop i).O j = some a -> j ≠ i /\ W.O j = some a := fun {j a} h => by
  have h' : (if j = i then none else W.O j) = some a := h
  by_cases e1 : j = i
  ·rw [if_pos e1] at h'; cases h'
  ·rw [if_neg e1] at h'; exact ⟨e1, h'⟩
 refine ⟨fun j d h => ?_, fun j ds h => ?_, fun j k a h1 h2 => r.inj j k a (dr h1).2 (dr h2).2, fun j a h => r.kn j a (dr h).2, fun j a h => r.ke j a (dr h).2, r.bt, r.st, r.ent, r.tab⟩
 ·obtain ⟨hj, h⟩ := at_ h
  obtain ⟨v, h1, h2⟩ := r.val j d h
  exact ⟨v, by rw [zAA (Ne.symm hj)]; exact h1, h2.fewer fun _ _ => Own.drop_bad⟩
 ·obtain ⟨hj, h⟩ := at_ h
  obtain ⟨a, vs, h1, h2, h3, h4⟩ := r.own j ds h
  exact ⟨a, vs, by show (if j = i then none else W.O j) = _; rw [if_neg hj]; exact h1, by rw [zAA (Ne.symm hj)]; exact h2, h3, by rw [zAS]; exact h4.fewer (fun _ _ => Own.drop_bad) (Own.drop_sub hi)⟩
def lU (K : PySem.W.Frag) (C : Addr) (i : Nat) (sp : DSp) (t : DA) (su : DS) : DS := fun E ρ => t ρ fun ds => sp (ay ds) (fun _ => E.nx ρ) fun cv => ∃ c, cv = .ref c /\ b9 K c /\ PySem.W.exmOne K (.ref c) (.ref C) = some true ∧
 su ⟨fun ρ' => E.nx (ρ'.set i none), E.rt, fun ρ' => E.bk (ρ'.set i none), fun ρ' => E.ct (ρ'.set i none)⟩ (ρ.set i (some (.val (.exc c))))
theorem rH {k : Nat} {f C : Addr} {fd : FuncData} {ps : List Str} {sp : DSp} {g x n : Str} {p cp ep np hp : Pos} {e : Expr} {es : List Expr} {t : DA} {b₀ : Stmt} {suite : List Stmt} {su : DS} (i : Nat) (F : aE X.prog X.w X.K X.mg X.base (CX1 X.prog X.w) k f fd ps (aM X.K sp)) (hr : aH k X.A) (hm : X.mg g = some (.ref f)) (hk : PySem.W.keepIn X.K (.ref f) = true) (hb : Binds X.K fd ps [])
  (hN : X.N.Nodup) (hmx : X.mg x = some (.ref C)) (ha : PAD X.nox (e :: es) t) (hsu : ∀ v, bA (Cx.markX X v) (b₀ :: suite) su) (hgg : Gl X g := by rfl) (hgx : Gl X x := by rfl) (hi : X.N[i]? = some n := by rfl) (hkn : X.env.scope.names.lookup n = some .local := by rfl)
  (hex : X.ex = [] := by rfl) (hst : X.stack = X.env :: X.outer := by rfl) (hef : X.env.frame = some X.env.locals := by rfl) (hdb : (g == ("__debug__" : Str)) = false := by decide) (hdx : (x == ("__debug__" : Str)) = false := by decide) (he : starEach (e :: es) X.env = (false, eval e X.env) :: starEach es X.env := by rfl) (hpl : (backTo cp (starEach es X.env)).any (·.1) = false := by rfl)
  (hs : swapsWith (.Call (.Name g p) (e :: es) [] cp) none ep.line X.env = pure false := by rfl) :
  PSD X (.Try [.Expr (.Call (.Name g p) (e :: es) [] cp) ep] [.ExceptHandler (some (.Name x np)) (some n) (b₀ :: suite) hp] [] [] pos) (lU X.K C i sp t su) := by
 intro pins s σ H W ρ E I rr h
 refine wpAny_Try_except (wpAny_execs_cons (wpAny_Expr_any (wpAny_Call_Name_kw (ck I hgg hm ?_ hdb)) I.quiet hs))
 refine PySem.W.callWith_K (h₀ := X.base) I.ok.mod.kin hk (wpAny_mono (ha cp pins s σ H W ρ _ (I.wish _) (rr.wish _) h) (fun us s1 ⟨vs, H1, ds, I1, r, e1, hds, q⟩ => ⟨I1.unwish.kIn, ?_⟩) fun _ _ z => False.elim z) he hpl
 have I1 := I1.unwish
 have rr1 := rr.same e1
 have ist : i < σ.length := Inv.ilt I hi
 refine wpAny_mono (nV (dds := []) (dsv := []) F hr hb .nil (by simp) I1 rr1 r hds (by rw [zAk]; exact q) fun er s' hx => ?_) (fun u s2 ⟨v, H2, d, I2, r2, e2, hd2, q2⟩ => wpAny_execs_nil (wpAny_execs_nil ⟨W, σ, H2, I2, Fwd.same (e1.trans e2), ρ, rr1.same e2, q2⟩)) fun _ _ z => z
 obtain ⟨ea, c, H', B, a0, rfl, os, bare, Ff, sm, hn, hn0, fl, c', hc', xk, exm, hsu'⟩ := hx
 cases hc'
 have fr' : X.A.frames = some (X.env :: X.outer) := by rw [<- hst]; exact I.ok.frames
 rw [hst] at fl
 refine wpAny_looks_onW fr' hef fl fun h4 x4 u4 => wpAny_landsW x4 fun h5 x5 u5 => ?_
 have F5 := (Ff.step x4.1 u4).step x5.1 u5
 have I5 : Inv X pins σ H' { s' with heap := h5 } := I1.call' os F5.un F5.hok bare (by intro b z; cases z)
 have ex_ : ∀ {h' : Heap}, Heap.FlyingW B (X.env :: X.outer) ea (.ref c) a0 h' -> ExcAt ea c h' := fun {h'} x => by
  obtain ⟨oe, ws, q1, q2, q3, _⟩ := x.first
  exact ⟨oe, ws, q1, q2, q3⟩
 refine wpAny_handleBy_cons (codeAny_handlers_test (ck (Inv.marked I5 (.ref ea)) hgx hmx ?_ hdx)) (by intro q; cases q)
 refine (PySem.W.exm_one I5.kIn (ExcAt.ty (ex_ x5)) exm).here ?_
 refine codeAny_handlers_suite_as (lands_againW x5 fun h6 x6 u6 => ?_)
 have F6 := F5.step x6.1 u6
 have I6 : Inv X pins σ H' { s' with heap := h6 } := I1.call' os F6.un F6.hok bare (by intro b z; cases z)
 have I7 : Inv X pins σ (L2.upd H' ea (.ext (ExcAt ea c))) { s' with heap := h6 } := by
  refine Inv.track I6 hn ?_ ?_ (fun y c' q z => ?_) (fun p hp z => ?_) ⟨ex_ x6, ?_, fun h1 h2 q z => ?_⟩
  ·cases q : X.s₀.heap.get? ea with
   | none => rfl
   | some o =>
    by_cases hx : ea ∈ X.ex
    ·rw [hex] at hx; cases hx
    ·obtain ⟨o', q'⟩ := I1.base.there ea o q hx
     rw [hn0] at q'
     cases q'
  ·intro z
   obtain ⟨m, ⟨o, _, _, q, _⟩, _⟩ := I1.loc
   rw [<- z, hn0] at q
   cases q
  ·obtain ⟨w', o, z', _⟩ := I1.cell y c' q
   rw [z, hn0] at z'
   cases z'
  ·have := (I1.pin p hp).1
   rw [z, hn0] at this
   cases this
  ·obtain ⟨oe, ws, q1, _⟩ := ex_ x6
   exact ⟨oe, q1⟩
  ·obtain ⟨oe, ws, q1, q2, q3⟩ := q
   exact ⟨oe, ws, z _ q1, q2, q3⟩
 have smu : af H' (L2.upd H' ea (.ext (ExcAt ea c))) := af.upd hn
 refine cK (X := Cx.markX X (.ref ea)) (v := .ref ea) (Inv.marked I7 (.ref ea)) hN hi (.inl hkn) rfl (fun s7 J7 => ?_) (.inr hkn)
 have rl7 : Rel X (W.drop i) (L2.upd H' ea (.ext (ExcAt ea c))) (σ.set i (some (.ref ea))) (ρ.set i (some (.val (.exc c)))) := ((rr1.same sm).same smu).put ist (Den.exc aw xk)
 refine wpAny_mono (hsu (.ref ea) pins s7 _ _ _ _ _ J7 (Rel.marked rl7 _) hsu') (fun fw s8 q8 => ?_) fun _ _ z => False.elim z
 obtain ⟨W8, σ8, H8, J8, f8, q8⟩ := q8
 have ff : Fwd W H (W8.drop i) H8 := (Fwd.same ((e1.trans sm).trans smu)).trans ((Fwd.drop W _ i).trans (f8.trans (Fwd.drop W8 H8 i)))
 refine nL (Inv.unmark J8 I.ok) hN hi hkn fun s9 I9 => ⟨W8.drop i, _, H8, I9, ff, ?_⟩
 cases fw with
 | next => obtain ⟨ρ8, r8, n8⟩ := q8; exact ⟨_, (Rel.unmark r8).unset (Inv.ilt (Inv.unmark J8 I.ok) hi), n8⟩
 | brk => obtain ⟨ρ8, r8, n8⟩ := q8; exact ⟨_, (Rel.unmark r8).unset (Inv.ilt (Inv.unmark J8 I.ok) hi), n8⟩
 | cont => obtain ⟨ρ8, r8, n8⟩ := q8; exact ⟨_, (Rel.unmark r8).unset (Inv.ilt (Inv.unmark J8 I.ok) hi), n8⟩
 | ret v => obtain ⟨x8, d8, r8, h8, n8⟩ := q8; exact ⟨x8, d8, r8, h8.fewer fun _ _ => Own.drop_bad, n8⟩
def oI (K : PySem.W.Frag) (c : Value) (te : DE) : DE := fun ρ Q => te ρ fun d => ∃ b, PySem.W.kitOne K (tyV d) c = some b /\ Q (.bl b)
theorem cn {e : Expr} {te : DE} {p p' : Pos} {x : Str} {cv : V} {c : Value} (hg : Gl X "isinstance") (hm : X.mg "isinstance" = none) (hx : PE X (.Name x p') (tC cv)) (rc : ∀ u, RelV cv u -> u = c) (he : PED X e te)
  (hst : starEach [e, .Name x p'] X.env = (false, eval e X.env) :: starEach [.Name x p'] X.env := by rfl) (hst2 : starEach [.Name x p'] X.env = (false, eval (.Name x p') X.env) :: starEach [] X.env := by rfl) (hst3 : (backTo pos (starEach [.Name x p'] X.env)).any (·.1) = false := by rfl) :
  PED X (.Call (.Name "isinstance" p) [e, .Name x p'] [] pos) (oI X.K c te) := by
 intro pins s σ H W ρ Q I rr h
 have hpa : PA X [e, .Name x p'] (cA (iR X te) (cA (tC cv) hZ)) := bD he.pe (bD hx dm hst2) hst
 refine wpAny_Call_Name_kw (cq I hg hm boot_isinstance ?_ (by decide) (by decide))
 refine PyProof.Rows.callWith_builtin1 (thn (hpa pos pins s σ H (fun vs H1 => ∃ v d, vs = [v, cv] /\ af H H1 /\ Den X.K W.bad H1 d v /\ ∃ b, PySem.W.kitOne X.K (tyV d) c = some b /\ Q (.bl b)) I ⟨W, ρ, _, rr, h, fun v H1 d e1 hd q1 => ⟨v, d, rfl, e1, hd, q1⟩⟩) fun us s1 ⟨vs, H1, I1, rv, v, d, ev, e1, hd, b, kb, q1⟩ => ?_) hst hst3
 subst ev
 cases rv with
 | cons r1 rr =>
  cases rr with
  | cons r2 rr =>
   cases rr
   have := rc _ r2
   subst this
   exact jv I1 hd r1 kb fun tk => ⟨.bl _, H1, _, I1.tok tk, rfl, e1, Den.bl _, q1⟩
end
def cC (base : Heap) (l : List Env) (e : Addr) (cls a0 : Value) (h : Heap) : Prop := base.StaysIn h /\ base.get? e = none /\ h.FunFrames base l /\ ∃ fl, h.TracedAtW base e cls a0 fl
section
variable {M : Model} {A : Around} {E : Value -> Shared -> Prop} {s : Shared} {base : Heap} {l outer : List Env} {env : Env} {e L : Addr} {cls a0 : Value}
theorem kR {fr : Option Addr} {Q : Unit -> Shared -> Prop} (R : cC base l e cls a0 s.heap) (h : ∀ h', cC base l e cls a0 h' -> s.heap.UpToSlots h' -> Q () { s with heap := h' }) : wpAny M A (setFlight (.ref e) fr) Q E s := by
 obtain ⟨k1, k2, k3, fl, oe, vs, T, oT, ts, g1, g2, g3, g4, g5, g6, g7, g8, g9⟩ := R
 have z3 : 3 < ts.size := (zAm.mp g9).1
 have oth : ∀ b, b ≠ T -> (s.heap.update T (Obj.mapFields (·.setIfInBounds 3 (fr.elim Value.none fun f => rawInt f)))).get? b = s.heap.get? b := fun b hb => zA5 _ _ (Ne.symm hb)
 have nrec : ∀ b o, s.heap.get? b = some o -> (∀ vs, o.data ≠ .fields vs) -> b ≠ T := fun b o hb hn q => by
  rw [q, g7] at hb
  cases hb
  exact hn ts g8
 unfold setFlight
 refine wpAny_bind (wpAny_field g1 g3 g4 ?_)
 rw [if_pos (by simp)]
 refine wpAny_setField g7 g8 z3 (h _ ⟨fun b o hb => (oth b fun q => by rw [q, g5] at hb; cases hb).trans (k1 b o hb), k2, k3.of_keeps fun b o hb hn => ⟨o, (oth b (nrec b o hb hn)).trans hb, rfl⟩, ?_⟩ fun b o hb hn => ⟨o.slots, (oth b (nrec b o hb hn)).trans hb⟩)
 exact ⟨_, oe, vs, T, _, _, (oth e (Ne.symm g6)).trans g1, g2, g3, g4, g5, g6, Heap.get?_update_self _ g7 (Obj.isFreed_of_fields (Obj.data_mapFields g8 _)), Obj.data_mapFields g8 _, by simp [z3]; rfl⟩
theorem qQ {what : String} {cenv : Env} (R : cC base l e cls a0 s.heap) (h : ∀ h', cC base l e cls a0 h' -> s.heap.UpToSlots h' -> E (.ref e) { s with heap := h' }) : wpAny M A (PySem.passOn what (.ref e) cenv : Sem Value) (fun _ _ => False) E s := by
 obtain ⟨_, _, _, fl, oe, vs, T, oT, ts, g1, g2, g3, g4, _⟩ := id R
 unfold PySem.passOn
 refine wpAny_bind (wpAny_field g1 g3 g4 ?_)
 rw [if_neg (by simp)]
 first
  | exact wpAny_bind (wpAny_pure (wpAny_bind (kR R fun h' R' sl => wpAny_throw (h h' R' sl))))
  | exact wpAny_bind (kR R fun h' R' sl => wpAny_throw (h h' R' sl))
theorem kU {Q : Unit -> Shared -> Prop} (hfr : A.frames = some (env :: outer)) (hf : env.frame = some L) (R : cC base (env :: outer) e cls a0 s.heap)
  (h : ∀ h', cC base (env :: outer) e cls a0 h' -> s.heap.UpToSlots h' -> Q () { s with heap := h' }) : wpAny M A (noteFrame (.ref e) env) Q E s := by
 obtain ⟨k1, k2, k3, fl, oe, vs, T, oT, ts, g1, g2, g3, g4, g5, g6, g7, g8, g9⟩ := id R
 by_cases hfl : (fl == rawInt L) = true
 ·have efl : fl = rawInt L := by simpa using hfl
  subst efl
  exact wpAny_noteFrame_againW (base := base) (cls := cls) (a0 := a0) hf ⟨oe, vs, T, oT, ts, g1, g2, g3, g4, g5, g6, g7, g8, g9⟩ (h _ R (Heap.UpToSlots.refl _))
 ·obtain ⟨ec, g0⟩ := g2
  subst ec
  unfold noteFrame
  simp only [hf]
  refine wpAny_bind (wpAny_field g1 g3 g4 ?_)
  rw [if_pos (by simp)]
  refine wpAny_bind (wpAny_field g7 g8 g9 ?_)
  rw [if_neg hfl]
  refine wpAny_bind (wpAny_setField g7 g8 (zAm.mp g9).1 ?_)
  have oth : ∀ b, b ≠ T -> (s.heap.update T (Obj.mapFields (·.setIfInBounds 3 Value.none))).get? b = s.heap.get? b := fun b hb => zA5 _ _ (Ne.symm hb)
  have nrec : ∀ b o, s.heap.get? b = some o -> (∀ vs, o.data ≠ .fields vs) -> b ≠ T := fun b o hb hn q => by
   rw [q, g7] at hb
   cases hb
   exact hn ts g8
  refine wpAny_entryW (base := base) hfr (k3.of_keeps fun b o hb hn => ⟨o, (oth b (nrec b o hb hn)).trans hb, rfl⟩) hf ((oth e (Ne.symm g6)).trans g1) (fun b o hb => (oth b fun q => by rw [q, g5] at hb; cases hb).trans (k1 b o hb)) k2 g3 (zAm.mp g4).1 g0 fun h' hN => ?_
  obtain ⟨n1, n2, n3, n4⟩ := hN
  exact h h' ⟨n1, k2, n2, _, n3⟩ fun b o hb hn => n4 b o ((oth b (nrec b o hb hn)).trans hb) hn
theorem o8 {Q : Unit -> Shared -> Prop} (hfr : A.frames = some (env :: outer)) (hf : env.frame = some L) (R : cC base (env :: outer) e cls a0 s.heap)
  (h : ∀ h', Heap.FlyingW base outer e cls a0 h' -> s.heap.UpToSlots h' -> Q () { s with heap := h' }) : wpAny M A (leaving env (.ref e)) Q E s := by
 unfold leaving
 refine wpAny_bind (kU hfr hf R fun h1 R1 s1 => ?_)
 obtain ⟨k1, k2, k3, fl, k4⟩ := R1
 refine wpAny_setFlight_noneW (base := base) k1 k3 k4 fun h2 m1 m2 m3 m4 => ?_
 obtain ⟨_, _, m2⟩ := m2
 exact h h2 ⟨m1, k2, m2, m3⟩ (s1.trans fun b o hb hn => ⟨o.slots, m4 b o hb hn⟩)
end
def eO (X : Cx) (Ed : Value -> Prop) : Prop := ∀ (pins : List (Addr × Obj)) (σ : St) (H : Hp) (W : Own) (ρ : Ro) (s s' : Shared) (ea c : Addr) (H' : Hp) (B : Heap) (a0 : Value), Inv X pins σ H s -> Rel X W H σ ρ -> s'.os = s.os -> AllBare s'.gens -> Fl X.prog X.w X.stack s.heap H H' B s'.heap -> af H H' -> H' ea = none -> s.heap.get? ea = none →
 cC B X.stack ea (.ref c) a0 s'.heap -> Ed (.ref c) -> X.xe (.ref ea) s'
theorem eO.no {X : Cx} : eO X fun _ => False := fun _ _ _ _ _ _ _ _ _ _ _ _ _ _ _ _ _ _ _ _ _ z => z.elim
section
variable {P : Program} {w : World} {K : PySem.W.Frag} {mg : Str -> Option Value} {base : Heap} {N : List Str} {qual : Str} {sc : Scope} {f : Addr} {cd : Value} {A : Around} {outer : List Env} {s₀ : Shared} {H₀ : Hp} {E : XK}
theorem sY {Ed : Value -> Prop} (hE : ∀ c a H', af H₀ H' -> Ed c -> E c a H') : eO (bB (CX1 P w) P w K mg base N qual sc f cd A outer s₀ H₀ E) Ed := by
 intro pins σ H W ρ s s' ea c H' B a0 I r os bare F sm hn hn0 R hd
 show wpAny (model P w) (A.deeper (envOfC qual sc s₀.heap.objs.size f cd)) (leaving (envOfC qual sc s₀.heap.objs.size f cd) (.ref ea)) _ _ _
 refine o8 (outer := outer) I.ok.frames rfl R fun h'' x1 x2 => ?_
 have I' := I.call' os F.un F.hok bare (by intro b z; cases z)
 refine i7 (s := s') (h' := h'') I' (r.ent.trans sm) hn ?_ (fun b o q z n => F.cov b o q (z.elim .inl fun ⟨o', z⟩ => .inr (I.base.there b o' z (by intro q; cases q))) n) x1 x2 (hE _ _ _ (r.ent.trans sm) hd)
 cases q : s₀.heap.get? ea with
 | none => rfl
 | some o =>
  obtain ⟨o', q'⟩ := I.base.there ea o q (by intro z; cases z)
  rw [hn0] at q'
  cases q'
end
section
variable {P : Program} {w : World} {K : PySem.W.Frag} {mg : Str -> Option Value} {base : Heap}
structure aD (K : PySem.W.Frag) (x qual : Str) (st : Stmt) (f : Addr) (fd : FuncData) : Prop where
 ex : ∃ (oc : Value) (od : Option Addr) (dV kV doc pm : Value) (an : Option Addr) (cdv ct : Value) (osl : Array (Option Value)),
  fd = PySem.W.fnOf x qual (aU st) (aJ st) (ak st) dV kV doc pm an cdv ct /\ K.lookup f = some ⟨oc, od, .func fd, osl⟩ /\ PySem.W.codeIn K cdv qual = true
 kp : PySem.W.keepIn K (.ref f) = true
theorem aD.okC {x qual : Str} {st : Stmt} {f : Addr} {fd : FuncData} {N ps : List Str} {k : Nat} {sp : DSp} (F : aD K x qual st f fd) (S : aF N ps (ak st)) (len : ∀ ds Q E, sp ds Q E -> ds.length = ps.length)
  (hbody : ∀ (cdv : Value), fd.code = cdv -> ∀ (A : Around) (outer : List Env) (s : Shared) (H : Hp) (E : XK) (Ed : Value -> Prop), aH k (A.deeper (envOfC qual (ak st) s.heap.objs.size f cdv)) -> MadeX (bB (CX1 P w) P w K mg base N qual (ak st) f cdv A outer s H E) Ed -> bg (bB (CX1 P w) P w K mg base N qual (ak st) f cdv A outer s H E) Ed -> eO (bB (CX1 P w) P w K mg base N qual (ak st) f cdv A outer s H E) Ed →
   ∃ t, bA (bB (CX1 P w) P w K mg base N qual (ak st) f cdv A outer s H E) (aJ st) t /\ ∀ ds Q, sp ds Q Ed -> t { nx := fun _ => Q .non, rt := Q } (aK N ds)) : aE P w K mg base (CX1 P w) (k + 1) f fd ps (aM K sp) := by
 obtain ⟨oc, od, dV, kV, doc, pm, an, cdv, ct, osl, rfl, lk, hcd⟩ := F.ex
 refine qb lk hcd S (fun vs H Q E h => ?_) fun A outer s H vs Q E hr h => ?_
 ·obtain ⟨_, ds, _, _, _, _, hd, hs, _⟩ := h
  rw [hd.len]
  exact len ds _ _ hs
 ·obtain ⟨Pb, ds, Qd, Ed, hT, hP, hd, hs, kq, ke⟩ := h
  obtain ⟨t, ht, k⟩ := hbody cdv rfl A outer s H E Ed hr (tD ke) (qR ke) (sY ke)
  refine ⟨_, ht.ps, ⟨Pb, fun _ => none, fun a => ∃ o, H a = some o⟩, _, _, Rel.start hP hd rfl hT, k ds Qd hs, fun W' σ' H' ρ' f r q => ?_, fun W' H' v d f hd' q => ?_, fun _ _ _ _ _ _ q => q, fun _ _ _ _ _ _ q => q⟩
  ·exact kq .non .non H' ⟨fun b o e n => f.kp b o (fun i z => by cases z) e n, f.tb, f.ok⟩ Den.non q
  ·refine kq d v H' ⟨fun b o e n => f.kp b o (fun i z => by cases z) e n, f.tb, f.ok⟩ (hd'.fewer fun t a z => ?_) q
   rcases z with z | z
   ·exact .inl (by rw [f.B]; exact z)
   ·exact .inr (.inr ⟨z.1, by rw [f.S]; exact z.2⟩)
theorem aD.okX {x qual : Str} {st : Stmt} {f : Addr} {fd : FuncData} {N ps : List Str} {k : Nat} {sp : DSp} (F : aD K x qual st f fd) (S : aF N ps (ak st)) (len : ∀ ds Q E, sp ds Q E -> ds.length = ps.length)
  (hbody : ∀ (cdv : Value) (A : Around) (outer : List Env) (s : Shared) (H : Hp) (E : XK) (Ed : Value -> Prop), aH k (A.deeper (envOfC qual (ak st) s.heap.objs.size f cdv)) -> MadeX (bB (CX1 P w) P w K mg base N qual (ak st) f cdv A outer s H E) Ed -> bg (bB (CX1 P w) P w K mg base N qual (ak st) f cdv A outer s H E) Ed -> eO (bB (CX1 P w) P w K mg base N qual (ak st) f cdv A outer s H E) Ed →
   ∃ t, bA (bB (CX1 P w) P w K mg base N qual (ak st) f cdv A outer s H E) (aJ st) t /\ ∀ ds Q, sp ds Q Ed -> t { nx := fun _ => Q .non, rt := Q } (aK N ds)) : aE P w K mg base (CX1 P w) (k + 1) f fd ps (aM K sp) := aD.okC F S len fun cdv _ => hbody cdv
theorem aD.okN {x qual : Str} {st : Stmt} {f : Addr} {fd : FuncData} {N ps : List Str} {k : Nat} {sp : DSp} (F : aD K x qual st f fd) (S : aF N ps (ak st)) (len : ∀ ds Q E, sp ds Q E -> ds.length = ps.length)
  (hbody : ∀ (cdv : Value) (A : Around) (outer : List Env) (s : Shared) (H : Hp) (E : XK), aH k (A.deeper (envOfC qual (ak st) s.heap.objs.size f cdv)) →
   ∃ t, bA (bB (CX1 P w) P w K mg base N qual (ak st) f cdv A outer s H E).nox (aJ st) t /\ ∀ ds Q Ed, sp ds Q Ed -> t { nx := fun _ => Q .non, rt := Q } (aK N ds)) : aE P w K mg base (CX1 P w) (k + 1) f fd ps (aM K sp) :=
 aD.okX F S len fun cdv A outer s H E Ed hr _ _ _ => by
  obtain ⟨t, ht, k⟩ := hbody cdv A outer s H E hr
  exact ⟨t, ht.nox, fun ds Q h => k ds Q Ed h⟩
theorem aD.binds {x qual : Str} {st : Stmt} {f : Addr} {kV doc pm cdv ct : Value} {an : Option Addr} {ps : List Str}
  (h : ∀ us : List Value, us.length = ps.length -> bindArgs (PySem.W.fnOf x qual (aU st) (aJ st) (ak st) .none kV doc pm an cdv ct) ⟨us, []⟩ = pure (ps.zip us)) : Binds K (PySem.W.fnOf x qual (aU st) (aJ st) (ak st) .none kV doc pm an cdv ct) ps [] := .all h
theorem fR {x qual : Str} {st : Stmt} {f : Addr} {oc : Value} {od an : Option Addr} {osl : Array (Option Value)} {dV kV doc pm cdv ct : Value} (l : K.lookup f = some ⟨oc, od, .func (PySem.W.fnOf x qual (aU st) (aJ st) (ak st) dV kV doc pm an cdv ct), osl⟩)
  (c : PySem.W.codeIn K cdv qual = true) (k : PySem.W.keepIn K (.ref f) = true) : aD K x qual st f (PySem.W.fnOf x qual (aU st) (aJ st) (ak st) dV kV doc pm an cdv ct) := ⟨⟨oc, od, dV, kV, doc, pm, an, cdv, ct, osl, rfl, l, c⟩, k⟩
end
end PD
namespace PD
open PySem PySem.Spec PyProof.Rows L2
def Has (P : Program) (w : World) (K : PySem.W.Frag) (mg : Str -> Option Value) (base : Heap) (x : Str) (k : Nat) (ps : List Str) (sp : DSp) : Prop :=
 ∃ f fd, aE P w K mg base (CX1 P w) k f fd ps (aM K sp) /\ mg x = some (.ref f) /\ PySem.W.keepIn K (.ref f) = true /\ Binds K fd ps []
section
variable {X : Cx} {k : Nat} {ps : List Str} {sp : DSp} {x : Str} {p pos : Pos} {e : Expr} {es : List Expr} {t : DA}
theorem az (h : Has X.prog X.w X.K X.mg X.base x k ps sp) (hr : aH k X.A) (ha : PAD X (e :: es) t) (hg : Gl X x := by rfl) (hdb : (x == ("__debug__" : Str)) = false := by decide)
  (he : starEach (e :: es) X.env = (false, eval e X.env) :: starEach es X.env := by rfl) (hpl : (backTo pos (starEach es X.env)).any (·.1) = false := by rfl) : PED X (.Call (.Name x p) (e :: es) [] pos) (iO sp [] t) := by
 obtain ⟨f, fd, F, hm, hk, hb⟩ := h
 exact oV (dds := []) (dsv := []) F hr hg hm hk hb .nil (by simp) mh ha hdb he hpl
theorem oW {Ed : Value -> Prop} (px : bg X Ed) (h : Has X.prog X.w X.K X.mg X.base x k ps sp) (hr : aH k X.A) (ha : PAD X (e :: es) t) (hg : Gl X x := by rfl) (hdb : (x == ("__debug__" : Str)) = false := by decide)
  (he : starEach (e :: es) X.env = (false, eval e X.env) :: starEach es X.env := by rfl) (hpl : (backTo pos (starEach es X.env)).any (·.1) = false := by rfl) : PED X (.Call (.Name x p) (e :: es) [] pos) (gx sp Ed [] t) := by
 obtain ⟨f, fd, F, hm, hk, hb⟩ := h
 exact mM (dds := []) (dsv := []) px F hr hg hm hk hb .nil (by simp) ha hdb he hpl
theorem qA {C : Addr} {y n : Str} {cp ep np hp : Pos} {b₀ : Stmt} {suite : List Stmt} {su : DS} (i : Nat) (h : Has X.prog X.w X.K X.mg X.base x k ps sp) (hr : aH k X.A) (hN : X.N.Nodup) (hmx : X.mg y = some (.ref C)) (ha : PAD X.nox (e :: es) t) (hsu : ∀ v, bA (Cx.markX X v) (b₀ :: suite) su)
  (hgg : Gl X x := by rfl) (hgx : Gl X y := by rfl) (hi : X.N[i]? = some n := by rfl) (hkn : X.env.scope.names.lookup n = some .local := by rfl)
  (hex : X.ex = [] := by rfl) (hst : X.stack = X.env :: X.outer := by rfl) (hef : X.env.frame = some X.env.locals := by rfl) (hdb : (x == ("__debug__" : Str)) = false := by decide) (hdx : (y == ("__debug__" : Str)) = false := by decide) (he : starEach (e :: es) X.env = (false, eval e X.env) :: starEach es X.env := by rfl) (hpl : (backTo cp (starEach es X.env)).any (·.1) = false := by rfl)
  (hs : swapsWith (.Call (.Name x p) (e :: es) [] cp) none ep.line X.env = pure false := by rfl) :
  PSD X (.Try [.Expr (.Call (.Name x p) (e :: es) [] cp) ep] [.ExceptHandler (some (.Name y np)) (some n) (b₀ :: suite) hp] [] [] pos) (lU X.K C i sp t su) := by
 obtain ⟨f, fd, F, hm, hk, hb⟩ := h
 exact rH i F hr hm hk hb hN hmx ha hsu hgg hgx hi hkn hex hst hef hdb hdx he hpl hs
end
theorem my {CX : CXT} {P : Program} {w : World} {K : PySem.W.Frag} {mg : Str -> Option Value} {base : Heap} {N : List Str} {qual : Str} {sc : Scope} {f : Addr} {cd : Value} {A : Around} {outer : List Env} {s : Shared} {H : Hp} {E : XK} : (bB CX P w K mg base N qual sc f cd A outer s H E).K = K := rfl
theorem lz (c : Addr) : tyV (.exc c) = .ref c := rfl
theorem iy (c : Addr) : eT (.exc c) = false := rfl
theorem kex {K : PySem.W.Frag} {t c : Value} {b : Bool} (h : PySem.W.kitOne K t c = some b) (R : Bool -> Prop) : (∃ b', PySem.W.kitOne K t c = some b' /\ R b') = R b := by
 apply propext
 constructor
 ·rintro ⟨b', e, q⟩
  rw [h] at e
  cases e
  exact q
 ·intro q; exact ⟨b, h, q⟩
def gJ : DSp := fun ds Q _ => ∃ ns : List Int, ds = [.lst false (ns.map .int)] /\ ns.length <= 63 /\ Q (.bl true)
theorem ip {K : PySem.W.Frag} {P : Bool -> Addr -> Prop} {H : Hp} : ∀ ns : List Int, ae K P H (ns.map D.int) (ns.map V.int)
 | [] => ae.nil
 | n :: r => ae.cons (Den.int n) (ip r)
theorem rT {K : PySem.W.Frag} {H : Hp} {a : Addr} {ns : List Int} (hl : ns.length <= 63) (hS : SqL K H a (ns.map V.int)) (hT : de K H) : aM K gJ [.ref a] H (fun v _ => v = .bl true) fun _ _ _ => False :=
 ⟨fun _ => False, [.lst false (ns.map D.int)], fun d => d = .bl true, fun _ => False, hT, fun _ z => z.elim, ae.one (Den.lst (fun z => z.elim (fun z => by cases z) id) (.any hS) (ip ns)), ⟨ns, rfl, hl, rfl⟩, fun d v H' _ hd e => by subst e; exact hd.bl_, fun _ _ _ _ z => z.elim⟩
theorem walk {l : PySem.W.OpenLaw} {q : Program} {loose : List Str} {XP : (Str -> Option Value) -> Heap -> Prop} {YP : World -> Heap -> Prop} {d : DefRec} {K : Params -> PySem.W.Frag} {k : Nat} {x : Str} (hn : l.most = some 63) (hdf : d.params.defaults = []) (hr : aH k callerA)
  (hY : ∀ (w : World) (h : Heap), YP w h -> (K w.params).In h) (hT : ∀ w : World, tabOf (K w.params) = none)
  (F : ∀ (w : World) (mg : Str -> Option Value) (fa : Addr) (h : Heap), (K w.params).In h -> h.Ns mainGlobals mg -> mg d.name = some (.ref fa) →
   ∃ fd : FuncData, (∀ (s : Shared) (u : Value), BindsTo s fd ⟨[u], []⟩ [(x, u)]) /\ ∀ base : Heap, (K w.params).In base -> base.Ns mainGlobals mg -> aE l.prog w (K w.params) mg base (CX1 l.prog w) k fa fd [x] (aM (K w.params) gJ)) :
  PySem.W.WalkO q loose XP YP l.row.toRowW d [] (fun f vs => PySem.call f vs) :=
 L2.qZ (n := 63) (k := k) (x := x) (CX := fun w => CX1 l.prog w) (sp := fun w => aM (K w.params) gJ) hn (by decide) hdf hr hY F (fun w _ a ns hl hO hS => rT hl hS ⟨fun P ps e => (by rcases hO P with z | ⟨o, xs, z⟩ <;> rw [z] at e <;> cases e), fun P e => (by rw [hT w] at e; cases e)⟩) fun _ _ _ _ _ z => by obtain ⟨_, _, _, _, _, _, _, _, _, _, _, _, _, q⟩ := z; exact q.elim
theorem at0 {α : Type} (a : α) (r : List α) : atI (a :: r) 0 = some a := cf (j := 0) rfl
theorem at1 {α : Type} (a b : α) (r : List α) : atI (a :: b :: r) 1 = some b := cf (j := 1) rfl
theorem at2 {α : Type} (a b c : α) (r : List α) : atI (a :: b :: c :: r) 2 = some c := cf (j := 2) rfl
theorem at3 {α : Type} (a b c d : α) (r : List α) : atI (a :: b :: c :: d :: r) 3 = some d := cf (j := 3) rfl
theorem jK (ds : List D) (i : Int) (Q : D -> Prop) : pB (.tup ds) (.int i) Q = ∃ d, atI ds i = some d /\ Q d := by
 apply propext
 constructor
 ·rintro ⟨ds', i', d, e1, e2, h, q⟩
  rcases e1 with e1 | ⟨_, e1⟩
  ·cases e1; cases e2; exact ⟨d, h, q⟩
  ·cases e1
 ·rintro ⟨d, h, q⟩
  exact ⟨ds, i, d, .inl rfl, rfl, h, q⟩
theorem jJ (t : Bool) (ds : List D) (i : Int) (Q : D -> Prop) : pB (.lst t ds) (.int i) Q = ∃ d, atI ds i = some d /\ Q d := by
 apply propext
 constructor
 ·rintro ⟨ds', i', d, e1, e2, h, q⟩
  rcases e1 with e1 | ⟨_, e1⟩
  ·cases e1
  ·cases e1; cases e2; exact ⟨d, h, q⟩
 ·rintro ⟨d, h, q⟩
  exact ⟨ds, i, d, .inr ⟨t, rfl⟩, rfl, h, q⟩
theorem bx (i : Int) : av (.int i) = .int i := by rw [av]
theorem jT (b : Bool) : av (.bl b) = .bl b := by rw [av]
theorem iJ : av .non = .non := by rw [av]
theorem iK (x : Str) : av (.str x) = .str x := by rw [av]
theorem iI (c : Addr) : av (.exc c) = .exc c := by rw [av]
theorem cm (ds : List D) : av (.tup ds) = .tup (ay ds) := by rw [av]
theorem dQ (t : Bool) (ds : List D) : av (.lst t ds) = .lst false (ay ds) := by rw [av]
theorem bb : ay [] = [] := by rw [ay]
theorem bc (d : D) (ds : List D) : ay (d :: ds) = av d :: ay ds := by rw [ay]
theorem fi {α : Type} (f : α -> D) (h : ∀ x, av (f x) = f x) : ∀ xs : List α, ay (xs.map f) = xs.map f
 | [] => by rw [zAw, ay]
 | x :: r => by rw [zAK, ay, h, fi f h r]
theorem fY (ns : List Int) : ay (ns.map D.int) = ns.map D.int := fi _ bx ns
theorem lh (C : Int -> Int -> Prop) (g : Int -> Int -> D) (i j : Int) (Q : D -> Prop) : rdI C g (.int i) (.int j) Q = (C i j /\ Q (g i j)) := by
 apply propext
 constructor
 ·rintro ⟨i', j', e1, e2, h, q⟩
  cases e1; cases e2; exact ⟨h, q⟩
 ·rintro ⟨h, q⟩
  exact ⟨i, j, rfl, rfl, h, q⟩
theorem jI (g : Int -> Int -> D) (i j : Int) (Q : D -> Prop) : dY g (.int i) (.int j) Q = Q (g i j) := by
 apply propext
 constructor
 ·rintro ⟨i', j', e1, e2, q⟩
  cases e1; cases e2; exact q
 ·intro q
  exact ⟨i, j, rfl, rfl, q⟩
theorem mK (d : D) (r : Ro) (Q : D -> Prop) : lV 0 (some (.val d) :: r) Q = Q d := by
 apply propext
 constructor
 ·rintro ⟨d', e, q⟩
  cases e; exact q
 ·intro q; exact ⟨d, rfl, q⟩
theorem mL (n : Nat) (x : Option Sl) (r : Ro) (Q : D -> Prop) : lV (n + 1) (x :: r) Q = lV n r Q := rfl
theorem ql (x y : Option Sl) (r : Ro) : List.set (x :: r) 0 y = y :: r := rfl
theorem qm (n : Nat) (x y : Option Sl) (r : Ro) : List.set (x :: r) (n + 1) y = x :: List.set r n y := rfl
theorem p6 (k : Bool) (R : Bool -> Prop) : (∃ c, (D.bl k) = .bl c /\ R c) = R k := by
 apply propext
 constructor
 ·rintro ⟨c, e, q⟩; cases e; exact q
 ·intro q; exact ⟨k, rfl, q⟩
theorem mU (k : Int) (R : Int -> Prop) : (∃ c, (D.int k) = .int c /\ R c) = R k := by
 apply propext
 constructor
 ·rintro ⟨c, e, q⟩; cases e; exact q
 ·intro q; exact ⟨k, rfl, q⟩
theorem kF {α : Type} (k : α) (R : α -> Prop) : (∃ c, some k = some c /\ R c) = R k := by
 apply propext
 constructor
 ·rintro ⟨c, e, q⟩; cases e; exact q
 ·intro q; exact ⟨k, rfl, q⟩
theorem sz2 (a b : D) : ([a, b] : List D).length <= sizeLine := by rw [sizeLine_eq]; show 2 <= 16777216; decide
theorem sz1 (a : D) : ([a] : List D).length <= sizeLine := by rw [sizeLine_eq]; show 1 <= 16777216; decide
theorem sz4 (a b c d : D) : ([a, b, c, d] : List D).length <= sizeLine := by rw [sizeLine_eq]; show 4 <= 16777216; decide
theorem kP (t : Bool) (xs : List D) (R : List D -> Prop) : (∃ ys, ((∃ t', [D.lst t xs] = [.lst t' ys]) ∨ [D.lst t xs] = [.tup ys]) /\ R ys) = R xs := by
 apply propext
 constructor
 ·rintro ⟨c, e, q⟩
  rcases e with ⟨_, e⟩ | e
  ·cases e; exact q
  ·cases e
 ·intro q; exact ⟨xs, .inl ⟨t, rfl⟩, q⟩
theorem kQ (xs : List D) (R : List D -> Prop) : (∃ ys, ((∃ t', [D.tup xs] = [.lst t' ys]) ∨ [D.tup xs] = [.tup ys]) /\ R ys) = R xs := by
 apply propext
 constructor
 ·rintro ⟨c, e, q⟩
  rcases e with ⟨_, e⟩ | e
  ·cases e
  ·cases e; exact q
 ·intro q; exact ⟨xs, .inr rfl, q⟩
theorem nP (a b : D) (R : D -> D -> Prop) : (∃ d e, [a, b] = [d, e] /\ R d e) = R a b := by
 apply propext
 constructor
 ·rintro ⟨_, _, e, q⟩; cases e; exact q
 ·intro q; exact ⟨a, b, rfl, q⟩
theorem kM (ds : List D) : isT "tuple" (.tup ds) = true := by
 show (("tuple" : String) == "tuple" || (("tuple" : String) == "bool" && ("tuple" : String) == "int")) = true
 decide
theorem iE (t : Bool) (ds : List D) : isT "tuple" (.lst t ds) = false := by
 show (("list" : String) == "tuple" || (("list" : String) == "bool" && ("tuple" : String) == "int")) = false
 decide
theorem kL (t : Bool) (ds : List D) : isT "list" (.lst t ds) = true := by
 show (("list" : String) == "list" || (("list" : String) == "bool" && ("list" : String) == "int")) = true
 decide
theorem iD (ds : List D) : isT "list" (.tup ds) = false := by
 show (("tuple" : String) == "list" || (("tuple" : String) == "bool" && ("list" : String) == "int")) = false
 decide
theorem kK (i : Int) : isT "int" (.int i) = true := by
 show (("int" : String) == "int" || (("int" : String) == "bool" && ("int" : String) == "int")) = true
 decide
theorem gD (i : Int) : isT "bool" (.int i) = false := by
 show (("int" : String) == "bool" || (("int" : String) == "bool" && ("bool" : String) == "int")) = false
 decide
theorem iB : eT .non = true := rfl
theorem iC (ds : List D) : eT (.tup ds) = false := rfl
theorem iA (t : Bool) (ds : List D) : eT (.lst t ds) = false := rfl
theorem iz (i : Int) : eT (.int i) = false := rfl
theorem kX (i : Int) : okD (.int i) := by unfold okD; rw [pyD, plD] <;> first | exact ⟨rfl, rfl⟩ | (intros; contradiction)
theorem kY : okD .non := by unfold okD; rw [pyD, plD] <;> first | exact ⟨rfl, rfl⟩ | (intros; contradiction)
theorem se (a b c : Int) : okD (.tup [.int a, .int b, .int c]) := by unfold okD; simp only [pyD, bG, plD, eV]; exact ⟨rfl, rfl⟩
theorem mT (a b c x y z : Int) : eqD (.tup [.int a, .int b, .int c]) (.tup [.int x, .int y, .int z]) = (decide (a = x) && (decide (b = y) && decide (c = z))) := by
 unfold eqD
 simp only [pyD, bG, PyData.eqv, PyData.eqvAll, Bool.and_true]
 rfl
abbrev T3 (a b c : Int) : D := .tup [.int a, .int b, .int c]
theorem CD.lit {i n : Int} (h : n ≠ 0 /\ n.natAbs < 2 ^ 64 := by decide) : CD i n := ⟨h.1, zAG h.2 (Nat.pow_le_pow_right (by decide) (by decide))⟩
theorem lr (a b d : Int) (R : Int -> Int -> Int -> Prop) : (∃ i j c : Int, [D.int a, D.int b, D.int d] = [.int i, .int j, .int c] /\ R i j c) = R a b d := by
 apply propext
 constructor
 ·rintro ⟨_, _, _, e, q⟩; cases e; exact q
 ·intro q; exact ⟨a, b, d, rfl, q⟩
theorem lq (a b : Int) (R : Int -> Int -> Prop) : (∃ i j : Int, [D.int a, D.int b] = [.int i, .int j] /\ R i j) = R a b := by
 apply propext
 constructor
 ·rintro ⟨_, _, e, q⟩; cases e; exact q
 ·intro q; exact ⟨a, b, rfl, q⟩
theorem lp (a : Int) (R : Int -> Prop) : (∃ i : Int, [D.int a] = [.int i] /\ R i) = R a := by
 apply propext
 constructor
 ·rintro ⟨_, e, q⟩; cases e; exact q
 ·intro q; exact ⟨a, rfl, q⟩
theorem nU {lo c : Int} {n j : Nat} {x : D} (h : (d0 lo c n)[j]? = some x) : j < n /\ x = .int (lo + j * c) := by
 by_cases hj : j < n
 ·rw [jL hj] at h
  exact ⟨hj, (zAR h).symm⟩
 ·rw [zAY (by rw [gm]; omega)] at h
  cases h
theorem qV {lo hi c : Int} {j : Nat} (hc : 0 < c) (h : j < dn lo hi c) : lo + j * c < hi := by
 unfold dn Builtin.Range.rangeSize at h
 rw [if_pos (show c > 0 from hc)] at h
 by_cases hl : lo < hi
 ·rw [if_pos hl] at h
  have h1 : (j : Int) <= (hi - lo - 1) / c := by omega
  have h2 := (Int.le_ediv_iff_mul_le hc).mp h1
  omega
 ·rw [if_neg hl] at h
  simp at h
theorem oA {ns : List Int} {k : Int} (h0 : 0 <= k) (h1 : k < ns.length) : atI (ns.map D.int) k = some (.int (ns.getD k.toNat 0)) := by
 have e : k = ((k.toNat : Nat) : Int) := by omega
 have hl : k.toNat < ns.length := by omega
 have q : atI (ns.map D.int) ((k.toNat : Nat) : Int) = some (.int (ns.getD k.toNat 0)) := cf (by simp [zAN, List.getElem?_eq_getElem hl, List.getD_eq_getElem?_getD])
 rw [<- e] at q
 exact q
theorem j1 {xs ys : List Int} (h : xs.map D.int = ys.map D.int) : xs = ys := by
 induction xs generalizing ys with
 | nil => cases ys with
  | nil => rfl
  | cons y r => simp at h
 | cons x r ih => cases ys with
  | nil => simp at h
  | cons y q =>
   simp only [zAK, zAP, D.int.injEq] at h
   rw [h.1, ih h.2]
theorem gdN (n : Nat) (t : DGs) (tg : Bool) (ds : List D) (h : ds.length = n) (ρ : Ro) (Q : Ro -> Prop) : bW n t (.lst tg ds) ρ Q = t ds ρ Q := by
 apply propext
 unfold bW
 constructor
 ·rintro ⟨ds', e, _, h⟩
  rcases e with e | ⟨_, e⟩
  ·cases e
  ·cases e; exact h
 ·intro q; exact ⟨ds, .inr ⟨tg, rfl⟩, h, q⟩
theorem l4 (n : Nat) (t : DGs) (ds : List D) (h : ds.length = n) (ρ : Ro) (Q : Ro -> Prop) : bW n t (.tup ds) ρ Q = t ds ρ Q := by
 apply propext
 unfold bW
 constructor
 ·rintro ⟨ds', e, _, h⟩
  rcases e with e | ⟨_, e⟩
  ·cases e; exact h
  ·cases e
 ·intro q; exact ⟨ds, .inl rfl, h, q⟩
theorem gdc (g : DG) (u : DGs) (x : D) (r : List D) (ρ : Ro) (Q : Ro -> Prop) : aW g u (x :: r) ρ Q = g x ρ fun ρ' => u r ρ' Q := by
 apply propext
 unfold aW
 constructor
 ·rintro ⟨d, r', e, h⟩; cases e; exact h
 ·intro h; exact ⟨x, r, rfl, h⟩
theorem gdn (ρ : Ro) (Q : Ro -> Prop) : dG [] ρ Q = Q ρ := by apply propext; unfold dG; simp
theorem gd2 (g1 g2 : DG) (tg : Bool) (a b : D) (ρ : Ro) (Q : Ro -> Prop) : bW 2 (aW g1 (aW g2 dG)) (.lst tg [a, b]) ρ Q = g1 a ρ fun ρ1 => g2 b ρ1 Q := by
 (first | rw [gdN 2 _ _ _ rfl] | rw [gdN 3 _ _ _ rfl]); simp only [gdc, gdn]
theorem rM (g1 g2 : DG) (a b : D) (ρ : Ro) (Q : Ro -> Prop) : bW 2 (aW g1 (aW g2 dG)) (.tup [a, b]) ρ Q = g1 a ρ fun ρ1 => g2 b ρ1 Q := by
 (first | rw [l4 2 _ _ rfl] | rw [l4 4 _ _ rfl]); simp only [gdc, gdn]
theorem gd3 (g1 g2 g3 : DG) (tg : Bool) (a b c : D) (ρ : Ro) (Q : Ro -> Prop) : bW 3 (aW g1 (aW g2 (aW g3 dG))) (.lst tg [a, b, c]) ρ Q = g1 a ρ fun ρ1 => g2 b ρ1 fun ρ2 => g3 c ρ2 Q := by
 (first | rw [gdN 2 _ _ _ rfl] | rw [gdN 3 _ _ _ rfl]); simp only [gdc, gdn]
theorem o4 (g1 g2 g3 g4 : DG) (a b c d : D) (ρ : Ro) (Q : Ro -> Prop) : bW 4 (aW g1 (aW g2 (aW g3 (aW g4 dG)))) (.tup [a, b, c, d]) ρ Q = g1 a ρ fun ρ1 => g2 b ρ1 fun ρ2 => g3 c ρ2 fun ρ3 => g4 d ρ3 Q := by
 (first | rw [l4 2 _ _ rfl] | rw [l4 4 _ _ rfl]); simp only [gdc, gdn]
end PD
namespace PD
open PySem PySem.Spec PyProof.Rows L2
section
variable {X : Cx} {pos : Pos}
theorem Rel.putG {W : Own} {H H' : Hp} {σ : St} {ρ : Ro} {i : Nat} {p : Addr} {x : OS} {o : HO} (r : Rel X W H σ ρ) (hi : i < σ.length) (sm : af H H') (hp : H p = none) (hk : X.K.lookup p = none) (h' : H' p = some o) (hd : bz X.K (fun t b => W.bad t b ∨ b = p) H' (W.sub σ.length i) x o) :
  Rel X ((W.drop i).put i p) H' (σ.set i (some (.ref p))) (ρ.set i (some (.ob x))) /\ Fwd W H ((W.drop i).put i p) H' := by
 have hO : ∀ j a, ((W.drop i).put i p).O j = some a -> (j = i /\ a = p) ∨ (j ≠ i /\ W.O j = some a) := fun j a h => by
  have h1 : (if j = i then some p else (if j = i then none else W.O j)) = some a := h
  by_cases e : j = i
  ·rw [if_pos e] at h1; cases h1; exact .inl ⟨e, rfl⟩
  ·rw [if_neg e, if_neg e] at h1; exact .inr ⟨e, h1⟩
 have hOi : ((W.drop i).put i p).O i = some p := by show (if i = i then some p else _) = _; rw [if_pos rfl]
 have hOj : ∀ j, j ≠ i -> ((W.drop i).put i p).O j = W.O j := fun j n => by show (if j = i then some p else (if j = i then none else W.O j)) = _; rw [if_neg n, if_neg n]
 have hS : ∀ j k b, W.sub σ.length j k = some b -> ((W.drop i).put i p).sub σ.length j k = some b := fun j k b e => (hOj _ (bU hi)).trans e
 have bad' : ∀ t a, ((W.drop i).put i p).bad t a -> W.bad t a ∨ a = p := fun t a z => by
  rcases z with z | ⟨j, z⟩ | z
  ·exact .inl (.inl z)
  ·rcases hO j a z with ⟨_, q⟩ | ⟨_, q⟩
   ·exact .inr q
   ·exact .inl (.inr (.inl ⟨j, q⟩))
  ·exact .inl (.inr (.inr z))
 have nb : ∀ {t : Bool} {a : Addr} {ws : List V}, SqG X.K H t a ws -> a ≠ p := fun {t a ws} q z => by
  subst z
  rcases q.1 with (q | ⟨o, q⟩) | ⟨o, its, n, q, _⟩
  ·rw [hp] at q; cases q
  ·rw [hp] at q; cases q
  ·rw [hk] at q; cases q
 have up : ∀ (d : D) (v : V), Den X.K W.bad H d v -> Den X.K ((W.drop i).put i p).bad H' d v := Den.map (fun _ _ q => SqT.same sm q) (fun t a ws n q => ⟨fun z => (bad' t a z).elim n (nb q), q.same sm⟩) (fun a _ n q => sm.kp a _ q n.nt)
 have ups : ∀ (ds : List D) (vs' : List V), ae X.K W.bad H ds vs' -> ae X.K ((W.drop i).put i p).bad H' ds vs' := ae.map (fun _ _ q => SqT.same sm q) (fun t a ws n q => ⟨fun z => (bad' t a z).elim n (nb q), q.same sm⟩) (fun a _ n q => sm.kp a _ q n.nt)
 refine ⟨⟨fun j d h => ?_, fun j x h => ?_, fun j k a h1 h2 => ?_, fun j a h1 => ?_, fun j a h1 => ?_, fun a h => let ⟨_, q⟩ := r.bt a h; sm.ex q, fun a h => let ⟨_, q⟩ := r.st a h; sm.ex q, r.ent.trans sm, r.tab.same sm⟩, rfl, rfl, fun b o _ q n => sm.kp b o q n, fun j a h => ?_, sm.tb, sm.ok⟩
 ·by_cases hj : j = i
  ·subst hj
   rw [List.getElem?_set] at h
   split at h
   ·split at h <;> cases h
   ·omega
  ·rw [zAA (Ne.symm hj)] at h
   obtain ⟨w, h1, h2⟩ := r.val j d h
   exact ⟨w, by rw [zAA (Ne.symm hj)]; exact h1, up d w h2⟩
 ·by_cases hj : j = i
  ·subst hj
   rw [List.getElem?_set] at h
   split at h
   ·split at h
    ·cases h
     exact ⟨p, _, hOi, by simp [hi], h', by rw [zAS]; exact hd.fewer (fun t a z => bad' t a z) (hS _)⟩
    ·cases h
   ·omega
  ·rw [zAA (Ne.symm hj)] at h
   obtain ⟨a, ws, h1, h2, h3, h4⟩ := r.own j x h
   exact ⟨a, ws, (hOj j hj).trans h1, by rw [zAA (Ne.symm hj)]; exact h2, sm.kp _ _ h3 h4.mut.nt, by rw [zAS]; exact h4.map ups fun k b q => ⟨hS j k b q, fun _ z => sm _ _ z⟩⟩
 ·rcases hO j a h1 with ⟨e1, q1⟩ | ⟨e1, q1⟩ <;> rcases hO k a h2 with ⟨e2, q2⟩ | ⟨e2, q2⟩
  ·rw [e1, e2]
  ·subst q1
   obtain ⟨_, _, ws, q, _⟩ := r.kn k _ q2
   rw [hp] at q; cases q
  ·subst q2
   obtain ⟨_, _, ws, q, _⟩ := r.kn j _ q1
   rw [hp] at q; cases q
  ·exact r.inj j k a q1 q2
 ·rcases hO j a h1 with ⟨e1, q1⟩ | ⟨e1, q1⟩
  ·subst q1
   exact ⟨hk, ⟨fun z => (by obtain ⟨o, q⟩ := r.bt _ z; rw [hp] at q; cases q), fun z => (by obtain ⟨o, q⟩ := r.st _ z; rw [hp] at q; cases q)⟩, _, h', hd.mut⟩
  ·obtain ⟨a1, a2, ws, a3, a4⟩ := r.kn j a q1
   exact ⟨a1, a2, ws, sm.kp _ _ a3 a4.nt, a4⟩
 ·rcases hO j a h1 with ⟨e1, q1⟩ | ⟨e1, q1⟩
  ·subst q1; exact r.ent.free hp
  ·exact r.ke j a q1
 ·rcases hO j a h with ⟨e1, q1⟩ | ⟨e1, q1⟩
  ·subst q1; exact .inr hp
  ·exact .inl ⟨j, q1⟩
theorem Rel.putOwn2 {W : Own} {H H' : Hp} {σ : St} {ρ : Ro} {i : Nat} {p : Addr} {ds : List D} {vs : List V} (r : Rel X W H σ ρ) (hi : i < σ.length) (sm : af H H') (hp : H p = none) (hk : X.K.lookup p = none) (h' : H' p = some (.lst vs)) (hd : ae X.K (fun t b => W.bad t b ∨ b = p) H' ds vs) :
  Rel X ((W.drop i).put i p) H' (σ.set i (some (.ref p))) (ρ.set i (some (.own ds))) /\ Fwd W H ((W.drop i).put i p) H' := r.putG hi sm hp hk h' (.lst hd)
theorem ae.apart {K : PySem.W.Frag} {P : Bool -> Addr -> Prop} {H : Hp} {a : Addr} {o : HO} {ds : List D} {us : List V} (n : H a = none) (k : K.lookup a = none) (h : ae K P H ds us) (nt : NT o := by exact True.intro) : ae K (fun t b => P t b ∨ b = a) (L2.upd H a o) ds us :=
 ae.map (fun _ _ q => SqT.same (af.upd n nt) q) (fun t b ws p q => ⟨(fun z => z.elim p fun z => by
  subst z
  rcases q.1 with (q | ⟨o, q⟩) | ⟨o, its, m, q, _⟩
  ·rw [n] at q; cases q
  ·rw [n] at q; cases q
  ·rw [k] at q; cases q), q.same (af.upd n nt)⟩) (fun b _ m q => (af.upd n nt).kp b _ q m.nt) ds us h
theorem Rel.mutG {W : Own} {H : Hp} {σ : St} {ρ : Ro} {i : Nat} {a : Addr} {x x' : OS} {o o' : HO} (r : Rel X W H σ ρ) (eo : ρ[i]? = some (some (.ob x))) (oa : W.O i = some a) (sa : σ[i]? = some (some (.ref a))) (ha : H a = some o) (hm : da o) (hd : bz X.K W.bad H (W.sub σ.length i) x' o') :
  Rel X W (L2.upd H a o') σ (ρ.set i (some (.ob x'))) /\ Fwd W H W (L2.upd H a o') := by
 have badA : ∀ t, W.bad t a := fun _ => .inr (.inl ⟨i, oa⟩)
 have noT : ∀ b ws, SqT X.K H b ws -> SqT X.K (L2.upd H a o') b ws := fun b ws q => by
  show L2.upd _ _ _ _ = _
  rw [aj (eU q ha (by intro z; subst z; exact hm))]
  exact q
 have noL : ∀ t b ws, ¬ W.bad t b -> SqG X.K H t b ws -> ¬ W.bad t b /\ SqG X.K (L2.upd H a o') t b ws := fun t b ws n q => by
  have hne : b ≠ a := fun e => n (e ▸ badA t)
  refine ⟨n, ?_, fun z => ⟨by rw [aj hne]; exact (q.2 z).1, (q.2 z).2⟩⟩
  rcases q.1 with (q | ⟨u, q⟩) | q
  ·exact .inl (.inl (by rw [aj hne]; exact q))
  ·exact .inl (.inr ⟨u, by rw [aj hne]; exact q⟩)
  ·exact .inr q
 have noX : ∀ b u, Sol u -> H b = some u -> L2.upd H a o' b = some u := fun b u n q => by rw [aj (eU q ha (by intro z; subst z; exact hm.sol n))]; exact q
 have hl' : i < ρ.length := (zAD.mp eo).1
 have il : i < σ.length := (zAD.mp sa).1
 have hSb : ∀ j k b, W.sub σ.length j k = some b -> W.sub σ.length j k = some b /\ ∀ us, H b = some (.lst us) -> L2.upd H a o' b = some (.lst us) := fun j k b q => ⟨q, fun us z => by rw [aj (fun e => bU il (r.inj _ _ a (by rw [<- e]; exact q) oa))]; exact z⟩
 have tr : ∀ b u, H b = some u -> ∃ u', L2.upd H a o' b = some u' := fun b u q => by
  by_cases hba : b = a
  ·subst hba; exact ⟨_, aw⟩
  ·exact ⟨u, by rw [aj hba]; exact q⟩
 refine ⟨⟨fun j d h => ?_, fun j y h => ?_, r.inj, fun j b hb => ?_, r.ke, fun b hb => let ⟨u, q⟩ := r.bt b hb; tr b u q, fun b hb => let ⟨u, q⟩ := r.st b hb; tr b u q, r.ent.ins (r.ke i a oa) ha hm hd.mut.nt, r.tab.upd hd.mut.nt (.inr ⟨o, ha, hm.ne, hm.nt⟩)⟩, Fwd.upd oa ha hm hd.mut.nt⟩
 ·by_cases hj : j = i
  ·subst hj
   rw [zAE hl'] at h; cases h
  ·rw [zAA (Ne.symm hj)] at h
   obtain ⟨w, h1, h2⟩ := r.val j d h
   exact ⟨w, h1, Den.map noT noL noX d w h2⟩
 ·by_cases hj : j = i
  ·subst hj
   rw [zAE hl'] at h
   cases h
   exact ⟨a, o', oa, sa, aw, hd.map (ae.map noT noL noX) (hSb _)⟩
  ·rw [zAA (Ne.symm hj)] at h
   obtain ⟨b, ws, h1, h2, h3, h4⟩ := r.own j y h
   have hne : b ≠ a := fun e => hj (r.inj j i a (by rw [<- e]; exact h1) oa)
   exact ⟨b, ws, h1, h2, by rw [aj hne]; exact h3, h4.map (ae.map noT noL noX) (hSb _)⟩
 ·obtain ⟨k1, k2, ws, k3, k4⟩ := r.kn j b hb
  refine ⟨k1, k2, ?_⟩
  by_cases hba : b = a
  ·subst hba; exact ⟨_, aw, hd.mut⟩
  ·exact ⟨ws, by rw [aj hba]; exact k3, k4⟩
theorem Rel.mut {W : Own} {H : Hp} {σ : St} {ρ : Ro} {i : Nat} {a : Addr} {ds ds' : List D} {vs vs' : List V} (r : Rel X W H σ ρ) (eo : ρ[i]? = some (some (.own ds))) (oa : W.O i = some a) (sa : σ[i]? = some (some (.ref a))) (ha : H a = some (.lst vs)) (hd : ae X.K W.bad H ds' vs') :
  Rel X W (L2.upd H a (.lst vs')) σ (ρ.set i (some (.own ds'))) /\ Fwd W H W (L2.upd H a (.lst vs')) := r.mutG eo oa sa ha True.intro (.lst hd)
variable {es : List Expr} {t : DA}
def oP (i : Nat) (t : DA) : DS := fun E ρ => t ρ fun ds => ds.length <= sizeLine /\ E.nx (ρ.set i (some (.own ds)))
theorem rG {x : Str} {pos' lpos : Pos} (i : Nat) (hN : X.N.Nodup) (h : PAD X es t) (hi : X.N[i]? = some x := by rfl) (hx : Loc X.env.scope x := by first | exact Or.inl rfl | exact Or.inr rfl)
  (hs : swapsWith (.List es lpos) (some (.Name x pos')) pos.line X.env = pure false := by rfl) (hf : X.fn x = true ∨ X.env.scope.names.lookup x = some .local := by first | exact .inl rfl | exact .inr rfl | assumption) :
  PSD X (.Assign [.Name x pos'] (.List es lpos) pos) (oP i t) := by
 intro pins s σ H W ρ E I r hq
 refine wpAny_Assign_Name (wpAny_List_spliced (thn (h lpos pins s σ H W ρ _ I r hq) fun us s1 ⟨vs, H1, ds, I1, rv, e1, hd, z, q⟩ => ?_)) hs
 rw [<- hd.len] at z
 refine ⟨by rw [<- rv.length]; exact z, ?_⟩
 have hf1 : H1 s1.heap.objs.size = none := I1.hok.fresh (zAH _)
 have I2 := I1.laid (o := .lst vs) (t' := s1.toks) (fun b u e => zAB _ e) (zAH _) ⟨z, us, 0, rv, zAJ _ rfl⟩
 have rp := (r.same e1).putOwn2 (Inv.ilt I1 hi) (af.upd (o := .lst vs) hf1) hf1 (Inv.kfresh I1) aw (ae.apart hf1 (Inv.kfresh I1) hd)
 exact cK (v := .ref s1.heap.objs.size) I2 hN hi hx rfl (fun s2 I3 => ⟨_, _, _, I3, (Fwd.same e1).trans rp.2, _, rp.1, q⟩) hf
def gQ (i : Nat) (te : DE) : DS := fun E ρ => ∃ ds, ρ[i]? = some (some (.own ds)) /\ te ρ fun d => ds.length < sizeLine /\ E.nx (ρ.set i (some (.own (ds ++ [d]))))
theorem ir {x : Str} {e : Expr} {te : DE} {px apos cpos : Pos} (i : Nat) (he : PED X e te) (hi : X.N[i]? = some x := by rfl) (hv : Vis X.env.scope x := by first | exact Or.inl rfl | exact Or.inr (Or.inl rfl) | exact Or.inr (Or.inr rfl))
  (hd : (x == ("__debug__" : Str)) = false := by decide) (hcd : (x == ("__classdict__" : Str)) = false := by decide)
  (hbase : attributeBase (.Name x px) "append" X.env (eval (.Name x px) X.env) = eval (.Name x px) X.env := by rfl)
  (hfew : ((backTo cpos (starEach [e] X.env)).all (fun x => !x.1) && (backToKw cpos (keywordEach [] X.env)).all (fun x => x.1.isSome) && decide ([e].length + ([] : List Keyword).length + (if ([] : List Keyword).isEmpty then 0 else 1) < 30)) = true := by rfl)
  (hline : (apos.endLine == cpos.line) = true := by rfl) (hst : starEach [e] X.env = (false, eval e X.env) :: starEach [] X.env := by rfl) (hplain : (backTo cpos (starEach [] X.env)).any (·.1) = false := by rfl)
  (hs : swapsWith (.Call (.Attribute (.Name x px) "append" apos) [e] [] cpos) none pos.line X.env = pure false := by rfl) :
  PSD X (.Expr (.Call (.Attribute (.Name x px) "append" apos) [e] [] cpos) pos) (gQ i te) := by
 have P0 := k9 (pos := pos) (qk PySem.F.plainAttrs_list PySem.F.slot_list_append PySem.F.type_list_append dJ (eI hi hv hd hcd) (bD he.pe dm hst) hbase hfew hline hst hplain) hs
 refine PSD.of P0 fun σ H W ρ E r hl h => ?_
 obtain ⟨ds, eo, h⟩ := h
 obtain ⟨a, vs, oa, sa, ha, hds⟩ := r.ownL i ds eo
 refine ⟨.ref a, sa, .inl ⟨rfl, _, SqL.of ha⟩, W, ρ, _, r, h, fun v H' d e1 hd' q => ?_⟩
 obtain ⟨z, q⟩ := q
 have ha' := e1 _ _ ha
 have r' := r.same e1
 have hds' := hds.same e1
 refine ⟨a, vs, v, rfl, rfl, ha', by rw [hds'.len]; exact z, ?_⟩
 obtain ⟨r2, f2⟩ := r'.mut (vs' := vs ++ [v]) eo oa sa ha' (hds'.append (ae.one hd'))
 exact ⟨W, _, (Fwd.same e1).trans f2, r2, q⟩
theorem Rel.freeze {X : Cx} {W : Own} {H : Hp} {σ : St} {ρ : Ro} {i : Nat} {ds : List D} (r : Rel X W H σ ρ) (e : ρ[i]? = some (some (.own ds))) : Rel X (W.drop i) H σ (ρ.set i (some (.val (.lst true ds)))) := by
 obtain ⟨a, vs, oa, sa, ha, hds⟩ := r.ownL i ds e
 have il : i < σ.length := (zAD.mp sa).1
 have hl' : i < ρ.length := (zAD.mp e).1
 have nb : ¬ (W.drop i).bad true a := fun z => by
  rcases z with z | ⟨j, z⟩ | ⟨_, z⟩
  rotate_right
  ·exact (r.kn i a oa).2.1.2 z
  ·exact (r.kn i a oa).2.1.1 z
  ·have z' : (if j = i then none else W.O j) = some a := z
   by_cases ej : j = i
   ·rw [if_pos ej] at z'; cases z'
   ·rw [if_neg ej] at z'; exact ej (r.inj j i a z' oa)
 have hd : Den X.K (W.drop i).bad H (.lst true ds) (.ref a) := Den.lst nb (.new ha (r.kn i a oa).1) (hds.fewer fun _ _ => Own.drop_bad)
 refine ⟨fun j x h => ?_, fun j x h => ?_, fun j k b h1 h2 => ?_, fun j b h1 => ?_, fun j b h1 => ?_, r.bt, r.st, r.ent, r.tab⟩
 ·by_cases hj : j = i
  ·subst hj
   rw [zAE hl'] at h
   cases h
   exact ⟨.ref a, sa, hd⟩
  ·rw [zAA (Ne.symm hj)] at h
   obtain ⟨w, h1, h2⟩ := r.val j x h
   exact ⟨w, h1, h2.fewer fun _ _ => Own.drop_bad⟩
 ·by_cases hj : j = i
  ·subst hj
   rw [zAE hl'] at h; cases h
  ·rw [zAA (Ne.symm hj)] at h
   obtain ⟨b, ws, h1, h2, h3, h4⟩ := r.own j x h
   exact ⟨b, ws, by show (if j = i then none else W.O j) = _; rw [if_neg hj]; exact h1, h2, h3, h4.fewer (fun _ _ => Own.drop_bad) (Own.drop_sub il)⟩
 ·have h1' : (if j = i then none else W.O j) = some b := h1
  have h2' : (if k = i then none else W.O k) = some b := h2
  by_cases e1 : j = i
  ·rw [if_pos e1] at h1'; cases h1'
  ·by_cases e2 : k = i
   ·rw [if_pos e2] at h2'; cases h2'
   ·rw [if_neg e1] at h1'
    rw [if_neg e2] at h2'
    exact r.inj j k b h1' h2'
 ·have h1' : (if j = i then none else W.O j) = some b := h1
  by_cases e1 : j = i
  ·rw [if_pos e1] at h1'; cases h1'
  ·rw [if_neg e1] at h1'
   exact r.kn j b h1'
 ·have h1' : (if j = i then none else W.O j) = some b := h1
  by_cases e1 : j = i
  ·rw [if_pos e1] at h1'; cases h1'
  ·rw [if_neg e1] at h1'
   exact r.ke j b h1'
def gS (i : Nat) (t : DS) : DS := fun E ρ => ∃ ds, ρ[i]? = some (some (.own ds)) /\ t E (ρ.set i (some (.val (.lst true ds))))
theorem gz {sts : List Stmt} {t : DS} (i : Nat) (h : bA X sts t) : bA X sts (gS i t) := by
 intro pins s σ H W ρ E I r hq
 obtain ⟨ds, e, hq⟩ := hq
 exact thn (h pins s σ H (W.drop i) _ E I (r.freeze e) hq) fun _ _ z => z.up (Fwd.drop W H i)
end
def bJ (env : Env) (ns : List Str) : List (Str × Addr) := ns.filterMap fun n => (env.cells.lookup n).map fun c => (n, c)
theorem dg {env : Env} : ∀ {ns : List Str} {x : Str} {c : Addr}, (bJ env ns).lookup x = some c -> env.cells.lookup x = some c
 | [], _, _, h => by cases h
 | n :: r, x, c, h => by
  unfold bJ at h
  rw [zA0] at h
  cases e : env.cells.lookup n with
  | none =>
   rw [e] at h
   exact dg (ns := r) h
  | some c' =>
   rw [e] at h
   have h' : List.lookup x ((n, c') :: bJ env r) = some c := h
   rw [zAc] at h'
   cases q : x == n with
   | true =>
    rw [q] at h'
    have ex : x = n := by simpa using q
    subst ex
    rw [e]
    exact h'
   | false =>
    rw [q] at h'
    exact dg (ns := r) h'
theorem gc {env : Env} : ∀ {ns : List Str} {x : Str} {c : Addr}, x ∈ ns -> env.cells.lookup x = some c -> (bJ env ns).lookup x = some c
 | [], _, _, h, _ => by cases h
 | n :: r, x, c, h, e => by
  unfold bJ
  rw [zA0]
  by_cases ex : x = n
  ·subst ex
   rw [e]
   show List.lookup x ((x, c) :: _) = some c
   simp [zAc]
  ·have h' : x ∈ r := by
    rcases zAU.mp h with z | z
    ·exact absurd z ex
    ·exact z
   have ih := gc (ns := r) h' e
   cases q : env.cells.lookup n with
   | none => exact ih
   | some c' =>
    show List.lookup x ((n, c') :: bJ env r) = some c
    rw [zAc]
    have : (x == n) = false := by simpa using ex
    rw [this]
    exact ih
structure CSc (osc sc : Scope) (xs ns : List Str) : Prop where
 kind : sc.kind = .function
 nocell : ∀ y ∈ sc.names, y.2 ≠ .cell
 names : ∀ y ∈ sc.names, y.2 = .local -> sc.names.lookup y.1 = some .local
 tgt : ∀ x ∈ xs, sc.names.lookup x = some .local
 free : ∀ y ∈ sc.names, y.2 = .free -> y.1 ∈ ns /\ osc.names.lookup y.1 = some .cell
 cells : ∀ n ∈ ns, sc.names.lookup n = some .free /\ osc.names.lookup n = some .cell
 nd : (xs ++ ns).Nodup
def ax (X : Cx) (sc : Scope) (ns xs : List Str) (C : Addr) (s₂ : Shared) (H₂ : Hp) (fp : List Addr) (XE : Value -> Shared -> Prop) : Cx :=
 { X with N := xs ++ ns, s₀ := s₂, H₀ := H₂, env := compEnvC sc (bJ X.env ns) C X.env, outer := X.stack, stack := X.stack, ex := fp, fn := fun _ => false, pn := [], xe := XE }
theorem eK {env : Env} (hk : env.scope.kind = .function) : ∀ {names : List (Str × NameKind)} {n : Str}, names.lookup n = some .free -> env.kindOf n = some .cell →
  (names.map fun (n, k) => if (k == NameKind.free && env.scope.kind == .function && env.kindOf n == some .cell) then (n, NameKind.cell) else (n, k)).lookup n = some .cell
 | [], _, h, _ => by simp at h
 | (m, k) :: r, n, h, hc => by
  have ih := @eK env hk r n
  show List.lookup n ((if (k == NameKind.free && env.scope.kind == .function && env.kindOf m == some .cell) = true then (m, NameKind.cell) else (m, k)) :: _) = _
  cases hx : n == m with
  | true =>
   simp only [zAc, hx] at h
   cases h
   have e : n = m := by simpa using hx
   subst e
   rw [hk, hc]
   simp [zAc]
  | false =>
   simp only [zAc, hx] at h
   by_cases hcc : (k == NameKind.free && env.scope.kind == .function && env.kindOf m == some .cell) = true
   ·rw [if_pos hcc]; simp only [zAc, hx]; exact ih h hc
   ·rw [if_neg hcc]; simp only [zAc, hx]; exact ih h hc
theorem dZ {env : Env} : ∀ {names : List (Str × NameKind)} {n : Str} {k : NameKind},
  (names.map fun (n, k) => if (k == NameKind.free && env.scope.kind == .function && env.kindOf n == some .cell) then (n, NameKind.cell) else (n, k)).lookup n = some k -> (k = .cell ∨ k = .free) →
  (∃ y ∈ names, y.1 = n /\ y.2 = .free) ∨ ∃ y ∈ names, y.1 = n /\ y.2 = .cell
 | [], _, _, h, _ => by simp at h
 | (m, j) :: r, n, k, h, hk => by
  have h' : List.lookup n ((if (j == NameKind.free && env.scope.kind == .function && env.kindOf m == some .cell) = true then (m, NameKind.cell) else (m, j)) :: (r.map fun (n, k) => if (k == NameKind.free && env.scope.kind == .function && env.kindOf n == some .cell) then (n, NameKind.cell) else (n, k))) = some k := h
  have up : ((∃ y ∈ r, y.1 = n /\ y.2 = .free) ∨ ∃ y ∈ r, y.1 = n /\ y.2 = .cell) -> ((∃ y ∈ (m, j) :: r, y.1 = n /\ y.2 = .free) ∨ ∃ y ∈ (m, j) :: r, y.1 = n /\ y.2 = .cell) := fun z => by
   rcases z with ⟨y, hy, q⟩ | ⟨y, hy, q⟩
   ·exact .inl ⟨y, zAb _ hy, q⟩
   ·exact .inr ⟨y, zAb _ hy, q⟩
  cases hx : n == m with
  | true =>
   have e : n = m := by simpa using hx
   subst e
   by_cases hcc : (j == NameKind.free && env.scope.kind == .function && env.kindOf n == some .cell) = true
   ·have : j = .free := by
     simp only [zAW] at hcc
     exact beq_iff_eq.mp hcc.1.1
    exact .inl ⟨(n, j), zAf, rfl, this⟩
   ·rw [if_neg hcc] at h'
    simp only [zAc, hx] at h'
    cases h'
    rcases hk with hk | hk
    ·exact .inr ⟨(n, j), zAf, rfl, hk⟩
    ·exact .inl ⟨(n, j), zAf, rfl, hk⟩
  | false =>
   by_cases hcc : (j == NameKind.free && env.scope.kind == .function && env.kindOf m == some .cell) = true
   ·rw [if_pos hcc] at h'; simp only [zAc, hx] at h'
    exact up (dZ h' hk)
   ·rw [if_neg hcc] at h'; simp only [zAc, hx] at h'
    exact up (dZ h' hk)
end PD
namespace PD
open PySem PySem.Spec PyProof.Rows L2
def aI (ρ : Ro) (j : Nat) : Option Sl := match ρ[j]? with
 | some (some (.val d)) => some (.val d)
 | _ => none
def cb (σ : St) (j : Nat) : Option V := match σ[j]? with
 | some (some v) => some v
 | _ => none
section
variable {X : Cx} {pins : List (Addr × Obj)} {σ : St} {H : Hp} {s : Shared} {sc : Scope} {ns : List Str} {js : List Nat} {xs : List Str} {fp : List Addr}
theorem Inv.comp {XE : Value -> Shared -> Prop} {s₁ : Shared} {H₁ : Hp} {C : Addr} (I : Inv X pins σ H s) (S : CSc X.env.scope sc xs ns) (hj : js.length = ns.length /\ ∀ (i : Nat) (j : Nat) (n : Str), js[i]? = some j -> ns[i]? = some n -> X.N[j]? = some n) (hfp : ∀ b ∈ fp, bF X pins H b) (hfo : ∀ b ∈ fp, ∃ o, s.heap.get? b = some o) (hC : s.heap.objs.size <= C)
  (hos : s₁.os = s.os) (hg : AllBare s₁.gens) (hk : ∀ b o, s.heap.get? b = some o -> s₁.heap.get? b = some o) (hns : s₁.heap.Ns C fun _ => none) (hCn : H₁ C = none) (hs : af H H₁) (hnew : ∀ b o, s.heap.get? b = some o -> H b = none -> H₁ b = none) (hok : HOk X.prog X.w H₁ s₁.heap) :
  Inv (ax X sc ns xs C s H fp XE) [] (List.replicate xs.length none ++ js.map (cb σ)) H₁ s₁ := by
 have kd : X.env.scope.kind = .function := I.ok.kind
 have cab : ∀ y c, (bJ X.env ns).lookup y = some c -> X.env.cells.lookup y = some c := fun y c e => dg e
 have cold : ∀ y c, (bJ X.env ns).lookup y = some c -> ∃ v, s.heap.IsCell c v := fun y c e => I.cell y c (cab y c e)
 refine ⟨⟨I.ok.mod, S.kind, I.ok.glob, I.ok.blt, hC, fun y z c h1 h2 => I.ok.inj y z c (cab y c h1) (cab z c h2), fun y hy => ?_, fun y c h _ => (by cases h), I.ok.hd, I.ok.frames, .inl rfl, fun b hb => ?_, I.bs, zAa I.ok.bsz I.sz, fun b o e hb => ?_, fun b hb z => ?_, I.stack, I.stkFree⟩,
  hos, hg, ⟨fun b o e n _ _ => hk b o e, fun b o e n _ _ => ⟨o.slots, hk b o e⟩, fun b o e n _ => hnew b o e n, fun b o e _ => ⟨o, hk b o e⟩, fun b xs e => hs b _ e, fun b o u e => hs b _ e, fun b ps e => hs.tb b ps e⟩, ⟨_, hns, fun i y v h1 h2 h3 => ?_⟩, fun y c e => ?_, hCn, fun y c e => ?_, fun p hp => absurd (show p ∈ ([] : List (Addr × Obj)) from hp) (by simp), hok, ?_⟩
 ·-- every cell of the block is one of the body's
  have hy' : ∃ k, ((relabel sc X.env).names.lookup y = some k) /\ (k = .cell ∨ k = .free) := by
   rcases hy with hy | hy
   ·exact ⟨_, hy, .inl rfl⟩
   ·exact ⟨_, hy, .inr rfl⟩
  obtain ⟨k, h1, h2⟩ := hy'
  rcases dZ (env := X.env) h1 h2 with ⟨z, hz, e1, e2⟩ | ⟨z, hz, e1, e2⟩
  ·obtain ⟨m1, m2⟩ := S.free z hz e2
   subst e1
   obtain ⟨c, hc⟩ := I.ok.has z.1 (.inl m2)
   exact ⟨c, gc m1 hc⟩
  ·exact absurd e2 (S.nocell z hz)
 ·refine ⟨fun z => ?_, fun y c e z => ?_⟩
  ·have z' : b = C := z
   obtain ⟨o, ho⟩ := hfo b hb
   have hlt := zAC ho
   rw [z'] at hlt
   exact absurd (zAG hlt hC) (zAe _)
  ·exact (hfp b hb).2.2.2.2.1 y c (cab y c e) z
 ·obtain ⟨f0, f1, f2, f3, f4, f5⟩ := hfp b hb
  rcases f3 with f3 | f3
  ·exact I.ok.noex b o e f3
  ·exact absurd (zAG (zAC (I.ok.bs b o e).1) f3) (zAe _)
 ·obtain ⟨f0, f1, f2, f3, f4, f5⟩ := hfp b hb
  rcases zAU.mp (I.stkSub b z) with e | e
  ·exact f1 e
  ·exact f2 e
 ·by_cases hi : i < xs.length
  ·rw [zAV (by simpa using hi), zAj, if_pos hi] at h2
   cases h2
  ·have h1' : ns[i - xs.length]? = some y := by
    have h1 : (xs ++ ns)[i]? = some y := h1
    rw [zAM (by omega)] at h1
    exact h1
   have h2' : (js.map (cb σ))[i - xs.length]? = some (some v) := by
    rw [zAM (by simpa using hi)] at h2
    simpa using h2
   generalize i - xs.length = i at h1' h2'
   rw [zAN] at h2'
   cases e : js[i]? with
   | none => rw [e] at h2'; cases h2'
   | some j =>
    rw [e] at h2'
    have h4 : cb σ j = some v := zAR h2'
    have h5 : σ[j]? = some (some v) := by
     unfold cb at h4
     split at h4
     ·rename_i u q
      cases h4
      exact q
     ·cases h4
    have hN := hj.2 i j y e h1'
    have mem : y ∈ ns := zAy h1'
    obtain ⟨c1, c2⟩ := S.cells y mem
    obtain ⟨m, hm, hl⟩ := I.loc
    obtain ⟨u, ru, lk⟩ := hl j y v hN h5 (.inr (.inl c2))
    refine ⟨u, ru, ?_⟩
    rcases lk with ⟨k1, _⟩ | ⟨_, c, e1, o, ho, hd⟩
    ·have k1' : X.env.scope.names.lookup y = some .local := k1
     rw [c2] at k1'; cases k1'
    ·exact .inr ⟨.inl (eK kd c1 c2), c, gc mem e1, o, hk c o ho, hd⟩
 ·obtain ⟨v, z⟩ := cold y c e
  obtain ⟨o, ho, hd⟩ := z
  exact ⟨v, o, hk c o ho, hd⟩
 ·obtain ⟨v, o, ho, hd⟩ := cold y c e
  exact hnew c o ho (I.freeC y c (cab y c e))
 ·show (List.replicate xs.length none ++ js.map (cb σ)).length = (xs ++ ns).length
  simp [hj.1]
def TsD (X : Cx) (ifs : List Expr) (t : DT) : Prop :=
 ∀ (pins : List (Addr × Obj)) (s : Shared) (σ : St) (H : Hp) (W : Own) (ρ : Ro) (Q : Bool -> Prop), Inv X pins σ H s -> Rel X W H σ ρ -> t ρ Q →
  wpAny (model X.prog X.w) X.A (forIn ifs true fun c r => if r = true then do let ok ← isTrue c X.env (eval c X.env); pure (ForInStep.yield ok) else pure (ForInStep.yield r)) (DTP X pins σ H Q) X.xe s
def gP : DT := fun _ Q => Q true
theorem gK {X : Cx} : TsD X [] gP := fun _ s σ H W ρ Q I r h => wpAny_tests_nil ⟨H, I, af.refl H, h⟩
def dS (n : Nat) (cap ρ : Ro) : Prop := ∃ r0 : Ro, r0.length = n /\ ρ = r0 ++ cap
theorem ij {prog : Program} {w : World} {A : Around} {s : Shared} {R : Result -> Shared -> Prop} {elt target iter : Expr} {ifs : List Expr} {scope : Scope} {pos : Pos} {it acc : Value} {env : Env} (I : Nat -> Shared -> Prop)
  (turn : ∀ n s, I n s -> wpAny (model prog w) A (pyNext it) (fun r s₁ => match r with
   | none => R (.ok .next) s₁
   | some v => wpAny (model prog w) A (letOwnedTupleGo target it v) (fun _ z₁ => wpAny (model prog w) A (assign target env v) (fun _ s₂ =>
     wpAny (model prog w) A (forIn ifs true fun c r => if r = true then do let ok ← isTrue c env (eval c env); pure (ForInStep.yield ok) else pure (ForInStep.yield r)) (fun ok s₃ => if ok = true then wpAny (model prog w) A (eval elt env) (fun x s₄ =>
       wpAny (model prog w) A (call (.builtin "list.append") [acc, x]) (fun _ s₅ => ∃ m, m < n /\ I m s₅) (notedBy (model prog w) A env fun e z => R (.error e) z) s₄) (notedBy (model prog w) A env fun e z => R (.error e) z) s₃
      else ∃ m, m < n /\ I m s₃) (notedBy (model prog w) A env fun e z => R (.error e) z) s₂) (notedBy (model prog w) A env fun e z => R (.error e) z) z₁) (notedBy (model prog w) A env fun e z => R (.error e) z) s₁) (notedBy (model prog w) A env fun e z => R (.error e) z) s)
  (n : Nat) (h : I n s) : codeAny (model prog w) A (.compLoop (.ListComp elt [⟨target, iter, ifs, 0⟩] scope pos) 0 it acc env) R s := by
 refine codeAny_loop rfl I (fun m z hI => ?_) n h
 show wpAny _ A ((compTurn (.ListComp elt [⟨target, iter, ifs, 0⟩] scope pos) 0 it acc env).onRaise (fun e => do noteFrame e env; theTreesLotGoes e)) _ _ z
 refine wpAny_noted ?_
 rw [compTurn_list]
 refine wpAny_bind (wpAny_standAt (wpAny_bind (wpAny_mono (turn m z hI) (fun r z1 g1 => ?_) fun _ _ q => q)))
 cases r with
 | none => exact wpAny_pure g1
 | some v =>
  refine wpAny_bind (wpAny_mono g1 (fun _ z2 g2 => ?_) fun _ _ q => q)
  refine wpAny_bind (wpAny_mono g2 (fun _ z3 g3 => wpAny_bind (wpAny_mono g3 (fun ok z4 g4 => ?_) fun _ _ q => q)) fun _ _ q => q)
  cases ok with
  | false => exact wpAny_pure ⟨rfl, g4⟩
  | true => exact wpAny_bind (wpAny_bind (wpAny_mono g4 (fun y z5 g5 => wpAny_bind (wpAny_mono g5 (fun _ z6 g6 => wpAny_pure (wpAny_pure ⟨rfl, g6⟩)) fun _ _ q => q)) fun _ _ q => q))
theorem Rel.mutB {X : Cx} {W : Own} {H : Hp} {σ : St} {ρ : Ro} {a : Addr} {vs vs' : List V} (r : Rel X W H σ ρ) (hB : W.B a) (ha : H a = some (.lst vs)) (h0 : X.H₀ a = none) :
  Rel X W (L2.upd H a (.lst vs')) σ ρ /\ ∀ ds us, ae X.K W.bad H ds us -> ae X.K W.bad (L2.upd H a (.lst vs')) ds us := by
 have noT : ∀ b ws, SqT X.K H b ws -> SqT X.K (L2.upd H a (.lst vs')) b ws := fun b ws q => by
  show L2.upd _ _ _ _ = _
  rw [aj (eU q ha (by intro z; cases z))]
  exact q
 have noL : ∀ t b ws, ¬ W.bad t b -> SqG X.K H t b ws -> ¬ W.bad t b /\ SqG X.K (L2.upd H a (.lst vs')) t b ws := fun t b ws n q => by
  have hne : b ≠ a := fun e => n (.inl (e ▸ hB))
  refine ⟨n, ?_, fun z => ⟨by rw [aj hne]; exact (q.2 z).1, (q.2 z).2⟩⟩
  rcases q.1 with (q | ⟨o, q⟩) | q
  ·exact .inl (.inl (by rw [aj hne]; exact q))
  ·exact .inl (.inr ⟨o, by rw [aj hne]; exact q⟩)
  ·exact .inr q
 have noX : ∀ b u, Sol u -> H b = some u -> L2.upd H a (.lst vs') b = some u := fun b u n q => by rw [aj (eU q ha (by intro z; subst z; exact n))]; exact q
 have tr : ∀ b o, H b = some o -> ∃ o', L2.upd H a (.lst vs') b = some o' := fun b o q => by
  by_cases hba : b = a
  ·subst hba; exact ⟨_, aw⟩
  ·exact ⟨o, by rw [aj hba]; exact q⟩
 refine ⟨⟨fun j d h => ?_, fun j y h => ?_, r.inj, fun j b hb => ?_, r.ke, fun b hb => let ⟨o, q⟩ := r.bt b hb; tr b o q, fun b hb => let ⟨o, q⟩ := r.st b hb; tr b o q, r.ent.ins h0 ha True.intro True.intro, r.tab.upd True.intro (.inr ⟨_, ha, (fun _ z => by cases z), True.intro⟩)⟩, ae.map noT noL noX⟩
 ·obtain ⟨v, h1, h2⟩ := r.val j d h
  exact ⟨v, h1, Den.map noT noL noX d v h2⟩
 ·obtain ⟨b, o, h1, h2, h3, h4⟩ := r.own j y h
  exact ⟨b, o, h1, h2, by rw [aj (fun e => (r.kn j b h1).2.1.1 (by rw [e]; exact hB))]; exact h3, h4.map (ae.map noT noL noX) fun k c q => ⟨q, fun us z => by rw [aj (fun e => (r.kn _ c q).2.1.1 (by rw [e]; exact hB))]; exact z⟩⟩
 ·obtain ⟨k1, k2, o, k3, k4⟩ := r.kn j b hb
  exact ⟨k1, k2, o, by rw [aj (fun e => k2.1 (by rw [e]; exact hB))]; exact k3, k4⟩
def aR (X : Cx) (sc : Scope) (ns : List Str) (RR : Value -> Addr -> Result -> Shared -> Prop) (D C : Addr) : Value -> Shared -> Prop := notedBy (model X.prog X.w) X.A (compEnvC sc (bJ X.env ns) C X.env) fun e s'' => RR (.ref D) C (.error e) s''
theorem bg.no {X : Cx} : bg X fun _ => False := fun _ _ _ _ _ _ _ _ _ _ h => by
 obtain ⟨_, _, _, _, _, _, _, _, _, _, _, _, _, z⟩ := h
 exact z.elim
theorem gw {elt iter tg : Expr} {ifs : List Expr} {pos : Pos} {g : DG} {te : DE} {tc : DT} {W : Own} {ρ : Ro} {J : It} {it : Addr} {tn : Nat -> Heap -> Prop} {ds : List D} {E : Value -> Shared -> Prop} {RR : Value -> Addr -> Result -> Shared -> Prop} (hc : X.calm = true) (S : CSc X.env.scope sc xs ns)
  (hj : js.length = ns.length /\ ∀ (i : Nat) (j : Nat) (n : Str), js[i]? = some j -> ns[i]? = some n -> X.N[j]? = some n)
  {Ed : Value -> Prop} (he : ∀ (C : Addr) (s₂ : Shared) (H₂ : Hp) (fp : List Addr) (XE : Value -> Shared -> Prop), bg (ax X sc ns xs C s₂ H₂ fp XE) Ed -> PED (ax X sc ns xs C s₂ H₂ fp XE) elt te) (ht : ∀ (C : Addr) (s₂ : Shared) (H₂ : Hp) (fp : List Addr) (XE : Value -> Shared -> Prop), bg (ax X sc ns xs C s₂ H₂ fp XE) Ed -> TsD (ax X sc ns xs C s₂ H₂ fp XE) ifs tc)
  (hx : ∀ D C : Addr, bg (ax X sc ns xs C s H fp (aR X sc ns RR D C)) Ed) (I : Inv X pins σ H s) (r : Rel X W H σ ρ) (hg : ∀ (C : Addr) (s₂ : Shared) (H₂ : Hp) (fp : List Addr) (XE : Value -> Shared -> Prop), PGD (ax X sc ns xs C s₂ H₂ fp XE) tg g) (T : Turn X.prog X.w X.K tg J fp it tn) (st : tn 0 s.heap) (hfp : ∀ b ∈ fp, bF X pins H b) (yd : YD X.K W H J ds) (hz : ds.length <= sizeLine)
  (Pv : Nat -> List D -> Prop) (p0 : Pv 0 []) (step : ∀ j d out ρ1, ds[j]? = some d -> Pv j out -> dS xs.length (js.map (aI ρ)) ρ1 -> g d ρ1 fun ρ2 => dS xs.length (js.map (aI ρ)) ρ2 /\ tc ρ2 fun b => if b = true then te ρ2 (fun e => Pv (j + 1) (out ++ [e])) else Pv (j + 1) out)
  (hRR : ∀ (D C : Addr) (s' : Shared) (H' : Hp) (m' : Str -> Option Value) (out : List PD.D), Inv X pins σ H' s' -> af H H' -> s'.heap.Ns C m' -> H' C = none -> C ≠ X.env.locals -> X.s₀.heap.objs.size <= C -> (∀ y c, X.env.cells.lookup y = some c -> c ≠ C) -> (∀ p ∈ X.pn ++ pins, p.1 ≠ C) →
   (H D = none /\ X.K.lookup D = none /\ ∃ vs, H' D = some (.lst vs) /\ ae X.K (fun t b => W.bad t b ∨ b = D) H' out vs) -> Pv ds.length out -> RR (.ref D) C (.ok .next) s') :
  wpAny (model X.prog X.w) X.A (newList []) (fun acc s₃ => wpAny (model X.prog X.w) X.A (newFunctionEnv sc X.env.globals (bJ X.env ns) [] X.env.qual none .none (some X.env)) (fun cenv s₄ =>
   codeAny (model X.prog X.w) X.A (.compStart (.ListComp elt [⟨tg, iter, ifs, 0⟩] sc pos) 0 (.ref it) acc { cenv with scope := relabel sc X.env }) (RR acc cenv.locals) s₄) E s₃) E s := by
 refine wpAny_newObj_type (wpAny_newFunctionEnv S.nocell (by intro y hy; simp at hy) (fun h₁ hns₁ hsb₁ => ?_) S.kind)
 dsimp only at hns₁ hsb₁ ⊢
 generalize hH2 : s.heap.push { cls := .type "list", dict := none, data := .seq ([] : List Value).toArray } = HP at hns₁ hsb₁ ⊢
 have hC : HP.objs.size = s.heap.objs.size + 1 := by rw [<- hH2, zAs]
 have hDC : s.heap.objs.size ≠ HP.objs.size := by rw [hC]; exact zAT (Nat.lt_succ_self _)
 have hCle : s.heap.objs.size <= HP.objs.size := by rw [hC]; exact Nat.le_succ _
 have below : ∀ b, b < s.heap.objs.size -> b ≠ HP.objs.size := fun b hb => by rw [hC]; exact zAT (Nat.lt_succ_of_lt hb)
 have old : ∀ b o, s.heap.get? b = some o -> h₁.get? b = some o := fun b o e => hsb₁.extBut b o (below b (zAC e)) (zAB _ (hH2 ▸ zAB _ e))
 have hacc : h₁.get? s.heap.objs.size = some { cls := .type "list", data := .seq ([] : List Value).toArray } := hsb₁.extBut _ _ hDC (zAB _ (hH2 ▸ zAJ _ rfl))
 generalize eD : s.heap.objs.size = D at hDC hacc
 generalize eC : HP.objs.size = C at *
 have hDf : H D = none := by rw [<- eD]; exact I.hok.fresh (zAH _)
 have hKD : X.K.lookup D = none := by rw [<- eD]; exact Inv.kfresh I
 have hCf : H C = none := I.hok.fresh hCle
 have hfo : ∀ b ∈ fp, ∃ o, s.heap.get? b = some o := fun b hb => let ⟨o, e, _⟩ := T.obj 0 s.heap st b hb; ⟨o, e⟩
 have leD : s.heap.objs.size <= D := Nat.le_of_eq eD
 have okk : HOk X.prog X.w (L2.upd H D (.lst [])) h₁ := I.hok.laid old leD ⟨zAZ _, [], 0, .nil, hacc⟩
 have upCD : ∀ o, L2.upd H D o C = none := fun o => by rw [aj (Ne.symm hDC)]; exact hCf
 have I1 : Inv (ax X sc ns xs C s H fp (aR X sc ns RR D C)) [] (List.replicate xs.length none ++ js.map (cb σ)) (L2.upd H D (.lst [])) { s with heap := h₁, toks := s.toks + ([] : List (Str × Value)).length } :=
  Inv.comp I S hj hfp hfo hCle rfl I.bare old hns₁ (upCD _) (af.upd hDf) (fun b o e n => by rw [aj (fun z => absurd (zAC e) (by rw [z]; exact zAi.mpr leD))]; exact n) okk
 have nl : ∀ {a : Addr} {ws : List V}, SqL X.K H a ws -> a ≠ D := fun {a ws} q z => by
  subst z
  rcases q with (q | ⟨o, q⟩) | ⟨o, its, n, q, _⟩
  ·rw [hDf] at q; cases q
  ·rw [hDf] at q; cases q
  ·rw [hKD] at q; cases q
 let W' : Own := ⟨fun a => W.bad false a ∨ a = D, fun _ => none, W.S⟩
 have bad' : ∀ t a, W'.bad t a ↔ (W.bad t a ∨ a = D) := fun t a => ⟨fun z => by
  rcases z with (z | z) | ⟨_, q⟩ | ⟨z1, z2⟩
  ·exact .inl (Own.bad_up z)
  ·exact .inr z
  ·cases q
  ·exact .inl (.inr (.inr ⟨z1, z2⟩)), fun z => by
  rcases z with z | z
  ·rcases z with z | z | z
   ·exact .inl (.inl (.inl z))
   ·exact .inl (.inl (.inr (.inl z)))
   ·exact .inr (.inr z)
  ·exact .inl (.inr z)⟩
 have hT : ∀ {H' : Hp}, af H H' -> ∀ a vs, SqT X.K H a vs -> SqT X.K H' a vs := fun sm a vs q => SqT.same sm q
 have hL : ∀ {H' : Hp}, af H H' -> ∀ t a vs, ¬ W.bad t a -> SqG X.K H t a vs -> ¬ W'.bad t a /\ SqG X.K H' t a vs := fun sm t a vs n q => ⟨fun z => ((bad' t a).mp z).elim n (nl q.1), q.same sm⟩
 have relC : Rel (ax X sc ns xs C s H fp (aR X sc ns RR D C)) W' (L2.upd H D (.lst [])) (List.replicate xs.length none ++ js.map (cb σ)) (List.replicate xs.length none ++ js.map (aI ρ)) := by
  have sm : af H (L2.upd H D (.lst [])) := af.upd hDf
  have at_ : ∀ {i : Nat} {z : Sl}, (List.replicate xs.length none ++ js.map (aI ρ))[i]? = some (some z) -> ¬ i < xs.length /\ (js.map (aI ρ))[i - xs.length]? = some (some z) := fun {i z} h => by
   by_cases hi : i < xs.length
   ·rw [zAV (by simpa using hi), zAj, if_pos hi] at h
    cases h
   ·rw [zAM (by simpa using hi)] at h
    exact ⟨hi, by simpa using h⟩
  refine ⟨fun i d h => ?_, fun i x h => ?_, fun i j a h _ => (by cases h), fun i a h => (by cases h), fun i a h => (by cases h), fun a h => ?_, fun a h => ?_, sm, r.tab.same sm⟩
  ·obtain ⟨hi, h'⟩ := at_ h
   rw [zAN] at h'
   cases e : js[i - xs.length]? with
   | none => rw [e] at h'; cases h'
   | some j =>
    rw [e] at h'
    have h4 : aI ρ j = some (.val d) := zAR h'
    have h5 : ρ[j]? = some (some (.val d)) := by
     unfold aI at h4
     split at h4
     ·rename_i u q
      cases h4
      exact q
     ·cases h4
    obtain ⟨v, e1, e2⟩ := r.val j d h5
    refine ⟨v, ?_, Den.map (hT sm) (hL sm) (fun a _ n q => sm.kp a _ q n.nt) d v e2⟩
    rw [zAM (by simpa using hi)]
    show (js.map (cb σ))[i - (List.replicate xs.length (none : Option V)).length]? = some (some v)
    rw [List.length_replicate, zAN, e]
    show some (cb σ j) = some (some v)
    unfold cb
    rw [e1]
  ·obtain ⟨hi, h'⟩ := at_ h
   rw [zAN] at h'
   cases e : js[i - xs.length]? with
   | none => rw [e] at h'; cases h'
   | some j =>
    rw [e] at h'
    have h4 : aI ρ j = some (.ob x) := zAR h'
    unfold aI at h4
    split at h4 <;> cases h4
  ·rcases h with h | h
   ·obtain ⟨o, q⟩ := r.tracked false a h
    exact sm.ex q
   ·rw [h]; exact ⟨_, aw⟩
  ·obtain ⟨o, q⟩ := r.st a h
   exact sm.ex q
 have statC : ∀ {H' : Hp}, (∀ b ∈ fp, H' b = none) -> ∀ b ∈ fp, bF (ax X sc ns xs C s H fp (aR X sc ns RR D C)) [] H' b := fun hn b hb => by
  obtain ⟨f0, f1, f2, f3, f4, f5⟩ := hfp b hb
  obtain ⟨o, ho⟩ := hfo b hb
  refine ⟨hn b hb, fun z => ?_, fun z => ?_, .inl hb, fun y c e z => f4 y c (dg e) z, fun p hp => absurd (show p ∈ ([] : List (Addr × Obj)) from hp) (by simp)⟩
  ·have z' : b = C := z
   have hlt := zAC ho
   rw [z'] at hlt
   exact absurd (zAG hlt hCle) (zAe _)
  ·rcases zAU.mp (I.stkSub b z) with e | e
   ·exact f1 e
   ·exact f2 e
 have hch : ∀ b ∈ fp, (b ∈ X.ex ∨ X.s₀.heap.objs.size <= b) /\ b ≠ X.env.locals /\ (∀ x c, X.env.cells.lookup x = some c -> c ≠ b) /\ ∀ p ∈ X.pn ++ pins, p.1 ≠ b := fun b hb => by
  obtain ⟨f0, f1, f2, f3, f4, f5⟩ := hfp b hb
  exact ⟨f3, f1, f4, f5⟩
 have loop : ∀ s₃ : Shared, s₃ = { s with heap := h₁, toks := s.toks + ([] : List (Str × Value)).length } →
   codeAny (model X.prog X.w) X.A (.compLoop (.ListComp elt [⟨tg, iter, ifs, 0⟩] sc pos) 0 (.ref it) (.ref D) (compEnvC sc (bJ X.env ns) C X.env)) (RR (.ref D) C) s₃ := by
  rintro s₃ rfl
  refine ij (fun n s' => ∃ (i : Nat) (W2 : Own) (σ2 : St) (ρ2 : Ro) (H' : Hp) (out : List PD.D) (vs : List V), n = ds.length - i /\ i <= ds.length /\ Inv (ax X sc ns xs C s H fp (aR X sc ns RR D C)) [] σ2 H' s' /\ tn i s'.heap /\ (∀ b ∈ fp, H' b = none) ∧
   H' D = some (.lst vs) /\ (W2.B = W'.B /\ W2.S = W'.S) /\ ae X.K W2.bad H' out vs /\ af H H' /\ Rel (ax X sc ns xs C s H fp (aR X sc ns RR D C)) W2 H' σ2 ρ2 /\ dS xs.length (js.map (aI ρ)) ρ2 /\ Pv i out /\ out.length <= i) ?_ ds.length
   ⟨0, W', _, _, _, [], [], by simp, zAZ _, I1, T.keep 0 s.heap h₁ st (fun b hb o e => old b o e), fun b hb => ?_, aw, ⟨rfl, rfl⟩, ae.nil, af.upd hDf, relC, ⟨_, by simp, rfl⟩, p0, zAH _⟩
  rotate_left
  ·obtain ⟨o, ho⟩ := hfo b hb
   rw [aj (fun z => absurd (zAC ho) (by rw [z]; exact zAi.mpr leD))]
   exact (hfp b hb).1
  rintro n s3 ⟨i, W2, σ2, ρ2, H3, out, vs, en, hle, I3, st3, fr3, hD3, hW2, hds3, sm3, rl3, cap3, p3, ol⟩
  have nb2 : ∀ {W3 : Own} {H' : Hp} {σ3 : St} {ρ3 : Ro}, (W3.B = W'.B /\ W3.S = W'.S) -> Rel (ax X sc ns xs C s H fp (aR X sc ns RR D C)) W3 H' σ3 ρ3 -> af H H' -> ∀ t a vs, ¬ W.bad t a -> SqG X.K H t a vs -> ¬ W3.bad t a /\ SqG X.K H' t a vs := fun {W3 H' σ3 ρ3} hw rl sm t a vs n q => by
   refine ⟨fun z => ?_, q.same sm⟩
   rcases z with z | ⟨k, z⟩ | ⟨z1, z2⟩
   ·rw [hw.1] at z
    exact (hL sm t a vs n q).1 (.inl z)
   ·have h0 : H a = none := rl.ke k a z
    rcases q.1 with (q1 | ⟨o, q1⟩) | ⟨o, its, m, q1, _⟩
    ·rw [h0] at q1; cases q1
    ·rw [h0] at q1; cases q1
    ·have kk : X.K.lookup a = none := (rl.kn k a z).1
     rw [kk] at q1; cases q1
   ·rw [hw.2] at z2
    exact (hL sm t a vs n q).1 (.inr (.inr ⟨z1, z2⟩))
  obtain ⟨yg, yy, ys⟩ := yd W2.bad H3 (hT sm3) (nb2 hW2 rl3 sm3) (fun a _ n q => sm3.kp a _ q n.nt) i
  by_cases hlt : i < ds.length
  ·refine thn (T.item (ax X sc ns xs C s H fp (aR X sc ns RR D C)) rfl rfl rfl hc i [] s3 _ H3 _ I3 (statC fr3) st3 (yg hlt)) fun rr s4 ⟨u, hr, h4⟩ => ?_
   subst hr
   refine thn h4 fun _ s5 ⟨x5, H5, I5, r5, y5, st5, fr5⟩ => ?_
   obtain ⟨e5, d, hd, hden⟩ := yy x5 H5 y5 hlt
   have I5' := I5.pinned (statC fr5) (T.obj _ _ st5)
   have rl5 := rl3.same e5
   have sm5 : af H H5 := sm3.trans e5
   refine wpAny_mono (hg C s H fp _ _ s5 σ2 H5 W2 ρ2 d x5 u _ I5' rl5 r5 hden (step i d out ρ2 hd p3 cap3)) (fun _ s6 ⟨W6, σ6, H6, ρ6, I6, f6, rl6, cap6, q6⟩ => ?_) (fun _ _ z => z)
   have hW6 : W6.B = W'.B /\ W6.S = W'.S := ⟨f6.B.trans hW2.1, f6.S.trans hW2.2⟩
   have sm6 : af H H6 := ⟨fun b o e n => f6.kp b o (fun k z => by have h0 : H b = none := rl5.ke k b z; rw [e] at h0; cases h0) (sm5.kp b o e n) n, (fun b ps e => by obtain ⟨m1, e1⟩ := sm5.tb b ps e; obtain ⟨m2, e2⟩ := f6.tb b _ e1; exact ⟨m1 ++ m2, by rw [e2, zAp]⟩), fun h => f6.ok (sm5.ok h)⟩
   have BD : W'.B D := .inr rfl
   have hD6 : H6 D = some (.lst vs) := f6.keep D _ (fun k z => (rl5.kn k D z).2.1.1 (by rw [hW2.1]; exact BD)) (e5 _ _ hD3)
   have hds6 := ae.fwd rl5 rl6 f6 (hds3.same e5)
   have keepT : ∀ {σ7 : St} {H7 : Hp} {s7 : Shared}, Inv (ax X sc ns xs C s H fp (aR X sc ns RR D C)) ([] ++ eJ fp s5.heap) σ7 H7 s7 -> tn (i + 1) s7.heap /\ ∀ b ∈ fp, H7 b = none := fun {σ7 H7 s7} I7 => by
    refine ⟨T.keep _ _ _ st5 fun b hb o e => (I7.pin (b, o) (zAI _ (zAI _ (bu hb e)))).1, fun b hb => ?_⟩
    obtain ⟨o, e, _⟩ := T.obj _ _ st5 b hb
    exact (I7.pin (b, o) (zAI _ (zAI _ (bu hb e)))).2.1
   refine wpAny_mono (ht C s H fp _ (hx D C) _ s6 _ H6 W6 _ _ I6 rl6 q6) (fun b s7 ⟨H7, I7, e7, q7⟩ => ?_) (fun _ _ z => z)
   cases b with
   | false =>
    rw [if_neg zAL] at q7
    rw [if_neg zAL]
    obtain ⟨t7, f7⟩ := keepT I7
    exact ⟨ds.length - (i + 1), by omega, i + 1, W6, σ6, ρ6, H7, out, vs, rfl, hlt, I7.unpinned, t7, f7, e7 _ _ hD6, hW6, hds6.same e7, sm6.trans e7, rl6.same e7, cap6, q7, by omega⟩
   | true =>
    rw [if_pos rfl] at q7
    rw [if_pos rfl]
    refine wpAny_mono (he C s H fp _ (hx D C) _ s7 _ H7 W6 _ _ I7 (rl6.same e7) q7) (fun u8 s8 ⟨v8, H8, e8, I8, r8, sm8, hd8, q8⟩ => ?_) (fun _ _ z => z)
    have sm78 := e7.trans sm8
    have hD8 := sm78 _ _ hD6
    have hds8 := hds6.same sm78
    have rl8 := (rl6.same e7).same sm8
    have BD6 : W6.B D := by rw [hW6.1]; exact BD
    refine wpAny_mono (dJ (X := ax X sc ns xs C s H fp (aR X sc ns RR D C)) _ s8 _ H8 (.ref D) [v8] (.ref D) [u8] (fun _ H' => H' = L2.upd H8 D (.lst (vs ++ [v8]))) I8 rfl (.cons r8 .nil) ⟨D, vs, v8, rfl, rfl, hD8, by rw [hds8.len]; omega, rfl⟩) (fun _ s9 ⟨v9, H9, I9, _, eH⟩ => ?_) (fun _ _ z => z)
    subst eH
    obtain ⟨t9, f9⟩ := keepT I9
    obtain ⟨rl9, dn9⟩ := rl8.mutB (vs' := vs ++ [v8]) BD6 hD8 hDf
    exact ⟨ds.length - (i + 1), by omega, i + 1, W6, σ6, ρ6, _, out ++ [e8], vs ++ [v8], rfl, hlt, I9.unpinned, t9, f9, aw, hW6, dn9 _ _ (hds8.append (ae.one hd8)), (sm6.trans sm78).ins hDf hD8 True.intro True.intro, rl9, cap6, q8, by rw [zAQ, zA6]; omega⟩
  ·have e : i = ds.length := by omega
   refine thn (T.done (ax X sc ns xs C s H fp (aR X sc ns RR D C)) rfl rfl rfl hc i [] s3 _ H3 _ I3 (statC fr3) st3 (ys (by omega))) fun rr s4 ⟨hr, I4⟩ => ?_
   subst hr
   subst e
   have Io : Inv X pins σ H3 s4 := I.call' I4.os I4.base I4.hok I4.bare hch
   obtain ⟨m, hm, _⟩ := I4.loc
   exact hRR D C s4 H3 m out Io sm3 hm I4.free (fun z => absurd I.lt (by rw [<- z]; exact zAi.mpr hCle)) (zAa I.sz hCle) (fun y c e z => by
    obtain ⟨v, q⟩ := I.cell y c e
    exact absurd q.lt (by rw [z]; exact zAi.mpr hCle)) (fun p hp z => absurd (zAC (I.pin p hp).1) (by rw [z]; exact zAi.mpr hCle))
    ⟨hDf, hKD, _, hD3, hds3.fewer fun t a z => (by
     rcases (bad' t a).mpr z with q | ⟨k, q⟩ | q
     ·exact .inl (by rw [hW2.1]; exact q)
     ·cases q
     ·exact .inr (.inr ⟨q.1, by rw [hW2.2]; exact q.2⟩))⟩ p3
 exact codeAny_compStart_list (loop _ rfl) (T.self _ 0 _ _ _ (T.keep 0 s.heap h₁ st (fun b hb o e => old b o e)) (loop _ rfl))
theorem gg {X : Cx} {sc : Scope} {ns : List Str} {x : Str} {px : Pos} {C : Addr} {s₂ : Shared} {H₂ : Hp} {fp : List Addr} {XE : Value -> Shared -> Prop} (S : CSc X.env.scope sc [x] ns) : PGD (ax X sc ns [x] C s₂ H₂ fp XE) (.Name x px) (eF 0) :=
 have tl : (compEnvC sc (bJ X.env ns) C X.env).scope.names.lookup x = some .local := lookup_relabel_local (S.tgt x (by simp))
 bI (X := ax X sc ns [x] C s₂ H₂ fp XE) 0 S.nd rfl (.inl tl) (.inr tl)
theorem qo {ds : List D} {Pv : Nat -> List D -> Prop} {tc : DT} {te : DE} {cap : Ro} (step : ∀ j d out, ds[j]? = some d -> Pv j out -> tc (some (.val d) :: cap) fun b => if b = true then te (some (.val d) :: cap) (fun e => Pv (j + 1) (out ++ [e])) else Pv (j + 1) out) :
  ∀ j d out ρ1, ds[j]? = some d -> Pv j out -> dS 1 cap ρ1 -> eF 0 d ρ1 fun ρ2 => dS 1 cap ρ2 /\ tc ρ2 fun b => if b = true then te ρ2 (fun e => Pv (j + 1) (out ++ [e])) else Pv (j + 1) out := by
 rintro j d out ρ1 hd hp ⟨r0, hl, rfl⟩
 match r0, hl with
 | [a], _ => exact ⟨⟨[some (.val d)], rfl, rfl⟩, step j d out hd hp⟩
def iP (wi : DA) (js : List Nat) (tc : DT) (te : DE) : DE := fun ρ Q => wi ρ fun ds => ds.length <= sizeLine /\ ∃ Pv : Nat -> List D -> Prop, Pv 0 [] ∧
 (∀ j d out, ds[j]? = some d -> Pv j out -> tc (some (.val d) :: js.map (aI ρ)) fun b => if b = true then te (some (.val d) :: js.map (aI ρ)) (fun e => Pv (j + 1) (out ++ [e])) else Pv (j + 1) out) /\ ∀ out, Pv ds.length out -> Q (.lst true out)
def cU (N : List Str) (ns : List Str) (js : List Nat) : Prop := js.length = ns.length /\ ∀ (i : Nat) (j : Nat) (n : Str), js[i]? = some j -> ns[i]? = some n -> N[j]? = some n
theorem cU.nil {N : List Str} : cU N [] [] := ⟨rfl, fun i j n h => by simp at h⟩
theorem cU.cons {N ns : List Str} {js : List Nat} {n : Str} (j : Nat) (h : cU N ns js) (e : N[j]? = some n := by rfl) : cU N (n :: ns) (j :: js) := ⟨by simp [h.1], fun i j' m h1 h2 => by
 cases i with
 | zero => simp at h1 h2; subst h1 h2; exact e
 | succ i => exact h.2 i j' m (by simpa using h1) (by simpa using h2)⟩
variable {elt iter : Expr} {ifs : List Expr} {px pos : Pos} {te : DE} {tc : DT} {wi : DA} {x : Str}
theorem gy {y : Str} {py spos : Pos} (i : Nat) (hN : X.N.Nodup) (hc : X.calm = true) (S : CSc X.env.scope sc [x] ns) (hj : cU X.N ns js) (hi : PID X (.Name x px) iter wi) (ht : ∀ (C : Addr) (s₂ : Shared) (H₂ : Hp) (fp : List Addr) (XE : Value -> Shared -> Prop), TsD (ax X sc ns [x] C s₂ H₂ fp XE) ifs tc)
  (he : ∀ (C : Addr) (s₂ : Shared) (H₂ : Hp) (fp : List Addr) (XE : Value -> Shared -> Prop), PED (ax X sc ns [x] C s₂ H₂ fp XE) elt te) (hy : X.N[i]? = some y := by rfl) (hly : X.env.scope.names.lookup y = some .local := by rfl) (hclos : closureFor sc X.env = pure (bJ X.env ns) := by rfl) (hs : ∀ x, foldedSetIterable iter X.env x = pure x := by intro _; rfl)
  (hsw : swapsWith (.ListComp elt [⟨.Name x px, iter, ifs, 0⟩] sc pos) (some (.Name y py)) spos.line X.env = pure true := by rfl) :
  PSD X (.Assign [.Name y py] (.ListComp elt [⟨.Name x px, iter, ifs, 0⟩] sc pos) spos) (lT i (iP wi js tc te)) := by
 intro pins s σ H W ρ E I r h
 rw [exec_Assign_Name_used _ _ _ _ hsw]
 refine wpAny_bind (wpAny_standAt (wpAny_bind ?_))
 show wpAny _ X.A (do let _ ← comprehension (.ListComp elt [⟨.Name x px, iter, ifs, 0⟩] sc pos) sc X.env _ (newList []) false (eval iter X.env) (some (assign (.Name y py) X.env))) _ _ s
 refine wpAny_bind (wpAny_mono (wpAny_comprehension_free (use := some (assign (.Name y py) X.env)) (Q := fun _ s' => SPD X pins W H E .next s') rfl hs hclos S.kind S.names
  (thn (hi pins s σ H W ρ _ I r h) fun v s1 h1 => thn h1 fun itv s2 h2 => ?_)) (fun _ s' hq => wpAny_pure (wpAny_pure hq)) fun _ _ e => e)
 obtain ⟨it, fp, tn, J, H2, ds, e, I2, e2, T, st2, f2, yd, hz, Pv, p0, step, fin⟩ := h2
 subst e
 refine gw (RR := fun acc C => compPost (model X.prog X.w) X.A X.xe (some (assign (.Name y py) X.env)) (fun _ s' => SPD X pins W H E .next s') acc C) hc S hj (Ed := fun _ => False) (fun C s₂ H₂ fp XE _ => he C s₂ H₂ fp XE) (fun C s₂ H₂ fp XE _ => ht C s₂ H₂ fp XE) (fun _ _ => bg.no) I2 (r.same e2) (fun C s₂ H₂ fp XE => gg S) T st2 f2 yd hz Pv p0 (qo step) ?_
 intro D C s' H' m' out I' sm hns hCn hC1 hC2 hC3 hC4 ⟨hn, hk, vs, hD, hds⟩ pv
 have hden : Den X.K W.bad H' (.lst true out) (.ref D) := Den.lst ((r.same e2).fresh hn) (.new hD hk) (hds.fewer fun _ _ z => .inl z)
 have rr := (r.same e2).same sm
 show wpAny _ X.A (assign (.Name y py) X.env (.ref D)) _ _ _
 refine wpAny_assign_Name (fJ (v := .ref D) I' hN hy (.inl hly) rfl (fun s3 I3 ⟨a, hsb, ha⟩ => ?_) (.inr hly))
 have hne : C ≠ a := by
  rcases ha with z | z
  ·rw [z]; exact hC1
  ·exact fun q => hC3 y a z q.symm
 refine ⟨m', hns.sameBut hsb hne, fun h' hsb' => ?_⟩
 refine ⟨W.drop i, _, H', I3.turned (t' := s3.toks) (fun b o hb e => (hsb'.2 b hb).trans e) hCn hC1 (.inr hC2) hC3 hC4, (Fwd.same (e2.trans sm)).trans (Fwd.drop W H' i), _, rr.put (Inv.ilt I' hy) hden, fin out pv⟩
end
section
theorem jz {g : Heap} {C b : Addr} {o : Obj} (e : (PySem.W.hideAll g [C]).get? b = some o) : b ≠ C := fun z => by
 rw [PySem.W.hideAll_none [C] (by simp [z])] at e
 cases e
theorem Fl.hide {P : Program} {w : World} {l : List Env} {h₀ : Heap} {H₀ H : Hp} {B h h' : Heap} {C : Addr} (F : Fl P w l h₀ H₀ H B h) (hC : C ∉ frs l) (n1 : H C = none) (hs : Heap.SameBut C h h') : Fl P w l (PySem.W.hideAll h₀ [C]) H₀ H (PySem.W.hideAll B [C]) h' := by
 have un := F.un
 refine ⟨⟨fun b o e n hb hx => (hs.2 b (jz e)).trans (un.keep b o (PySem.W.of_hideAll [C] e) n hb hx), fun b o e n hb hx => ?_, fun b o e n hx => un.free b o (PySem.W.of_hideAll [C] e) n hx, fun b o e hx => ?_, un.tups, un.frzs, un.tbls⟩, PD.HOk.keptT F.hok (fun b u hu e => ?_), fun b hb => ?_, fun b o e z n => ?_⟩
 ·obtain ⟨sl, q⟩ := un.slot b o (PySem.W.of_hideAll [C] e) n hb hx
  exact ⟨sl, (hs.2 b (jz e)).trans q⟩
 ·obtain ⟨o', q⟩ := un.there b o (PySem.W.of_hideAll [C] e) hx
  exact ⟨o', (hs.2 b (jz e)).trans q⟩
 ·refine (hs.2 b fun z => ?_).trans e
  obtain ⟨o, q⟩ := hu
  rw [z, n1] at q
  cases q
 ·obtain ⟨n, o, e, d⟩ := F.fr b hb
  exact ⟨n, o, PySem.W.hideAll_get [C] e (fun z => hC (by simp at z; rw [<- z]; exact hb)), d⟩
 ·have hne : b ≠ C := by
   rcases z with ⟨u, z⟩ | ⟨o', z⟩
   ·intro q
    rw [q, n1] at z
    cases z
   ·exact jz z
  refine PySem.W.hideAll_get [C] (F.cov b o ((hs.2 b hne).symm.trans e) ?_ n) (by simpa using hne)
  rcases z with z | ⟨o', z⟩
  ·exact .inl z
  ·exact .inr ⟨o', PySem.W.of_hideAll [C] z⟩
theorem kI {B h h' : Heap} {C : Addr} (hs : Heap.SameBut C h h') : ∀ {l : List Env}, (∀ env ∈ l, env.frame ≠ some C) -> h.FunFrames B l -> h'.FunFrames (PySem.W.hideAll B [C]) l
 | [], _, _ => trivial
 | env :: r, hn, ⟨hk, ⟨L, o, hf, hb, ho, hd⟩, hr⟩ => ⟨hk, ⟨L, o, hf, (by
   cases q : (PySem.W.hideAll B [C]).get? L with
   | none => rfl
   | some o' =>
    have := PySem.W.of_hideAll [C] q
    rw [hb] at this
    cases this), (hs.2 L fun z => hn env zAf (by rw [hf, z])).trans ho, hd⟩, kI hs (fun e he => hn e (zAb _ he)) hr⟩
theorem cC.hide {B h h' : Heap} {l : List Env} {e C : Addr} {cls a0 : Value} {oC : Obj} (R : cC B l e cls a0 h) (hn : ∀ env ∈ l, env.frame ≠ some C) (he : e ≠ C) (hB : B.get? C = some oC) (hs : Heap.SameBut C h h') : cC (PySem.W.hideAll B [C]) l e cls a0 h' := by
 have no : ∀ b, B.get? b = none -> (PySem.W.hideAll B [C]).get? b = none := fun b q => by
  cases z : (PySem.W.hideAll B [C]).get? b with
  | none => rfl
  | some o' =>
   have := PySem.W.of_hideAll [C] z
   rw [q] at this
   cases this
 obtain ⟨k1, k2, k3, fl, oe, vs, T, oT, ts, g1, g2, g3, g4, g5, g6, g7, g8, g9⟩ := R
 have hT : T ≠ C := fun z => by
  rw [z, hB] at g5
  cases g5
 exact ⟨fun b o q => (hs.2 b (jz q)).trans (k1 b o (PySem.W.of_hideAll [C] q)), no e k2, kI hs hn k3, fl, oe, vs, T, oT, ts, (hs.2 e he).trans g1, g2, g3, g4, no T g5, g6, (hs.2 T hT).trans g7, g8, g9⟩
variable {X : Cx} {pins : List (Addr × Obj)} {σ : St} {H : Hp} {s : Shared} {sc : Scope} {ns : List Str} {js : List Nat} {xs : List Str} {fp : List Addr}
theorem mx {W : Own} {ρ : Ro} {Ed : Value -> Prop} {use : Option (Value -> Sem Unit)} {Q : Value -> Shared -> Prop} (hX : eO X Ed) (hst : X.stack = X.env :: X.outer) (hef : X.env.frame = some X.env.locals) (I : Inv X pins σ H s) (r : Rel X W H σ ρ) (hfp : ∀ b ∈ fp, bF X pins H b) (D C : Addr) :
  bg (ax X sc ns xs C s H fp (aR X sc ns (fun acc C => compPost (model X.prog X.w) X.A X.xe use Q acc C) D C)) Ed := by
 intro pins' σ' H' W' ρ' s1 e s' I' r' hcx
 obtain ⟨ea, c, H2, B, a0, rfl, os, bare, F, sm, hn, hn0, fl, hd⟩ := hcx
 have le : s.heap.objs.size <= C := I'.ok.above
 have hCf : C ∉ frs X.stack := fun z => by
  rcases zAU.mp (I.stkSub C z) with q | q
  ·exact absurd I.lt (by rw [<- q]; exact zAi.mpr le)
  ·exact I.nofs le q
 have hCl : C ≠ X.env.locals := fun q => absurd I.lt (by rw [<- q]; exact zAi.mpr le)
 have Io : Inv X pins σ H' s1 := I.call' I'.os I'.base I'.hok I'.bare fun b hb => by
  obtain ⟨f0, f1, f2, f3, f4, f5⟩ := hfp b hb
  exact ⟨f3, f1, f4, f5⟩
 have nC : H' C = none := I'.free
 obtain ⟨m, hm, _⟩ := I'.loc
 obtain ⟨oC, es, ep, ho, hrest⟩ := hm
 have kC : s'.heap.get? C = some oC := F.un.keep C oC ho nC hCf (by intro z; cases z)
 have BC : B.get? C = some oC := F.cov C oC kC (.inr ⟨oC, ho⟩) hCf
 have n2 : H2 C = none := F.un.free C oC ho nC (by intro z; cases z)
 have hea : ea ≠ C := fun z => by
  rw [z] at hn0
  rw [show s1.heap.get? C = some oC from ho] at hn0
  cases hn0
 have hfr : ∀ env ∈ X.stack, env.frame ≠ some C := fun env he q => hCf (zBD.mpr ⟨env, he, q⟩)
 have R0 : cC B (X.env :: X.outer) ea (.ref c) a0 s'.heap := by
  have fl' : Heap.FlyingW B X.stack ea (.ref c) a0 s'.heap := fl
  rw [hst] at fl'
  exact ⟨fl'.1, fl'.2.1, fl'.2.2.1, .none, fl'.2.2.2⟩
 show wpAny (model X.prog X.w) X.A (noteFrame (.ref ea) X.env) _ _ s'
 refine kU (outer := X.outer) (by rw [I.ok.frames, hst]) hef R0 fun h1 R1 sl1 => ?_
 have R1' : cC B X.stack ea (.ref c) a0 h1 := by rw [hst]; exact R1
 have F1 := Fl.step F R1.1 sl1
 refine ⟨m, sl1.ns ⟨oC, es, ep, kC, hrest⟩, fun h' hsb cenv _ => ?_⟩
 have F2 := Fl.hide F1 hCf n2 hsb
 refine qQ (R1'.hide hfr hea BC hsb) fun h3 R3 sl3 => ?_
 have F3 := Fl.step F2 R3.1 sl3
 refine hX pins σ H' W ρ { s1 with heap := PySem.W.hideAll s1.heap [C] } _ ea c H2 (PySem.W.hideAll B [C]) a0 (Io.turned (t' := s1.toks) (it := C) (fun b o hb q => PySem.W.hideAll_get [C] q (by simpa using hb)) nC hCl (.inr (zAa I.sz le)) (fun y c e z => ?_) (fun p hp z => ?_)) (r.same r'.ent) os bare F3 sm hn ?_ R3 hd
 ·obtain ⟨v, q⟩ := I.cell y c e
  exact absurd q.lt (by rw [z]; exact zAi.mpr le)
 ·exact absurd (zAC (I.pin p hp).1) (by rw [z]; exact zAi.mpr le)
 ·cases q : (PySem.W.hideAll s1.heap [C]).get? ea with
  | none => rfl
  | some o =>
   have := PySem.W.of_hideAll [C] q
   rw [hn0] at this
   cases this
variable {elt iter : Expr} {ifs : List Expr} {px pos : Pos} {te : DE} {tc : DT} {wi : DA} {x : Str}
theorem oY {Ed : Value -> Prop} (hX : eO X Ed) (hc : X.calm = true) (S : CSc X.env.scope sc [x] ns) (hj : cU X.N ns js) (hi : PID X (.Name x px) iter wi) (ht : ∀ (C : Addr) (s₂ : Shared) (H₂ : Hp) (fp : List Addr) (XE : Value -> Shared -> Prop), bg (ax X sc ns [x] C s₂ H₂ fp XE) Ed -> TsD (ax X sc ns [x] C s₂ H₂ fp XE) ifs tc)
  (he : ∀ (C : Addr) (s₂ : Shared) (H₂ : Hp) (fp : List Addr) (XE : Value -> Shared -> Prop), bg (ax X sc ns [x] C s₂ H₂ fp XE) Ed -> PED (ax X sc ns [x] C s₂ H₂ fp XE) elt te) (hst : X.stack = X.env :: X.outer := by rfl) (hef : X.env.frame = some X.env.locals := by rfl) (hclos : closureFor sc X.env = pure (bJ X.env ns) := by rfl) (hs : ∀ x, foldedSetIterable iter X.env x = pure x := by intro _; rfl) :
  PED X (.ListComp elt [⟨.Name x px, iter, ifs, 0⟩] sc pos) (iP wi js tc te) := by
 intro pins s σ H W ρ Q I r h
 rw [eval_ListComp]
 refine wpAny_comprehension_free (use := none) rfl hs hclos S.kind S.names (thn (hi pins s σ H W ρ _ I r h) fun v s1 h1 => thn h1 fun itv s2 h2 => ?_)
 obtain ⟨it, fp, tn, J, H2, ds, e, I2, e2, T, st2, f2, yd, hz, Pv, p0, step, fin⟩ := h2
 subst e
 refine gw (RR := fun acc C => compPost (model X.prog X.w) X.A X.xe none (DP X pins σ W H Q) acc C) hc S hj he ht (mx hX hst hef I2 (r.same e2) f2) I2 (r.same e2) (fun C s₂ H₂ fp XE => gg S) T st2 f2 yd hz Pv p0 (qo step) ?_
 intro D C s' H' m' out I' sm hns hCn hC1 hC2 hC3 hC4 ⟨hn, hk, vs, hD, hds⟩ pv
 have hden : Den X.K W.bad H' (.lst true out) (.ref D) := Den.lst ((r.same e2).fresh hn) (.new hD hk) (hds.fewer fun _ _ z => .inl z)
 refine ⟨m', hns, fun h' hsb => ?_⟩
 exact ⟨.ref D, H', _, I'.turned (t' := s'.toks) (fun b o hb e => (hsb.2 b hb).trans e) hCn hC1 (.inr hC2) hC3 hC4, rfl, e2.trans sm, hden, fin out pv⟩
end
def rm (osc sc : Scope) (xs ns : List Str) : Bool :=
 decide (sc.kind = .function) && (sc.names.all fun y => decide (y.2 ≠ .cell)) && (sc.names.all fun y => decide (y.2 = .local -> sc.names.lookup y.1 = some .local)) && (xs.all fun x => decide (sc.names.lookup x = some .local)) &&
 (sc.names.all fun y => decide (y.2 = .free -> y.1 ∈ ns /\ osc.names.lookup y.1 = some .cell)) && (ns.all fun n => decide (sc.names.lookup n = some .free /\ osc.names.lookup n = some .cell)) && decide (xs ++ ns).Nodup
theorem fN {osc sc : Scope} {xs ns : List Str} (h : rm osc sc xs ns = true) : CSc osc sc xs ns := by
 unfold rm at h
 simp only [zAW] at h
 obtain ⟨⟨⟨⟨⟨⟨h1, h2⟩, h3⟩, h4⟩, h5⟩, h6⟩, h7⟩ := h
 exact ⟨of_decide_eq_true h1, fun y hy => of_decide_eq_true (zAt.mp h2 y hy), fun y hy => of_decide_eq_true (zAt.mp h3 y hy), fun x hx => of_decide_eq_true (zAt.mp h4 x hx), fun y hy => of_decide_eq_true (zAt.mp h5 y hy), fun n hn => of_decide_eq_true (zAt.mp h6 n hn), of_decide_eq_true h7⟩
end PD
namespace PD
open PySem PySem.Spec PyProof.Rows L2
inductive Nms : List Expr -> List Str -> Prop where
 | nil : Nms [] []
 | cons {x : Str} {p : Pos} {es : List Expr} {xs : List Str} (h : Nms es xs) : Nms (.Name x p :: es) (x :: xs)
section
variable {X : Cx} {sc : Scope} {ns xs : List Str} {js : List Nat}
theorem Nms.len {env : Env} : ∀ {es : List Expr} {ys : List Str}, Nms es ys -> (assignEach es env).length = ys.length /\ (assignEach es env).findIdx? (·.1) = none
 | _, _, .nil => ⟨rfl, rfl⟩
 | _, _, .cons (x := x) (p := p) (es := es) h => by
  obtain ⟨h1, h2⟩ := Nms.len (env := env) h
  have e : assignEach (.Name x p :: es) env = (false, assign (.Name x p) env) :: assignEach es env := rfl
  rw [e]
  refine ⟨by rw [zAu, h1]; rfl, ?_⟩
  rw [List.findIdx?_cons, h2]
  rfl
variable {elt iter : Expr} {ifs es : List Expr} {kt : Nat} {tp pos : Pos} {te : DE} {tc : DT} {wi : DA}
end
end PD
namespace PD
open PySem PySem.Spec PyProof.Rows L2
theorem nA (k : Bool) (R : Int -> Prop) (S : Bool -> Prop) : ((∃ i : Int, [D.bl k] = [.int i] /\ R i) ∨ ∃ j : Bool, [D.bl k] = [.bl j] /\ S j) = S k := by
 apply propext
 constructor
 ·rintro (⟨_, e, _⟩ | ⟨_, e, q⟩)
  ·cases e
  ·cases e; exact q
 ·intro q; exact .inr ⟨k, rfl, q⟩
theorem sd (b : Bool) : okD (.bl b) := by unfold okD; rw [pyD, plD] <;> first | exact ⟨rfl, rfl⟩ | (intros; contradiction)
theorem jB (i : Int) : okD (.int i) = True := eq_true (kX i)
theorem kW (b : Bool) : okD (.bl b) = True := eq_true (sd b)
theorem jC : okD .non = True := eq_true kY
theorem kZ (a b c : Int) : okD (.tup [.int a, .int b, .int c]) = True := eq_true (se a b c)
theorem gW (i j : Int) : eqD (.int i) (.int j) = decide (i = j) := by
 unfold eqD
 rw [pyD, pyD]
 rfl
theorem ji (i j : Bool) : eqD (.bl i) (.bl j) = decide (i = j) := by
 unfold eqD
 rw [pyD, pyD]
 cases i <;> cases j <;> rfl
theorem nE (t : Bool) (xs : List D) (R : List D -> Prop) : (∃ t' ds, D.lst t xs = .lst t' ds /\ R ds) = R xs := by
 apply propext
 constructor
 ·rintro ⟨_, _, e, q⟩; cases e; exact q
 ·intro q; exact ⟨t, xs, rfl, q⟩
theorem kG (ds : List D) (r : Ro) (R : List D -> Prop) : (∃ ds', (some (Sl.own ds) :: r)[0]? = some (some (Sl.own ds')) /\ R ds') = R ds := by
 apply propext
 constructor
 ·rintro ⟨_, e, q⟩
  have e' : some (some (Sl.own ds)) = some (some (Sl.own _)) := e
  cases e'
  exact q
 ·intro q; exact ⟨ds, rfl, q⟩
theorem kH (n : Nat) (x : Option Sl) (r : Ro) (R : List D -> Prop) : (∃ ds', (x :: r)[n + 1]? = some (some (Sl.own ds')) /\ R ds') = (∃ ds', r[n]? = some (some (Sl.own ds')) /\ R ds') := rfl
theorem m7 (d : D) (r : Ro) : aI (some (.val d) :: r) 0 = some (.val d) := rfl
theorem m9 (r : Ro) : aI (none :: r) 0 = none := rfl
theorem m8 (n : Nat) (x : Option Sl) (r : Ro) : aI (x :: r) (n + 1) = aI r n := rfl
end PD
namespace PD
open PySem PySem.Spec PyProof.Rows L2
def sg (n : Int) : Int := if 0 < n then 1 else if n < 0 then -1 else 0
def rk (a0 a1 a2 b0 b1 b2 : Int) : Int := if sg (a1 * b0 - b1 * a0) = 0 then sg (a2 * b0 - b2 * a0) else sg (a1 * b0 - b1 * a0)
structure Pl (n : Nat) (a b c : Int) : Prop where
 pos : 0 < a
 low : PM.g3 a b c = 1
 b0 : Bd n a
 b1 : Bd n b
 b2 : Bd n c
theorem Pl.mono {m n : Nat} {a b c : Int} (h : Pl m a b c) (l : m <= n) : Pl n a b c := ⟨h.pos, h.low, h.b0.mono l, h.b1.mono l, h.b2.mono l⟩
structure uj (d : D) (b x y : Int) : Prop where
 ex : ∃ p q r, d = T3 p q r /\ Bd 4000 p /\ Bd 4000 q /\ Bd 4000 r /\ 0 < p /\ p * x = b * q /\ p * y = b * r /\ PM.g3 p q r = 1
end PD
namespace PZ
open PySem PySem.Spec PyProof.Rows
def SIt : Bool -> Heap -> Addr -> Addr -> Nat -> Prop
 | true, h, it, a, i => h.IsListIter it a i
 | false, h, it, a, i => h.IsTupleIter it a i
def SSq : Bool -> Heap -> Addr -> Array Value -> Prop
 | true, h, a, xs => h.IsList a xs
 | false, h, a, xs => h.IsTuple a xs
def cQ : Bool -> String
 | true => "list_iterator"
 | false => "tuple_iterator"
section
variable {k : Bool} {h h' : Heap} {it a b : Addr} {i : Nat} {xs : Array Value}
theorem SIt.of (x : SIt k h it a i) (e : ∀ o, h.get? it = some o -> h'.get? it = some o) : SIt k h' it a i := by
 cases k with
 | true => obtain ⟨o, ho, r⟩ := x; exact ⟨o, e o ho, r⟩
 | false => obtain ⟨o, ho, r⟩ := x; exact ⟨o, e o ho, r⟩
theorem SSq.of (x : SSq k h a xs) (e : ∀ o, h.get? a = some o -> h'.get? a = some o) : SSq k h' a xs := by
 cases k with
 | true => obtain ⟨o, ho, r⟩ := x; exact ⟨o, e o ho, r⟩
 | false => obtain ⟨o, ho, r⟩ := x; exact ⟨o, e o ho, r⟩
theorem SIt.obj (x : SIt k h it a i) : ∃ o, h.get? it = some o /\ o.cls = .type (cQ k) /\ o.data = .fields #[.ref a, .int i 0] := by
 cases k with
 | true => exact x
 | false => exact x
theorem SSq.obj (x : SSq k h a xs) : ∃ o n, h.get? a = some o /\ o.data = .seq xs n := by
 cases k with
 | true => obtain ⟨o, ho, _, n, r⟩ := x; exact ⟨o, n, ho, r⟩
 | false => obtain ⟨o, ho, _, n, r⟩ := x; exact ⟨o, n, ho, r⟩
end
section
variable {prog : Program} {w : World} {A : Around} {E : Value -> Shared -> Prop} {s : Shared} {k : Bool} {it a : Addr} {i : Nat} {xs : Array Value}
theorem ma {x : Value} {Q : Value -> Shared -> Prop} (hi : SIt k s.heap it a i) (hs : SSq k s.heap a xs) (hx : xs[i]? = some x) (hQ : ∀ h', SIt k h' it a (i + 1) -> Heap.SameBut it s.heap h' -> Q x { s with heap := h' }) :
  wpAny (model prog w) A (Builtin.SmallTypes.nextOf (.ref it)) Q E s := by
 cases k with
 | true => exact wpAny_nextOf_list_item hi hs hx hQ
 | false =>
  obtain ⟨o, ho, hc, hd⟩ := id hi
  obtain ⟨oq, hq, _, nq, hdq⟩ := hs
  unfold Builtin.SmallTypes.nextOf
  refine wpAny_bind (wpAny_callSpecial?_slot (name := Str.ofString "__next__") (zA1 hi) F.slot_tuple_iterator_next (wpAny_call_entry F.slot_tuple_iterator_next (zA1 hi) F.entry_tuple_iterator_next ?_ (F.args_tuple_iterator_next_1 _)))
  show wpAny _ _ (field (.ref it) 0 >>= _) _ _ s; refine wpAny_bind (wpAny_field ho hd (x := .ref a) rfl ?_)
  show wpAny _ _ (if (Value.ref a == Value.none) = true then _ else _) _ _ s; rw [if_neg (show ¬ ((Value.ref a == Value.none) = true) from zAL)]
  show wpAny _ _ (field (.ref it) 1 >>= _) _ _ s; refine wpAny_bind (wpAny_field ho hd (x := .int i 0) rfl ?_)
  show wpAny _ _ (seqItems? (.ref a) >>= _) _ _ s; refine wpAny_bind (wpAny_seqItems hq hdq ?_); simp only [Int.toNat_natCast, hx]
  refine wpAny_bind (wpAny_setField ho hd (by simp) (wpAny_pure ⟨x, rfl, wpAny_pure (hQ _ ⟨_, Heap.get?_update_self _ ho (Obj.isFreed_of_fields (Obj.data_mapFields hd _)), (Obj.cls_mapFields ..).trans hc, by rw [Obj.data_mapFields hd]; simp [rawInt]⟩ (Heap.SameBut.update ..))⟩))
theorem qh {Q : Value -> Shared -> Prop} (hh : A.handled = none) (hi : SIt k s.heap it a i) (hs : SSq k s.heap a xs) (hx : xs[i]? = none)
  (hE : ∀ h' e, Heap.ExtBut it s.heap h' -> (∃ o, h'.get? e = some o /\ o.cls = .type "StopIteration") -> E (.ref e) { s with heap := h' }) : wpAny (model prog w) A (Builtin.SmallTypes.nextOf (.ref it)) Q E s := by
 cases k with
 | true => exact wpAny_nextOf_list_end hh hi hs hx hE
 | false =>
  obtain ⟨o, ho, hc, hd⟩ := id hi
  obtain ⟨oq, hq, _, nq, hdq⟩ := hs
  unfold Builtin.SmallTypes.nextOf
  refine wpAny_bind (wpAny_callSpecial?_slot (name := Str.ofString "__next__") (zA1 hi) F.slot_tuple_iterator_next (wpAny_call_entry F.slot_tuple_iterator_next (zA1 hi) F.entry_tuple_iterator_next ?_ (F.args_tuple_iterator_next_1 _)))
  show wpAny _ _ (field (.ref it) 0 >>= _) _ _ s; refine wpAny_bind (wpAny_field ho hd (x := .ref a) rfl ?_)
  show wpAny _ _ (if (Value.ref a == Value.none) = true then _ else _) _ _ s; rw [if_neg (show ¬ ((Value.ref a == Value.none) = true) from zAL)]
  show wpAny _ _ (field (.ref it) 1 >>= _) _ _ s; refine wpAny_bind (wpAny_field ho hd (x := .int i 0) rfl ?_)
  show wpAny _ _ (seqItems? (.ref a) >>= _) _ _ s; refine wpAny_bind (wpAny_seqItems hq hdq ?_); simp only [Int.toNat_natCast, hx]
  refine wpAny_bind (wpAny_rule (wpAny_bind (wpAny_setField ho hd (by simp) ?_))); show wpAny _ _ (newExc (.type "StopIteration") [] >>= _) _ _ _
  refine wpAny_bind ?_; simp only [newExc, newTuple]; refine wpAny_bind (wpAny_newObj_type ?_ (by size_fits))
  refine wpAny_bind (m := firstArgMember _ _) (wpAny_of_eq (a := Value.none) (by simp only [firstArgMember]; rfl) ?_); refine wpAny_newObj_type ?_ (by size_fits)
  simp only [raiseNew]; refine wpAny_bind (wpAny_handled ?_); first | rw [show A.in1.handled = none from hh] | rw [hh]
  exact wpAny_bind (wpAny_pure (wpAny_throw (hE _ _ (((Heap.SameBut.update ..).extBut.push _).push _) ⟨_, zAJ _ rfl, rfl⟩)))
end
structure Ap (z TI TO i1 i2 : Addr) : Prop where
 a1 : TI ≠ z
 a2 : TO ≠ z
 a3 : i1 ≠ z
 a4 : i2 ≠ z
 a5 : TI ≠ TO
 a6 : TI ≠ i1
 a7 : TI ≠ i2
 a8 : TO ≠ i1
 a9 : TO ≠ i2
 b1 : i1 ≠ i2
structure Out (z TO i1 i2 l : Addr) : Prop where
 c1 : l ≠ z
 c2 : l ≠ TO
 c3 : l ≠ i1
 c4 : l ≠ i2
structure ZSt (k1 k2 : Bool) (z TI TO i1 i2 l1 l2 : Addr) (i : Nat) (h : Heap) : Prop where
 z : IsZip h z TI TO .none
 ti : IsPair h TI (.ref i1) (.ref i2)
 to : ∃ a b, IsPair h TO a b
 s1 : SIt k1 h i1 l1 i
 s2 : SIt k2 h i2 l2 i
section
variable {prog : Program} {w : World} {A : Around} {E : Value -> Shared -> Prop} {s : Shared} {k1 k2 : Bool} {z TI TO i1 i2 l1 l2 : Addr} {i : Nat} {xs ys : Array Value}
theorem tU {x y : Value} {Q : Option Value -> Shared -> Prop} (D : Ap z TI TO i1 i2) (D1 : Out z TO i1 i2 l1) (D2 : Out z TO i1 i2 l2) (Z : ZSt k1 k2 z TI TO i1 i2 l1 l2 i s.heap) (q1 : SSq k1 s.heap l1 xs) (q2 : SSq k2 s.heap l2 ys) (hx : xs[i]? = some x) (hy : ys[i]? = some y)
  (hQ : ∀ h', IsZip h' z TI TO (rawInt s.heap.objs.size) -> IsPair h' TI (.ref i1) (.ref i2) -> IsPair h' TO x y -> SIt k1 h' i1 l1 (i + 1) -> SIt k2 h' i2 l2 (i + 1) -> IsPair h' s.heap.objs.size x y →
   (∀ c o, c ≠ z -> c ≠ TO -> c ≠ i1 -> c ≠ i2 -> s.heap.get? c = some o -> h'.get? c = some o) -> Q (some (.ref s.heap.objs.size)) { s with heap := h' }) : wpAny (model prog w) A (pyNext (.ref z)) Q E s := by
 obtain ⟨hz, hTI, ⟨a, b, hTO⟩, h1, h2⟩ := Z
 have hT : s.TypeIs (.ref z) "zip" := ⟨_, hz, rfl⟩
 unfold pyNext
 refine wpAny_bind (wpAny_attempt (wpAny_callSpecial?_slot (name := Str.ofString "__next__") hT F.slot_zip_next (wpAny_call_entry F.slot_zip_next hT F.entry_zip_next ?_ (F.args_zip_next_1 _))))
 show wpAny _ _ (field (.ref z) 2 >>= _) _ _ _; refine wpAny_bind (wpAny_field hz rfl (x := .bool false) rfl ?_)
 show wpAny _ _ (field (.ref z) 3 >>= _) _ _ _; refine wpAny_bind (wpAny_field hz rfl (x := .ref TI) rfl (wpAny_bind (wpAny_seqItems hTI rfl ?_)))
 show wpAny _ _ (Builtin.SmallTypes.ownedTupleIsFree (.ref z) >>= _) _ _ _; refine wpAny_bind ?_; unfold Builtin.SmallTypes.ownedTupleIsFree
 refine wpAny_bind (wpAny_field hz rfl (x := .none) rfl (wpAny_pure ?_)); simp only [if_true]; refine wpAny_bind (wpAny_rule (wpAny_bind (wpAny_field hz rfl (x := .ref TO) rfl ?_)))
 refine wpAny_bind (wpAny_setField_rec hz (by simp) fun g1 (z1 : IsZip g1 z TI TO .ellipsis) b1 => wpAny_bind ?_)
 simp only [List.zipIdx_cons, List.zipIdx_nil, List.forIn_cons, List.forIn_nil]
 have k1' : ∀ c o, c ≠ z -> s.heap.get? c = some o -> g1.get? c = some o := fun c o n e => b1.extBut c o n e
 refine wpAny_bind (wpAny_bind (wpAny_onRaise ?_)); show wpAny _ _ (Builtin.SmallTypes.nextOf (.ref i1) >>= _) _ _ _
 refine wpAny_bind (ma (s := { s with heap := g1 }) (h1.of fun o e => k1' _ o D.a3 e) (q1.of fun o e => k1' _ o D1.c1 e) hx fun g2 n2 b2 => wpAny_pure ?_)
 have t2 : IsPair g2 TO a b := b2.extBut _ _ D.a8 (k1' _ _ D.a2 hTO)
 refine wpAny_bind (wpAny_seqItems t2 rfl (wpAny_bind (wpAny_updateSeq_pair t2 fun g3 (t3 : IsPair g3 TO x b) b3 => wpAny_bind (wpAny_letGo (wpAny_pure ?_)))))
 have k3 : ∀ c o, c ≠ z -> c ≠ TO -> c ≠ i1 -> s.heap.get? c = some o -> g3.get? c = some o := fun c o n1 n2 n3 e => b3.extBut c o n2 (b2.extBut c o n3 (k1' c o n1 e))
 refine wpAny_bind (wpAny_bind (wpAny_onRaise ?_)); show wpAny _ _ (Builtin.SmallTypes.nextOf (.ref i2) >>= _) _ _ _
 refine wpAny_bind (ma (s := { s with heap := g3 }) (h2.of fun o e => k3 _ o D.a4 (Ne.symm D.a9) (Ne.symm D.b1) e) (q2.of fun o e => k3 _ o D2.c1 D2.c2 D2.c3 e) hy fun g4 n4 b4 => wpAny_pure ?_)
 have t4 : IsPair g4 TO x b := b4.extBut _ _ D.a9 t3
 refine wpAny_bind (wpAny_seqItems t4 rfl (wpAny_bind (wpAny_updateSeq_pair t4 fun g5 (t5 : IsPair g5 TO x y) b5 => wpAny_bind (wpAny_letGo (wpAny_pure (wpAny_pure ?_))))))
 refine wpAny_bind (wpAny_seqItems t5 rfl (wpAny_bind (wpAny_newTuple ?_)))
 have sz : g5.objs.size = s.heap.objs.size := by rw [b5.1, b4.1, b3.1, b2.1, b1.1]
 have k5 : ∀ c o, c ≠ z -> c ≠ TO -> c ≠ i1 -> c ≠ i2 -> s.heap.get? c = some o -> g5.get? c = some o := fun c o n1 n2 n3 n4 e => b5.extBut c o n2 (b4.extBut c o n4 (k3 c o n1 n2 n3 e))
 have z5 : IsZip g5 z TI TO .ellipsis := b5.extBut _ _ (Ne.symm D.a2) (b4.extBut _ _ (Ne.symm D.a4) (b3.extBut _ _ (Ne.symm D.a2) (b2.extBut _ _ (Ne.symm D.a3) z1)))
 have s15 : SIt k1 g5 i1 l1 (i + 1) := n2.of fun o e => b5.extBut _ o (Ne.symm D.a8) (b4.extBut _ o D.b1 (b3.extBut _ o (Ne.symm D.a8) e))
 have s25 : SIt k2 g5 i2 l2 (i + 1) := n4.of fun o e => b5.extBut _ o (Ne.symm D.a9) e
 have zl : z < g5.objs.size := zAC z5
 show wpAny _ _ (Builtin.SmallTypes.ownedTupleHandOut (.ref z) (.ref g5.objs.size) >>= _) _ _ _; refine wpAny_bind ?_; unfold Builtin.SmallTypes.ownedTupleHandOut
 have z6 : IsZip (g5.push { cls := .type "tuple", data := .seq #[x, y] }) z TI TO .ellipsis := zAB _ z5
 refine wpAny_bind (wpAny_setField_rec z6 (by simp) fun g7 (z7 : IsZip g7 z TI TO (rawInt g5.objs.size)) b7 => wpAny_setField_rec z7 (by simp) fun g8 (z8 : IsZip g8 z TI TO (rawInt g5.objs.size)) b8 => wpAny_pure ?_)
 have up : ∀ c o, c ≠ z -> g5.get? c = some o -> g8.get? c = some o := fun c o n e => b8.extBut c o n (b7.extBut c o n (zAB _ e))
 have p8 : IsPair g8 g5.objs.size x y := b8.extBut _ _ (Nat.ne_of_gt zl) (b7.extBut _ _ (Nat.ne_of_gt zl) (zAJ _ rfl))
 refine ⟨_, rfl, ?_⟩
 rw [sz] at z8 p8
 refine wpAny_pure ?_
 show Q (some (.ref g5.objs.size)) _
 rw [sz]
 exact hQ g8 z8 (up _ _ D.a1 (k5 _ _ D.a1 D.a5 D.a6 D.a7 hTI)) (up _ _ D.a2 t5) (s15.of fun o e => up _ o D.a3 e) (s25.of fun o e => up _ o D.a4 e) p8 fun c o n1 n2 n3 n4 e => up c o n1 (k5 c o n1 n2 n3 n4 e)
theorem tV {Q : Option Value -> Shared -> Prop} (hh : A.handled = none) (D : Ap z TI TO i1 i2) (D1 : Out z TO i1 i2 l1) (D2 : Out z TO i1 i2 l2) (Z : ZSt k1 k2 z TI TO i1 i2 l1 l2 i s.heap) (q1 : SSq k1 s.heap l1 xs) (q2 : SSq k2 s.heap l2 ys) (hend : xs[i]? = none ∨ ys[i]? = none)
  (hQ : ∀ h', (∀ c o, c ≠ z -> c ≠ TO -> c ≠ i1 -> c ≠ i2 -> s.heap.get? c = some o -> h'.get? c = some o) -> Q none { s with heap := h' }) : wpAny (model prog w) A (pyNext (.ref z)) Q E s := by
 obtain ⟨hz, hTI, ⟨a, b, hTO⟩, h1, h2⟩ := Z
 have hT : s.TypeIs (.ref z) "zip" := ⟨_, hz, rfl⟩
 unfold pyNext
 refine wpAny_bind (wpAny_attempt (wpAny_callSpecial?_slot (name := Str.ofString "__next__") hT F.slot_zip_next (wpAny_call_entry F.slot_zip_next hT F.entry_zip_next ?_ (F.args_zip_next_1 _))))
 show wpAny _ _ (field (.ref z) 2 >>= _) _ _ _; refine wpAny_bind (wpAny_field hz rfl (x := .bool false) rfl ?_)
 show wpAny _ _ (field (.ref z) 3 >>= _) _ _ _; refine wpAny_bind (wpAny_field hz rfl (x := .ref TI) rfl (wpAny_bind (wpAny_seqItems hTI rfl ?_)))
 show wpAny _ _ (Builtin.SmallTypes.ownedTupleIsFree (.ref z) >>= _) _ _ _; refine wpAny_bind ?_; unfold Builtin.SmallTypes.ownedTupleIsFree
 refine wpAny_bind (wpAny_field hz rfl (x := .none) rfl (wpAny_pure ?_)); simp only [if_true]; refine wpAny_bind (wpAny_rule (wpAny_bind (wpAny_field hz rfl (x := .ref TO) rfl ?_)))
 refine wpAny_bind (wpAny_setField_rec hz (by simp) fun g1 (z1 : IsZip g1 z TI TO .ellipsis) b1 => wpAny_bind ?_)
 simp only [List.zipIdx_cons, List.zipIdx_nil, List.forIn_cons, List.forIn_nil]
 have k1' : ∀ c o, c ≠ z -> s.heap.get? c = some o -> g1.get? c = some o := fun c o n e => b1.extBut c o n e
 refine wpAny_bind (wpAny_bind (wpAny_onRaise ?_)); show wpAny _ _ (Builtin.SmallTypes.nextOf (.ref i1) >>= _) _ _ _
 cases hx : xs[i]? with
 | none =>
  refine wpAny_bind (qh (s := { s with heap := g1 }) hh (h1.of fun o e => k1' _ o D.a3 e) (q1.of fun o e => k1' _ o D1.c1 e) hx fun g2 e b2 he => ?_)
  obtain ⟨oe, ho, hc⟩ := he
  have z2 : IsZip g2 z TI TO .ellipsis := b2 _ _ (Ne.symm D.a3) z1
  have nz : e ≠ z := fun q => by subst q; rw [z2] at ho; cases ho; simp at hc
  refine wpAny_setField_rec z2 (by simp) fun g3 _ b3 => wpAny_bind (wpAny_isInstance (T := "StopIteration") (b := true) ⟨oe, b3.extBut _ _ nz ho, hc⟩ isSubtype_stop ?_)
  exact wpAny_pure (hQ g3 fun c o n1 _ n3 _ q => b3.extBut c o n1 (b2 c o n3 (k1' c o n1 q)))
 | some x =>
  have hy : ys[i]? = none := by
   rcases hend with q | q
   ·rw [hx] at q; cases q
   ·exact q
  refine wpAny_bind (ma (s := { s with heap := g1 }) (h1.of fun o e => k1' _ o D.a3 e) (q1.of fun o e => k1' _ o D1.c1 e) hx fun g2 n2 b2 => wpAny_pure ?_)
  have t2 : IsPair g2 TO a b := b2.extBut _ _ D.a8 (k1' _ _ D.a2 hTO)
  refine wpAny_bind (wpAny_seqItems t2 rfl (wpAny_bind (wpAny_updateSeq_pair t2 fun g3 t3 b3 => wpAny_bind (wpAny_letGo (wpAny_pure ?_)))))
  have k3 : ∀ c o, c ≠ z -> c ≠ TO -> c ≠ i1 -> s.heap.get? c = some o -> g3.get? c = some o := fun c o n1 n2 n3 e => b3.extBut c o n2 (b2.extBut c o n3 (k1' c o n1 e))
  refine wpAny_bind (wpAny_bind (wpAny_onRaise ?_)); show wpAny _ _ (Builtin.SmallTypes.nextOf (.ref i2) >>= _) _ _ _
  refine wpAny_bind (qh (s := { s with heap := g3 }) hh (h2.of fun o e => k3 _ o D.a4 (Ne.symm D.a9) (Ne.symm D.b1) e) (q2.of fun o e => k3 _ o D2.c1 D2.c2 D2.c3 e) hy fun g4 e b4 he => ?_)
  obtain ⟨oe, ho, hc⟩ := he
  have z4 : IsZip g4 z TI TO .ellipsis := b4 _ _ (Ne.symm D.a4) (b3.extBut _ _ (Ne.symm D.a2) (b2.extBut _ _ (Ne.symm D.a3) z1))
  have nz : e ≠ z := fun q => by subst q; rw [z4] at ho; cases ho; simp at hc
  refine wpAny_setField_rec z4 (by simp) fun g5 _ b5 => wpAny_bind (wpAny_isInstance (T := "StopIteration") (b := true) ⟨oe, b5.extBut _ _ nz ho, hc⟩ isSubtype_stop ?_)
  exact wpAny_pure (hQ g5 fun c o n1 n2 n3 n4 q => b5.extBut c o n1 (b4 c o n4 (k3 c o n1 n2 n3 q)))
theorem qe {k : Bool} {a : Addr} {Q : Value -> Shared -> Prop} (q : SSq k s.heap a xs) (hQ : Q (.ref s.heap.objs.size) { s with heap := s.heap.push { cls := .type (cQ k), data := .fields #[.ref a, .int 0 0] } }) : wpAny (model prog w) A (pyIter (.ref a)) Q E s := by
 cases k with
 | true => exact wpAny_pyIter_list q hQ
 | false => exact wpAny_pyIter_tuple q hQ
end
abbrev zp1 (k1 : Bool) (h : Heap) (l1 : Addr) : Heap := h.push { cls := .type (cQ k1), data := .fields #[.ref l1, .int 0 0] }
abbrev zp2 (k1 k2 : Bool) (h : Heap) (l1 l2 : Addr) : Heap := (zp1 k1 h l1).push { cls := .type (cQ k2), data := .fields #[.ref l2, .int 0 0] }
abbrev zp3 (k1 k2 : Bool) (h : Heap) (l1 l2 : Addr) : Heap := (zp2 k1 k2 h l1 l2).push { cls := .type "tuple", data := .seq #[.ref h.objs.size, .ref (zp1 k1 h l1).objs.size] }
abbrev zp4 (k1 k2 : Bool) (h : Heap) (l1 l2 : Addr) : Heap := (zp3 k1 k2 h l1 l2).push { cls := .type "tuple", data := .seq #[.none, .none] }
abbrev zp5 (k1 k2 : Bool) (h : Heap) (l1 l2 : Addr) : Heap := (zp4 k1 k2 h l1 l2).push { cls := .type "zip", data := .fields #[.none, .bool false, .bool false, .ref (zp2 k1 k2 h l1 l2).objs.size, .ref (zp3 k1 k2 h l1 l2).objs.size] }
theorem uh (k1 k2 : Bool) (l1 l2 : Addr) (xs ys : Array Value) : Meets (Builtin.«zip.__new__» ⟨[.type "zip", .ref l1, .ref l2], []⟩) (fun _ R s => SSq k1 s.heap l1 xs /\ SSq k2 s.heap l2 ys /\ R (.ok (.ret (.ref (zp4 k1 k2 s.heap l1 l2).objs.size))) { s with heap := zp5 k1 k2 s.heap l1 l2 }) :=
 .of_wp fun prog w A R s h => by
  obtain ⟨hp, g, d, tk, os⟩ := s; obtain ⟨q1, q2, h⟩ := h; have hsub := sub_zip
  have p1 : SSq k1 (Shared.heap ⟨hp, g, d, tk, os⟩) l1 xs := q1
  have p2 : SSq k2 (Shared.heap ⟨hp.push { cls := .type (cQ k1), data := .fields #[.ref l1, .int 0 0] }, g, d, tk, os⟩) l2 ys := q2.of fun o e => zAB _ e
  wp_walk using qe p1, qe p2
  exact ⟨_, rfl, h⟩
section
variable {prog : Program} {w : World} {A : Around} {E : Value -> Shared -> Prop} {s : Shared} {k1 k2 : Bool} {l1 l2 : Addr} {xs ys : Array Value}
theorem tT {Q : Value -> Shared -> Prop} (q1 : SSq k1 s.heap l1 xs) (q2 : SSq k2 s.heap l2 ys)
  (hQ : ∀ h', ZSt k1 k2 (s.heap.objs.size + 4) (s.heap.objs.size + 2) (s.heap.objs.size + 3) s.heap.objs.size (s.heap.objs.size + 1) l1 l2 0 h' -> (∀ c o, s.heap.get? c = some o -> h'.get? c = some o) -> Q (.ref (s.heap.objs.size + 4)) { s with heap := h' }) :
  wpAny (model prog w) A (call (.type "zip") [.ref l1, .ref l2]) Q E s := by
 refine callType_new F.called_zip (by decide) (F.typeCall_zip_2 _ _) (F.newCall_zip_2 _ _) (fun obj => F.args_object_init_3 obj _ _) F.entry_zip_new (uh k1 k2 l1 l2 xs ys) ⟨q1, q2, ?_⟩
 have n1 : (zp1 k1 s.heap l1).objs.size = s.heap.objs.size + 1 := zAs ..
 have n2 : (zp2 k1 k2 s.heap l1 l2).objs.size = s.heap.objs.size + 2 := by rw [zAs, n1]
 have n3 : (zp3 k1 k2 s.heap l1 l2).objs.size = s.heap.objs.size + 3 := by rw [zAs, n2]
 have n4 : (zp4 k1 k2 s.heap l1 l2).objs.size = s.heap.objs.size + 4 := by rw [zAs, n3]
 have up5 : ∀ c o, (zp4 k1 k2 s.heap l1 l2).get? c = some o -> (zp5 k1 k2 s.heap l1 l2).get? c = some o := fun c o e => zAB _ e
 have up4 : ∀ c o, (zp3 k1 k2 s.heap l1 l2).get? c = some o -> (zp5 k1 k2 s.heap l1 l2).get? c = some o := fun c o e => up5 c o (zAB _ e)
 have up3 : ∀ c o, (zp2 k1 k2 s.heap l1 l2).get? c = some o -> (zp5 k1 k2 s.heap l1 l2).get? c = some o := fun c o e => up4 c o (zAB _ e)
 have up2 : ∀ c o, (zp1 k1 s.heap l1).get? c = some o -> (zp5 k1 k2 s.heap l1 l2).get? c = some o := fun c o e => up3 c o (zAB _ e)
 have g5 : (zp5 k1 k2 s.heap l1 l2).get? (zp4 k1 k2 s.heap l1 l2).objs.size = some _ := zAJ _ rfl
 have g4 := up5 _ _ (zAJ (zp3 k1 k2 s.heap l1 l2) (o := { cls := .type "tuple", data := .seq #[.none, .none] }) rfl)
 have g3 := up4 _ _ (zAJ (zp2 k1 k2 s.heap l1 l2) (o := { cls := .type "tuple", data := .seq #[.ref s.heap.objs.size, .ref (zp1 k1 s.heap l1).objs.size] }) rfl)
 have g2 := up3 _ _ (zAJ (zp1 k1 s.heap l1) (o := { cls := .type (cQ k2), data := .fields #[.ref l2, .int 0 0] }) rfl)
 have g1 := up2 _ _ (zAJ s.heap (o := { cls := .type (cQ k1), data := .fields #[.ref l1, .int 0 0] }) rfl)
 have hQ' := hQ (zp5 k1 k2 s.heap l1 l2)
 rw [n2, n3, n4] at g5; rw [n3] at g4; rw [n1, n2] at g3; rw [n1] at g2
 have sit : ∀ {k : Bool} {h : Heap} {it a : Addr}, h.get? it = some { cls := .type (cQ k), data := .fields #[.ref a, .int 0 0] } -> SIt k h it a 0 := fun {k h it a} e => by
  cases k with
  | true => exact ⟨_, e, rfl, rfl⟩
  | false => exact ⟨_, e, rfl, rfl⟩
 show _ /\ _
 rw [n4]
 exact ⟨⟨_, g5, rfl⟩, hQ' ⟨g5, g3, ⟨_, _, g4⟩, sit g1, sit g2⟩ fun c o e => up2 c o (zAB _ e)⟩
end
end PZ
namespace PD
open PySem PySem.Spec PyProof.Rows L2 PZ
def SqK (K : PySem.W.Frag) : Bool -> Hp -> Addr -> List V -> Prop
 | true => SqL K
 | false => L2.SqT K
section
variable {X : Cx} {pins : List (Addr × Obj)} {σ : St} {H : Hp} {s : Shared} {k : Bool} {a : Addr} {xs : List V}
theorem SqK.list (I : Inv X pins σ H s) (h : SqK X.K k H a xs) : ∃ its : List Value, Vals xs its /\ SSq k s.heap a its.toArray := by
 cases k with
 | true =>
  obtain ⟨its, r, p, _⟩ := I.list h
  exact ⟨its, r, p.isList⟩
 | false =>
  obtain ⟨its, r, p, _⟩ := I.tuple h
  exact ⟨its, r, p⟩
theorem SqK.inj (I : Inv X pins σ H s) {ys : List V} (h : SqK X.K k H a xs) (h' : SqK X.K k H a ys) : xs = ys := by
 cases k with
 | true => exact I.list_inj h h'
 | false => exact I.tuple_inj h h'
theorem SqK.ne (I : Inv X pins σ H s) {b : Addr} (f : bF X pins H b) (h : SqK X.K k H a xs) : a ≠ b := fun e => by
 subst e
 obtain ⟨f0, f1, f2, f3, f4, f5⟩ := f
 have kn : ∀ o, X.K.lookup a = some o -> False := fun o q => by
  have hb := I.ok.mod.kin a o q
  rcases f3 with z | z
  ·exact I.ok.noex a o hb z
  ·exact absurd (zAG (zAC (I.ok.bs a o hb).1) z) (zAe _)
 cases k with
 | true =>
  rcases h with (h | ⟨o, h⟩) | ⟨o, its, n, h, _⟩
  ·rw [f0] at h; cases h
  ·rw [f0] at h; cases h
  ·exact kn o h
 | false =>
  rcases h with (h | ⟨o, h⟩) | ⟨o, its, n, h, _⟩
  ·rw [f0] at h; cases h
  ·rw [f0] at h; cases h
  ·exact kn o h
end
def Itz (K : PySem.W.Frag) (k1 k2 : Bool) (a b : Addr) : It :=
 ⟨fun i H => ∃ xs ys x y, SqK K k1 H a xs /\ SqK K k2 H b ys /\ xs[i]? = some x /\ ys[i]? = some y,
  fun i H v H' => ∃ T x y, v = .ref T /\ H T = none /\ H' = L2.upd H T (.tup [x, y]) /\ (∀ xs, SqK K k1 H a xs -> xs[i]? = some x) /\ ∀ ys, SqK K k2 H b ys -> ys[i]? = some y,
  fun i H => ∃ xs ys, SqK K k1 H a xs /\ SqK K k2 H b ys /\ (xs[i]? = none ∨ ys[i]? = none)⟩
theorem pH {P : Program} {w : World} {K : PySem.W.Frag} {es : List Expr} {kt : Nat} {tp : Pos} (k1 k2 : Bool) (a b z TI TO i1 i2 : Addr) (D : Ap z TI TO i1 i2) :
  Turn P w K (.Tuple es kt tp) (Itz K k1 k2 a b) [z, TI, TO, i1, i2] z (fun i h => ZSt k1 k2 z TI TO i1 i2 a b i h) where
 mem := by simp
 obj := fun i h st c hc => by
  obtain ⟨hz, hTI, ⟨x, y, hTO⟩, s1, s2⟩ := st
  simp only [zAU, zAo, or_false] at hc
  rcases hc with e | e | e | e | e <;> subst e
  ·exact ⟨_, hz, fun v q => by cases q⟩
  ·exact ⟨_, hTI, fun v q => by cases q⟩
  ·exact ⟨_, hTO, fun v q => by cases q⟩
  ·obtain ⟨o, q1, _, q2⟩ := s1.obj
   exact ⟨o, q1, fun v q => by rw [q2] at q; cases q⟩
  ·obtain ⟨o, q1, _, q2⟩ := s2.obj
   exact ⟨o, q1, fun v q => by rw [q2] at q; cases q⟩
 keep := fun i h h' st kp => by
  obtain ⟨hz, hTI, ⟨x, y, hTO⟩, s1, s2⟩ := st
  exact ⟨kp z (by simp) _ hz, kp TI (by simp) _ hTI, ⟨x, y, kp TO (by simp) _ hTO⟩, s1.of fun o e => kp i1 (by simp) o e, s2.of fun o e => kp i2 (by simp) o e⟩
 item := by
  intro X hP hw hK hc i pins s σ H E I hf st hg
  subst hP hw hK
  obtain ⟨xs, ys, x, y, q1, q2, hx, hy⟩ := hg
  obtain ⟨us, r1, p1⟩ := q1.list I
  obtain ⟨ws, r2, p2⟩ := q2.list I
  obtain ⟨u, hu, ru⟩ := r1.get hx
  obtain ⟨v, hv, rv⟩ := r2.get hy
  have out : ∀ {k : Bool} {l : Addr} {zs : List V}, SqK X.K k H l zs -> Out z TO i1 i2 l := fun q => ⟨q.ne I (hf z (by simp)), q.ne I (hf TO (by simp)), q.ne I (hf i1 (by simp)), q.ne I (hf i2 (by simp))⟩
  refine tU D (out q1) (out q2) st p1 p2 (x := u) (y := v) (by simpa using hu) (by simpa using hv) fun h' z1 ti to s1 s2 pr kp => ⟨_, rfl, wpAny_letOwnedTupleGo_zip z1 fun h'' z2 sb => ?_⟩
  have sz : s.heap.objs.size <= s.heap.objs.size := zAH _
  have nz : s.heap.objs.size ≠ z := Nat.ne_of_gt (zAC st.z)
  have nT : H s.heap.objs.size = none := I.hok.fresh sz
  have kp2 : ∀ c o, c ∉ [z, TI, TO, i1, i2] -> s.heap.get? c = some o -> h''.get? c = some o := fun c o n e => by
   simp only [zAU, zAo, or_false, not_or] at n
   exact sb.extBut c o n.1 (kp c o n.1 n.2.2.1 n.2.2.2.1 n.2.2.2.2 e)
  have st2 : ZSt k1 k2 z TI TO i1 i2 a b (i + 1) h'' := ⟨z2, sb.extBut _ _ D.a1 ti, ⟨_, _, sb.extBut _ _ D.a2 to⟩, s1.of fun o e => sb.extBut _ o D.a3 e, s2.of fun o e => sb.extBut _ o D.a4 e⟩
  have pr2 : IsPair h'' s.heap.objs.size u v := sb.extBut _ _ nz pr
  have lo : ∀ c ∈ [z, TI, TO, i1, i2], c ≠ s.heap.objs.size := fun c hc e => by
   have hlt : c < s.heap.objs.size := by
    obtain ⟨hz, hTI, ⟨x', y', hTO⟩, t1, t2⟩ := st
    simp only [zAU, zAo, or_false] at hc
    rcases hc with q | q | q | q | q <;> subst q
    ·exact zAC hz
    ·exact zAC hTI
    ·exact zAC hTO
    ·obtain ⟨o, q1, _⟩ := t1.obj; exact zAC q1
    ·obtain ⟨o, q1, _⟩ := t2.obj; exact zAC q1
   rw [e] at hlt
   exact zAe _ hlt
  refine ⟨.ref s.heap.objs.size, L2.upd H s.heap.objs.size (.tup [x, y]), ?_, rfl, ⟨_, x, y, rfl, nT, rfl, fun xs' q => by rw [q.inj I q1]; exact hx, fun ys' q => by rw [q.inj I q2]; exact hy⟩, st2, fun c hc => by rw [aj (lo c hc)]; exact (hf c hc).1⟩
  have nch : ∀ c o, H c = some o -> c ∉ [z, TI, TO, i1, i2] := fun c o e hc => by
   have := (hf c hc).1
   rw [e] at this
   cases this
  refine L2.Inv.step (s := s) (h' := h'') (g' := s.gens) (d' := s.drawn) (t' := s.toks) (ch := [z, TI, TO, i1, i2]) I (fun c hc => ?_) (fun c o _ _ n e _ => kp2 c o n e) (fun c o _ _ n e _ => ⟨o.slots, kp2 c o n e⟩) (fun c o _ e n => by rw [aj (zAT (zAC e))]; exact n) (fun c o n e => ⟨o, kp2 c o n e⟩)
   (fun c ls e => by rw [aj (aA e nT)]; exact e) (fun c o ls e => by rw [aj (aA e nT)]; exact e) (fun c ps e => ⟨#[], by rw [aj (aA e nT), e]; simp⟩) (fun m hm => ?_) (fun c o e => ?_) I.bare
  ·obtain ⟨f0, f1, f2, f3, f4, f5⟩ := hf c hc
   exact ⟨f3, f1, f4, f5⟩
  ·obtain ⟨o, es', ep, ho, r⟩ := hm
   exact ⟨o, es', ep, kp2 _ o (fun q => (hf _ q).2.1 rfl) ho, r⟩
  ·by_cases hcT : c = s.heap.objs.size
   ·subst hcT
    rw [aw] at e
    cases e
    exact ⟨by rw [sizeLine_eq]; show 2 <= 16777216; decide, [u, v], .cons ru (.cons rv .nil), ⟨_, pr2, rfl, _, rfl⟩⟩
   ·rw [aj hcT] at e
    refine (I.hok c o e).stay (fun d' o' hd q => kp2 d' o' ?_ q) (fun d' q => by rw [aj (aA q nT)]; exact q) fun d' ls q => by rw [aj (aA q nT)]; exact q
    rcases hd with q' | q'
    ·rw [q']; exact nch c o e
    ·exact nch d' _ q'
 done := by
  intro X hP hw hK hc i pins s σ H E I hf st hg
  subst hP hw hK
  obtain ⟨xs, ys, q1, q2, hend⟩ := hg
  obtain ⟨us, r1, p1⟩ := q1.list I
  obtain ⟨ws, r2, p2⟩ := q2.list I
  have out : ∀ {k : Bool} {l : Addr} {zs : List V}, SqK X.K k H l zs -> Out z TO i1 i2 l := fun q => ⟨q.ne I (hf z (by simp)), q.ne I (hf TO (by simp)), q.ne I (hf i1 (by simp)), q.ne I (hf i2 (by simp))⟩
  refine tV (I.ok.hd hc) D (out q1) (out q2) st p1 p2 (hend.imp (fun q => by simpa using r1.none_of q) fun q => by simpa using r2.none_of q) fun h' kp => ⟨rfl, ?_⟩
  have kp2 : ∀ c o, c ∉ [z, TI, TO, i1, i2] -> s.heap.get? c = some o -> h'.get? c = some o := fun c o n e => by
   simp only [zAU, zAo, or_false, not_or] at n
   exact kp c o n.1 n.2.2.1 n.2.2.2.1 n.2.2.2.2 e
  have nch : ∀ c o, H c = some o -> c ∉ [z, TI, TO, i1, i2] := fun c o e hc => by
   have := (hf c hc).1
   rw [e] at this
   cases this
  refine L2.Inv.step (s := s) (h' := h') (g' := s.gens) (d' := s.drawn) (t' := s.toks) (ch := [z, TI, TO, i1, i2]) I (fun c hc => ?_) (fun c o _ _ n e _ => kp2 c o n e) (fun c o _ _ n e _ => ⟨o.slots, kp2 c o n e⟩) (fun _ _ _ _ n => n) (fun c o n e => ⟨o, kp2 c o n e⟩) (fun _ _ e => e) (fun _ _ _ e => e) (fun c ps e => ⟨#[], by rw [e]; simp⟩) (fun m hm => ?_) (fun c o e => ?_) I.bare
  ·obtain ⟨f0, f1, f2, f3, f4, f5⟩ := hf c hc
   exact ⟨f3, f1, f4, f5⟩
  ·obtain ⟨o, es', ep, ho, r⟩ := hm
   exact ⟨o, es', ep, kp2 _ o (fun q => (hf _ q).2.1 rfl) ho, r⟩
  ·refine (I.hok c o e).stay (fun d' o' hd q => kp2 d' o' ?_ q) (fun _ q => q) fun _ _ q => q
   rcases hd with q' | q'
   ·rw [q']; exact nch c o e
   ·exact nch d' _ q'
 self := fun _ _ _ _ _ st h => wpAny_pyIter_zip st.z h
def bj : D -> Option (Bool × List D)
 | .lst _ ds => some (true, ds)
 | .tup ds => some (false, ds)
 | _ => none
section
variable {X : Cx}
theorem Den.seq {P : Bool -> Addr -> Prop} {H : Hp} {d : D} {v : V} {k : Bool} {ds : List D} (h : Den X.K P H d v) (e : bj d = some (k, ds)) : ∃ a vs, v = .ref a /\ SqK X.K k H a vs /\ ae X.K P H ds vs ∧
  ∀ (P' : Bool -> Addr -> Prop) (H' : Hp), (∀ a vs, SqT X.K H a vs -> SqT X.K H' a vs) -> (∀ t a vs, ¬ P t a -> SqG X.K H t a vs -> ¬ P' t a /\ SqG X.K H' t a vs) -> SqK X.K k H' a vs := by
 cases d with
 | lst t es =>
  cases e
  obtain ⟨a, vs, e1, p, q, hd⟩ := h.lstG_
  exact ⟨a, vs, e1, q.1, hd, fun P' H' _ hL => (hL t a vs p q).2.1⟩
 | tup es =>
  cases e
  obtain ⟨a, vs, e1, q, hd⟩ := h.tup_
  exact ⟨a, vs, e1, q.w, hd, fun P' H' hT _ => (hT a vs q).w⟩
 | non => cases e
 | bl _ => cases e
 | int _ => cases e
 | str _ => cases e
 | exc _ => cases e
 | obj _ _ _ => cases e
 | dic => cases e
def oU (ta : DA) : DA := fun ρ R => ta ρ fun ds => ∃ d1 d2 k1 k2 xs ys, ds = [d1, d2] /\ bj d1 = some (k1, xs) /\ bj d2 = some (k2, ys) /\ R (List.zipWith (fun x y => D.tup [x, y]) xs ys)
theorem nk {es : List Expr} {kt : Nat} {tp : Pos} {a b : Expr} {ta : DA} {p pos : Pos} (hg : Gl X "zip") (hm : X.mg "zip" = none) (ha : PAD X [a, b] ta) (hs : starEach [a, b] X.env = (false, eval a X.env) :: starEach [b] X.env := by rfl) (hs2 : (backTo pos (starEach [b] X.env)).any (·.1) = false := by rfl) :
  PID X (.Tuple es kt tp) (.Call (.Name "zip" p) [a, b] [] pos) (oU ta) := by
 intro pins s σ H W ρ R I r h
 refine Call_ (cq I hg hm boot_zip (PyProof.Rows.callWith_type1 (thn (ha pos pins s σ H W ρ _ I r h) fun us s1 ⟨vs, H1, ds, I1, r1, e1, hd, q1⟩ => ?_) hs hs2))
 obtain ⟨d1, d2, k1, k2, xs, ys, e, g1, g2, q⟩ := q1
 subst e
 obtain ⟨v1, v2, rfl, hd1, hd2⟩ := sT hd
 obtain ⟨l1, ws1, e2, sq1, dn1, up1⟩ := hd1.seq g1
 obtain ⟨l2, ws2, e3, sq2, dn2, up2⟩ := hd2.seq g2
 subst e2 e3
 cases r1 with
 | cons ra rr =>
  cases rr with
  | cons rb rr =>
   cases rr
   cases ra
   cases rb
   obtain ⟨us1, _, p1⟩ := sq1.list I1
   obtain ⟨us2, _, p2⟩ := sq2.list I1
   have nn : ∀ j : Nat, s1.heap.objs.size <= s1.heap.objs.size + j := fun j => Nat.le_add_right _ j
   refine tT p1 p2 fun h' Z kp => ?_
   refine wpAny_pyIter_zip Z.z ?_
   have Dz : Ap (s1.heap.objs.size + 4) (s1.heap.objs.size + 2) (s1.heap.objs.size + 3) s1.heap.objs.size (s1.heap.objs.size + 1) := by constructor <;> simp
   refine ⟨s1.heap.objs.size + 4, [s1.heap.objs.size + 4, s1.heap.objs.size + 2, s1.heap.objs.size + 3, s1.heap.objs.size, s1.heap.objs.size + 1], _, _, H1, _, rfl, I1.kept (t' := s1.toks) kp, e1, pH k1 k2 l1 l2 _ _ _ _ _ Dz, Z, fun c hc => ?_, ?_, q⟩
   ·have hc' : s1.heap.objs.size <= c := by
     simp only [zAU, zAo, or_false] at hc
     rcases hc with q | q | q | q | q <;> subst q <;> first | exact nn _ | exact zAH _
    exact I1.fpOk hc' (I1.hok.fresh hc')
   ·intro P' H' hT hL hX i
    have k1' := up1 P' H' hT hL
    have k2' := up2 P' H' hT hL
    have n1 := dn1.len
    have n2 := dn2.len
    have hlen : (List.zipWith (fun x y => D.tup [x, y]) xs ys).length = min xs.length ys.length := List.length_zipWith
    refine ⟨fun hi => ?_, fun v H3 y hi => ?_, fun hi => ⟨ws1, ws2, k1', k2', ?_⟩⟩
    ·obtain ⟨x, hx, _⟩ := dn1.get (i := i) (d := xs[i]'(by omega)) (by simp)
     obtain ⟨y, hy, _⟩ := dn2.get (i := i) (d := ys[i]'(by omega)) (by simp)
     exact ⟨ws1, ws2, x, y, k1', k2', hx, hy⟩
    ·obtain ⟨T, x, y', e, nT, eH, hx, hy⟩ := y
     subst e eH
     obtain ⟨dx, g1', hx'⟩ := dn1.aI (hx ws1 k1')
     obtain ⟨dy, g2', hy'⟩ := dn2.aI (hy ws2 k2')
     have sm : af H' (L2.upd H' T (.tup [x, y'])) := af.upd nT
     refine ⟨sm, .tup [dx, dy], by simp [List.getElem?_zipWith, g1', g2'], Den.tup (SqT.of aw) (ae.cons ((Den.map hT hL hX dx x hx').same sm) (ae.one ((Den.map hT hL hX dy y' hy').same sm)))⟩
    ·by_cases hz : xs.length <= i
     ·exact .inl (zAY (by omega))
     ·exact .inr (zAY (by omega))
end
end PD
namespace PD
open PySem PySem.Spec PyProof.Rows L2
def PEF (X : Cx) (e : Expr) (t : DA) : Prop :=
 ∀ (pins : List (Addr × Obj)) (s : Shared) (σ : St) (H : Hp) (W : Own) (ρ : Ro) (Q : List D -> Prop), Inv X pins σ H s -> Rel X W H σ ρ -> t ρ Q →
  wpAny (model X.prog X.w) X.A (eval e X.env) (fun u s' => ∃ a vs H' ds, u = .ref a /\ Inv X pins σ H' s' /\ af H H' /\ H a = none /\ X.K.lookup a = none /\ H' a = some (.lst vs) /\ ae X.K (fun t b => W.bad t b ∨ b = a) H' ds vs /\ Q ds) X.xe s
def oM (t : DA) : DE := fun ρ Q => t ρ fun ds => Q (.lst true ds)
section
variable {X : Cx} {e : Expr} {t : DA} {pos : Pos}
theorem PEF.ped (h : PEF X e t) : PED X e (oM t) := by
 intro pins s σ H W ρ Q I r hw
 refine thn (h pins s σ H W ρ _ I r hw) fun u s1 ⟨a, vs, H', ds, e, I1, sm, n, k, ha, hd, q⟩ => ?_
 subst e
 exact ⟨.ref a, H', _, I1, rfl, sm, Den.lst (r.fresh n) (.new ha k) (hd.fewer fun _ _ z => .inl z), q⟩
theorem PEF.of {te : TE} (h : PE X e te) (k : ∀ σ H W ρ Q, Rel X W H σ ρ -> t ρ Q -> te σ H fun v H' => ∃ a vs ds H1, v = .ref a /\ af H H1 /\ H1 a = none /\ H' = L2.upd H1 a (.lst vs) /\ ae X.K W.bad H1 ds vs /\ Q ds) (hK : ∀ pins σ H s a vs, Inv X pins σ H s -> H a = some (.lst vs) -> X.K.lookup a = none) : PEF X e t := by
 intro pins s σ H W ρ Q I r hw
 refine thn (h pins s σ H _ I (k σ H W ρ Q r hw)) fun u s1 ⟨v, H', I1, rv, a, vs, ds, H1, e, sm, n, eH, hd, q⟩ => ?_
 subst e eH
 cases rv
 exact ⟨a, vs, _, ds, rfl, I1, sm.trans (af.upd n), sm.free n, hK _ _ _ _ a vs I1 aw, aw, ae.apart n (hK _ _ _ _ a vs I1 aw) hd, q⟩
theorem Inv.kno {pins : List (Addr × Obj)} {σ : St} {H : Hp} {s : Shared} {a : Addr} {o : HO} (I : Inv X pins σ H s) (h : H a = some o) : X.K.lookup a = none := by
 cases e : X.K.lookup a with
 | none => rfl
 | some ob =>
  have := (I.bs a ob (I.ok.mod.kin a ob e)).2
  rw [h] at this
  cases this
def lO (i : Nat) (t : DA) : DS := fun E ρ => t ρ fun ds => E.nx (ρ.set i (some (.own ds)))
theorem qz {x : Str} {pos' : Pos} (i : Nat) (hN : X.N.Nodup) (he : PEF X e t) (hi : X.N[i]? = some x := by rfl) (hx : Loc X.env.scope x := by first | exact Or.inl rfl | exact Or.inr rfl) (hs : swapsWith e (some (.Name x pos')) pos.line X.env = pure false := by rfl)
  (hf : X.fn x = true ∨ X.env.scope.names.lookup x = some .local := by first | exact .inl rfl | exact .inr rfl | assumption) : PSD X (.Assign [.Name x pos'] e pos) (lO i t) := by
 intro pins s σ H W ρ E I r h
 refine wpAny_Assign_Name (thn (he pins s σ H W ρ _ I r h) fun u s1 ⟨a, vs, H1, ds, e1, I1, sm, n, k, ha, hd, q1⟩ => ?_) hs
 subst e1
 obtain ⟨r', f'⟩ := r.putOwn2 (Inv.ilt I1 hi) sm n k ha hd
 exact cK (v := .ref a) I1 hN hi hx rfl (fun s2 I2 => ⟨_, _, H1, I2, f', _, r', q1⟩) hf
end
mutual
def gj : D -> Bool
 | .tup ds => bX ds
 | .obj _ _ ds => bX ds
 | .lst _ _ => false
 | _ => true
def bX : List D -> Bool
 | [] => true
 | d :: ds => gj d && bX ds
end
mutual
def cE : D -> Bool
 | .tup ds => cL ds
 | .obj _ _ ds => cL ds
 | .lst t ds => t && cL ds
 | _ => true
def cL : List D -> Bool
 | [] => true
 | d :: ds => cE d && cL ds
end
section
variable {K : PySem.W.Frag} {P P' : Bool -> Addr -> Prop} {H : Hp}
mutual
theorem Den.nol : ∀ (d : D) (v : V), gj d = true -> Den K P H d v -> Den K P' H d v
 | .non, _, _, h => by simpa only [Den] using h
 | .bl _, _, _, h => by simpa only [Den] using h
 | .int _, _, _, h => by simpa only [Den] using h
 | .str _, _, _, h => by simpa only [Den] using h
 | .exc _, _, _, h => by simpa only [Den] using h
 | .obj C ns ds, _, n, h => by
  rw [gj] at n
  simp only [Den] at h ⊢
  obtain ⟨a, dx, vs, e, q, l, k, r⟩ := h
  exact ⟨a, dx, vs, e, q, l, k, ae.nol ds vs n r⟩
 | .dic, _, _, h => by simpa only [Den] using h
 | .lst _ _, _, n, _ => by rw [gj] at n; cases n
 | .tup ds, _, n, h => by
  rw [gj] at n
  simp only [Den] at h ⊢
  obtain ⟨a, vs, e, q, r⟩ := h
  exact ⟨a, vs, e, q, ae.nol ds vs n r⟩
theorem ae.nol : ∀ (ds : List D) (vs : List V), bX ds = true -> ae K P H ds vs -> ae K P' H ds vs
 | [], _, _, h => by simpa only [ae] using h
 | d :: ds, _, n, h => by
  rw [bX, zAW] at n
  simp only [ae] at h ⊢
  obtain ⟨v, r, e, h1, h2⟩ := h
  exact ⟨v, r, e, Den.nol d v n.1 h1, ae.nol ds r n.2 h2⟩
end
mutual
theorem Den.hard (k : ∀ a, P' true a -> P true a) : ∀ (d : D) (v : V), cE d = true -> Den K P H d v -> Den K P' H d v
 | .non, _, _, h => by simpa only [Den] using h
 | .bl _, _, _, h => by simpa only [Den] using h
 | .int _, _, _, h => by simpa only [Den] using h
 | .str _, _, _, h => by simpa only [Den] using h
 | .exc _, _, _, h => by simpa only [Den] using h
 | .obj C ns ds, _, n, h => by
  rw [cE] at n
  simp only [Den] at h ⊢
  obtain ⟨a, dx, vs, e, q, l, kk, r⟩ := h
  exact ⟨a, dx, vs, e, q, l, kk, ae.hard k ds vs n r⟩
 | .dic, _, _, h => by simpa only [Den] using h
 | .lst t ds, _, n, h => by
  rw [cE, zAW] at n
  obtain ⟨n1, n2⟩ := n
  subst n1
  simp only [Den] at h ⊢
  obtain ⟨a, vs, e, p, q, r⟩ := h
  exact ⟨a, vs, e, fun z => p (k a z), q, ae.hard k ds vs n2 r⟩
 | .tup ds, _, n, h => by
  rw [cE] at n
  simp only [Den] at h ⊢
  obtain ⟨a, vs, e, q, r⟩ := h
  exact ⟨a, vs, e, q, ae.hard k ds vs n r⟩
theorem ae.hard (k : ∀ a, P' true a -> P true a) : ∀ (ds : List D) (vs : List V), cL ds = true -> ae K P H ds vs -> ae K P' H ds vs
 | [], _, _, h => by simpa only [ae] using h
 | d :: ds, _, n, h => by
  rw [cL, zAW] at n
  simp only [ae] at h ⊢
  obtain ⟨v, r, e, h1, h2⟩ := h
  exact ⟨v, r, e, Den.hard k d v n.1 h1, ae.hard k ds r n.2 h2⟩
end
end
def Own.soft (W : Own) (i : Nat) (a : Addr) : Own := ⟨W.B, fun j => if j = i then none else W.O j, fun b => W.S b ∨ b = a⟩
section
variable {X : Cx}
theorem Rel.soft {W : Own} {H : Hp} {σ : St} {ρ : Ro} {i : Nat} {ds : List D} (r : Rel X W H σ ρ) (e : ρ[i]? = some (some (.own ds))) : ∃ a, W.O i = some a /\ Rel X (W.soft i a) H σ (ρ.set i (some (.val (.lst false ds)))) /\ ∀ b, W.bad true b -> (W.soft i a).bad true b := by
 obtain ⟨a, vs, oa, sa, ha, hds⟩ := r.ownL i ds e
 have hl' : i < ρ.length := (zAD.mp e).1
 have hO : ∀ j b, (W.soft i a).O j = some b -> j ≠ i /\ W.O j = some b := fun j b h => by
  have h1 : (if j = i then none else W.O j) = some b := h
  by_cases z : j = i
  ·rw [if_pos z] at h1; cases h1
  ·rw [if_neg z] at h1; exact ⟨z, h1⟩
 have low : ∀ t b, (W.soft i a).bad t b -> W.bad t b := fun t b z => by
  rcases z with z | ⟨j, z⟩ | ⟨z1, z2⟩
  ·exact .inl z
  ·exact .inr (.inl ⟨j, (hO j b z).2⟩)
  ·rcases z2 with z2 | z2
   ·exact .inr (.inr ⟨z1, z2⟩)
   ·subst z2; exact .inr (.inl ⟨i, oa⟩)
 have nb : ¬ (W.soft i a).bad false a := fun z => by
  rcases z with z | ⟨j, z⟩ | ⟨z1, _⟩
  ·exact (r.kn i a oa).2.1.1 z
  ·exact (hO j a z).1 (r.inj j i a (hO j a z).2 oa)
  ·cases z1
 refine ⟨a, oa, ⟨fun j d h => ?_, fun j x h => ?_, fun j k b h1 h2 => r.inj j k b (hO j b h1).2 (hO k b h2).2, fun j b h => ?_, fun j b h => r.ke j b (hO j b h).2, r.bt, fun b h => ?_, r.ent, r.tab⟩, fun b z => ?_⟩
 ·by_cases hj : j = i
  ·subst hj
   rw [zAE hl'] at h
   cases h
   exact ⟨.ref a, sa, Den.lst nb (.any (SqL.of ha)) (hds.fewer low)⟩
  ·rw [zAA (Ne.symm hj)] at h
   obtain ⟨w, h1, h2⟩ := r.val j d h
   exact ⟨w, h1, h2.fewer low⟩
 ·by_cases hj : j = i
  ·subst hj
   rw [zAE hl'] at h; cases h
  ·rw [zAA (Ne.symm hj)] at h
   obtain ⟨b, ws, h1, h2, h3, h4⟩ := r.own j x h
   exact ⟨b, ws, by show (if j = i then none else W.O j) = _; rw [if_neg hj]; exact h1, h2, h3, h4.fewer low fun k c q => (by
    show (if vix σ.length j k = i then none else W.O (vix σ.length j k)) = _
    rw [if_neg (bU (zAD.mp sa).1)]
    exact q)⟩
 ·obtain ⟨k1, ⟨k2, k3⟩, k4⟩ := r.kn j b (hO j b h).2
  refine ⟨k1, ⟨k2, fun z => z.elim k3 fun z => ?_⟩, k4⟩
  subst z
  exact (hO j b h).1 (r.inj j i b (hO j b h).2 oa)
 ·rcases h with h | h
  ·exact r.st b h
  ·subst h; exact ⟨_, ha⟩
 ·rcases z with z | ⟨j, z⟩ | ⟨_, z⟩
  ·exact .inl z
  ·by_cases hj : j = i
   ·subst hj
    rw [oa] at z
    cases z
    exact .inr (.inr ⟨rfl, .inr rfl⟩)
   ·exact .inr (.inl ⟨j, by show (if j = i then none else W.O j) = _; rw [if_neg hj]; exact z⟩)
  ·exact .inr (.inr ⟨rfl, .inl z⟩)
variable {e : Expr} {te : DE} {tt : DT} {ta : DA}
def pV (i : Nat) (t : DE) : DE := fun ρ Q => ∃ ds, ρ[i]? = some (some (.own ds)) /\ t (ρ.set i (some (.val (.lst false ds)))) fun d => cE d = true /\ Q d
def jc (i : Nat) (t : DT) : DT := fun ρ Q => ∃ ds, ρ[i]? = some (some (.own ds)) /\ t (ρ.set i (some (.val (.lst false ds)))) Q
def mI (i : Nat) (t : DA) : DA := fun ρ Q => ∃ ds, ρ[i]? = some (some (.own ds)) /\ t (ρ.set i (some (.val (.lst false ds)))) fun ys => cL ys = true /\ Q ys
theorem kB (i : Nat) (h : PTD X e tt) : PTD X e (jc i tt) := by
 intro pins s σ H W ρ Q I r hw
 obtain ⟨ds, eo, hw⟩ := hw
 obtain ⟨a, oa, r', up⟩ := r.soft eo
 exact h pins s σ H _ _ _ I r' hw
end
section
variable {X : Cx} {pos : Pos}
theorem ae.set {K : PySem.W.Frag} {P : Bool -> Addr -> Prop} {H : Hp} {d : D} {v : V} (hd : Den K P H d v) : ∀ {ds : List D} {vs : List V} (j : Nat), ae K P H ds vs -> ae K P H (ds.set j d) (vs.set j v)
 | [], _, _, h => by simp only [ae] at h; subst h; exact ae.nil
 | x :: r, _, 0, h => by
  simp only [ae] at h
  obtain ⟨u, w, rfl, h1, h2⟩ := h
  exact ae.cons hd h2
 | x :: r, _, j + 1, h => by
  simp only [ae] at h
  obtain ⟨u, w, rfl, h1, h2⟩ := h
  exact ae.cons h1 (ae.set hd j h2)
theorem ae.take {K : PySem.W.Frag} {P : Bool -> Addr -> Prop} {H : Hp} : ∀ {ds : List D} {vs : List V} (n : Nat), ae K P H ds vs -> ae K P H (ds.take n) (vs.take n)
 | _, _, 0, _ => by simp only [List.take_zero]; exact ae.nil
 | [], _, _ + 1, h => by simp only [ae] at h; subst h; exact ae.nil
 | x :: r, _, n + 1, h => by
  simp only [ae] at h
  obtain ⟨u, w, rfl, h1, h2⟩ := h
  exact ae.cons h1 (ae.take n h2)
theorem ae.drop {K : PySem.W.Frag} {P : Bool -> Addr -> Prop} {H : Hp} : ∀ {ds : List D} {vs : List V} (n : Nat), ae K P H ds vs -> ae K P H (ds.drop n) (vs.drop n)
 | _, _, 0, h => by simpa only [List.drop_zero] using h
 | [], _, _ + 1, h => by simp only [ae] at h; subst h; exact ae.nil
 | x :: r, _, n + 1, h => by
  simp only [ae] at h
  obtain ⟨u, w, rfl, h1, h2⟩ := h
  exact ae.drop n h2
def mG (i : Nat) (tk te : DE) : DS := fun E ρ => ∃ ds, ρ[i]? = some (some (.own ds)) /\ te ρ fun d => tk ρ fun k => ∃ n j, k = .int n /\ ixN ds.length n = some j /\ E.nx (ρ.set i (some (.own (ds.set j d))))
end
end PD
namespace PD
open PySem PySem.Spec PyProof.Rows L2
section
variable {X : Cx} {pos : Pos}
def pR (i : Nat) (C : List D -> Prop) (f : List D -> List D) : DS := fun E ρ => ∃ ds, ρ[i]? = some (some (.own ds)) /\ C ds /\ E.nx (ρ.set i (some (.own (f ds))))
variable {e : Expr} {te : DE} {p : Pos}
def lS (te : DE) : DA := fun ρ Q => te ρ fun d => ∃ k ds, bj d = some (k, ds) /\ Q ds
theorem fA {K : PySem.W.Frag} {P : Bool -> Addr -> Prop} {H : Hp} {d : D} {v : V} {k : Bool} {ds : List D} (h : Den K P H d v) (e : bj d = some (k, ds)) : ∃ a vs, v = .ref a /\ (SqL K H a vs ∨ SqT K H a vs) /\ ae K P H ds vs := by
 cases d with
 | lst t es =>
  cases e
  obtain ⟨a, vs, e1, p, q, hd⟩ := h.lst_
  exact ⟨a, vs, e1, .inl q, hd⟩
 | tup es =>
  cases e
  obtain ⟨a, vs, e1, q, hd⟩ := h.tup_
  exact ⟨a, vs, e1, .inr q, hd⟩
 | non => cases e
 | bl _ => cases e
 | int _ => cases e
 | str _ => cases e
 | exc _ => cases e
 | obj _ _ _ => cases e
 | dic => cases e
theorem qx (hg : Gl X "list") (hm : X.mg "list" = none) (he : PED X e te) (hst : starEach [e] X.env = (false, eval e X.env) :: starEach [] X.env := by rfl) (hpl : (backTo pos (starEach [] X.env)).any (·.1) = false := by rfl) : PEF X (.Call (.Name "list" p) [e] [] pos) (lS te) := by
 refine PEF.of (nQ i4 hg hm boot_list (bD he.pe dm hst) (by decide) (by decide) hst hpl) (fun σ H W ρ Q r h => ?_) fun _ _ _ _ _ _ I h => Inv.kno I h
 refine ⟨W, ρ, _, r, h, fun v H' d e1 hd q => ?_⟩
 obtain ⟨k, ds, es, q⟩ := q
 obtain ⟨a, vs, ev, hq, hds⟩ := fA hd es
 subst ev
 exact ⟨a, vs, rfl, hq.imp id SqT.w, fun l hl => ⟨l, vs, ds, H', rfl, e1, hl, rfl, hds, q⟩⟩
theorem i5 : dD X (.type "tuple") (fun ds Q => ∃ d k xs, ds = [d] /\ bj d = some (k, xs) /\ Q (.tup xs)) := dD.of iL fun P H ds vs Q tr hd ⟨d, k, xs, e, es, q⟩ => by
 subst e
 obtain ⟨v, rfl, h1⟩ := iQ hd
 obtain ⟨a, ws, ev, hq, hw⟩ := fA h1 es
 subst ev
 refine ⟨a, ws, rfl, ?_⟩
 rcases hq with hq | hq
 ·exact .inl ⟨hq, fun l hl => ⟨af.upd hl, _, Den.tup (SqT.of aw) (hw.same (af.upd hl)), q⟩⟩
 ·exact .inr ⟨hq.w, af.refl H, _, Den.tup hq hw, q⟩
def cutD (xs : List D) (lo hi : Option Int) : List D := (xs.drop (HT.sIx xs.length 0 lo)).take (HT.sIx xs.length xs.length hi - HT.sIx xs.length 0 lo)
theorem ae.cut {K : PySem.W.Frag} {P : Bool -> Addr -> Prop} {H : Hp} {ds : List D} {vs : List V} (lo hi : Option Int) (h : ae K P H ds vs) : ae K P H (cutD ds lo hi) (gM vs lo hi) := by
 unfold cutD gM
 rw [h.len]
 exact (h.drop _).take _
abbrev DO := Ro -> (Option Int -> Prop) -> Prop
def PDO (X : Cx) (e : Option Expr) (t : DO) : Prop :=
 ∀ (pins : List (Addr × Obj)) (s : Shared) (σ : St) (H : Hp) (W : Own) (ρ : Ro) (Q : Option Int -> Prop), Inv X pins σ H s -> Rel X W H σ ρ -> t ρ Q →
  wpAny (model X.prog X.w) X.A (evalPart e X.env) (fun u s' => ∃ o H', Inv X pins σ H' s' /\ IsPart u o /\ af H H' /\ Q o) X.xe s
def eA : DO := fun _ Q => Q none
def lP (te : DE) : DO := fun ρ Q => te ρ fun d => ∃ i, d = .int i /\ Q (some i)
theorem fP : PDO X none eA := by
 intro pins s σ H W ρ Q I r h
 rw [evalPart_none]
 exact wpAny_pure ⟨none, H, I, .none, af.refl H, h⟩
theorem eE (he : PED X e te) : PDO X (some e) (lP te) := by
 intro pins s σ H W ρ Q I r h
 rw [evalPart_some]
 refine thn (he pins s σ H W ρ _ I r h) fun u s1 ⟨v, H1, d, I1, rv, e1, hd, i, ed, q⟩ => ?_
 subst ed
 have z := hd.int_
 subst z
 obtain ⟨t, rfl⟩ := rv
 exact ⟨some i, H1, I1, .int i t, e1, q⟩
variable {lo hi st : Option Expr} {tl th ts : DO} {p2 : Pos}
theorem pF {Q : Value -> Shared -> Prop} {pins : List (Addr × Obj)} {s : Shared} {σ : St} {H : Hp} {W : Own} {ρ : Ro} {R : D -> Option Int -> Option Int -> Option Int -> Prop} (he : PED X e te) (hl : PDO X lo tl) (hh : PDO X hi th) (ht : PDO X st ts) (I : Inv X pins σ H s) (r : Rel X W H σ ρ)
  (h : te ρ fun d => tl ρ fun l => th ρ fun u => ts ρ fun k => R d l u k)
  (hk : ∀ (v : V) (vv vl vu vk : Value) (l u k : Option Int) (d : D) (sl : Addr) (H' : Hp) (s' : Shared), Inv X pins σ H' s' -> af H H' -> RelV v vv -> Den X.K W.bad H' d v -> s'.heap.IsSliceOf sl vl vu vk -> IsPart vl l -> IsPart vu u -> IsPart vk k -> R d l u k →
   ∃ T id, typeLookup (.type T) "__getitem__" = pure (some (.builtin id)) /\ s'.TypeIs vv T /\ wpAny (model X.prog X.w) X.A (getItem vv (.ref sl)) Q X.xe s')
  (htail : ∀ vv sl, ∃ ops, subscripted (.Slice lo hi st p2) false vv sl = operate ops (getItem vv sl)) : wpAny (model X.prog X.w) X.A (eval (.Subscript e (.Slice lo hi st p2) pos) X.env) Q X.xe s := by
 refine Subscript_ (thn (he pins s σ H W ρ _ I r h) fun vv s1 ⟨v, H1, d, I1, rv, e1, hd, q1⟩ => ?_)
 have r1 := r.same e1
 refine wpAny_Slice (thn (hl pins s1 σ H1 W ρ _ I1 r1 q1) fun vl s2 ⟨l, H2, I2, pl, e2, q2⟩ => thn (hh pins s2 σ H2 W ρ _ I2 (r1.same e2) q2) fun vu s3 ⟨u, H3, I3, pu, e3, q3⟩ => thn (ht pins s3 σ H3 W ρ _ I3 ((r1.same e2).same e3) q3) fun vk s4 ⟨k, H4, I4, pk, e4, q4⟩ => ?_)
 have I5 : Inv X pins σ H4 { s4 with heap := s4.heap.push { cls := .type "slice", data := .fields #[vl, vu, vk] } } := I4.kept (t' := s4.toks) fun b ob q => zAB _ q
 obtain ⟨T, id, hT, ht', hg⟩ := hk v vv vl vu vk l u k d s4.heap.objs.size H4 _ I5 (e1.trans (e2.trans (e3.trans e4))) rv (hd.same (e2.trans (e3.trans e4))) (Heap.IsSliceOf.new ..) pl pu pk q4
 show wpAny (model X.prog X.w) X.A (subscriptTail e (.Slice lo hi st p2) vv (.ref s4.heap.objs.size)) Q X.xe _
 obtain ⟨ops, ho⟩ := htail vv (.ref s4.heap.objs.size)
 exact tail_any (ops := ops) ht' hT hg ho
def oR (te : DE) (tl th : DO) : DA := fun ρ Q => te ρ fun d => tl ρ fun l => th ρ fun u => ∃ t ds, d = .lst t ds /\ Q (cutD ds l u)
def rD (te : DE) (tl th : DO) : DE := fun ρ Q => te ρ fun d => tl ρ fun l => th ρ fun u => ∃ ds, d = .tup ds /\ ¬ (HT.sIx ds.length 0 l = 0 /\ HT.sIx ds.length ds.length u = ds.length) /\ Q (.tup (cutD ds l u))
theorem j0 {pins : List (Addr × Obj)} {s : Shared} {σ : St} {H H' : Hp} {W : Own} {v : V} {vv vl vu vk : Value} {l u k : Option Int} {tg : Bool} {ds : List D} {sl : Addr} (f : List V -> List V) (g : List D -> List D) (I : Inv X pins σ H' s) (r : Rel X W H' σ ρ) (sm : af H H') (rv : RelV v vv) (hd : Den X.K W.bad H' (.lst tg ds) v) (hs : s.heap.IsSliceOf sl vl vu vk) (pl : IsPart vl l) (pu : IsPart vu u) (pk : IsPart vk k) (k0 : k ≠ some 0)
  (hp : ∀ its : List Value, ∃ g' : List Value -> List Value, slicePick its.toArray l u k = (g' its).toArray /\ ∀ vs, Vals vs its -> Vals (f vs) (g' its) /\ (f vs).length <= vs.length) (hg : ∀ vs, ae X.K W.bad H' ds vs -> ae X.K W.bad H' (g ds) (f vs)) {Q : List D -> Prop} (q : Q (g ds)) :
  ∃ T id, typeLookup (.type T) "__getitem__" = pure (some (.builtin id)) /\ s.TypeIs vv T /\ wpAny (model X.prog X.w) X.A (getItem vv (.ref sl)) (fun uu s' => ∃ a vs H'' ds, uu = .ref a /\ Inv X pins σ H'' s' /\ af H H'' /\ H a = none /\ X.K.lookup a = none /\ H'' a = some (.lst vs) /\ ae X.K (fun t b => W.bad t b ∨ b = a) H'' ds vs /\ Q ds) X.xe s := by
 obtain ⟨a, vs, ev, _, hq, hds⟩ := hd.lst_
 subst ev
 cases rv
 obtain ⟨its, rr, ht, hz⟩ := I.list hq
 have hlen := rr.length
 refine ⟨"list", _, slot_list_getitem.lookup, ht.isList.typeIs, ?_⟩
 refine wpAny_getItem_list_slice ht.isList hs pl pu pk k0 ?_ (by rw [zAO] <;> omega)
 obtain ⟨g', e, hv⟩ := hp its
 rw [e]
 obtain ⟨rv', hl'⟩ := hv vs rr
 have hf : H' s.heap.objs.size = none := I.hok.fresh (zAH _)
 refine ⟨s.heap.objs.size, f vs, _, g ds, rfl, I.laid (t' := s.toks) (o := .lst (f vs)) (fun b ob q => zAB _ q) (zAH _) ⟨zAa hl' hz, _, 0, rv', zAJ _ rfl⟩, sm.trans (af.upd hf), sm.free hf, Inv.kfresh I, aw, ae.apart hf (Inv.kfresh I) (hg vs hds), q⟩
theorem eR (he : PED X e te) (hl : PDO X lo tl) (hh : PDO X hi th) : PEF X (.Subscript e (.Slice lo hi none p2) pos) (oR te tl th) := by
 intro pins s σ H W ρ Q I r h
 refine pF (st := none) (ts := eA) (R := fun d l u k => k = none /\ ∃ t ds, d = .lst t ds /\ Q (cutD ds l u)) he hl hh fP I r ?_ ?_ (fun _ _ => ⟨_, rfl⟩)
 ·have e1 : (fun d => tl ρ fun l => th ρ fun u => eA ρ fun k => k = none /\ ∃ t ds, d = D.lst t ds /\ Q (cutD ds l u)) = fun d => tl ρ fun l => th ρ fun u => ∃ t ds, d = D.lst t ds /\ Q (cutD ds l u) := by
   funext d
   congr 1
   funext l
   congr 1
   funext u
   exact propext ⟨fun z => z.2, fun z => ⟨rfl, z⟩⟩
  rw [e1]
  exact h
 ·intro v vv vl vu vk l u k d sl H' s' I' sm rv hd hs pl pu pk hR
  obtain ⟨ek, t, ds, ed, q⟩ := hR
  subst ek ed
  exact j0 (fun vs => gM vs l u) (fun ds => cutD ds l u) I' (r.same sm) sm rv hd hs pl pu pk (by simp) (fun its => ⟨fun its => (its.drop (HT.sIx its.length 0 l)).take (HT.sIx its.length its.length u - HT.sIx its.length 0 l), iN its l u, fun vs rr => ⟨by unfold gM; rw [rr.length]; exact (rr.drop _).take _, jY vs l u⟩⟩) (fun vs hds => hds.cut l u) q
def rC (te : DE) : DA := fun ρ Q => te ρ fun d => ∃ t ds, d = .lst t ds /\ Q ds.reverse
end
end PD
namespace PD
open PySem PySem.Spec PyProof.Rows L2
section
variable {prog : Program} {w : World} {A : Around} {E : Value -> Shared -> Prop} {s : Shared} {p q : Addr} {us ws : List Value} {Q : Value -> Shared -> Prop}
theorem t6 (hp : s.heap.IsList p us.toArray) (hq : s.heap.IsList q ws.toArray) (hz : us.length + ws.length <= sizeLine)
  (h : Q (.ref s.heap.objs.size) { s with heap := s.heap.push { cls := .type "list", data := .seq (us ++ ws).toArray } }) : wpAny (model prog w) A (binaryOp .Add (.ref p) (.ref q)) Q E s := by
 obtain ⟨⟨c1, k1, x1, y1⟩, g1, g2, n1, g3⟩ := id hp
 obtain ⟨⟨c2, k2, x2, y2⟩, f1, f2, n2, f3⟩ := id hq
 simp only at g2 g3 f2 f3
 subst g2 g3 f2 f3
 refine concat_meets ⟨_, g1, rfl⟩ ⟨_, f1, rfl⟩ noFill_list_add seq_list_add PySem.F.slot_list_add PySem.F.entry_list_add (PySem.F.args_list_add_2 _ _) (list_addW p q us.toArray ws.toArray n1 n2 k1 k2 y1 y2 (by simpa using hz)) ⟨g1, f1, ?_⟩
 rw [show us.toArray ++ ws.toArray = (us ++ ws).toArray by simp]
 exact h
theorem t8 (hp : IsTup s.heap p us.toArray) (hq : IsTup s.heap q ws.toArray) (hz : us.length + ws.length <= sizeLine) (h0 : us = [] -> Q (.ref q) s) (h1 : ws = [] -> Q (.ref p) s)
  (h : Q (.ref s.heap.objs.size) { s with heap := s.heap.push { cls := .type "tuple", data := .seq (us ++ ws).toArray } }) : wpAny (model prog w) A (binaryOp .Add (.ref p) (.ref q)) Q E s := by
 obtain ⟨⟨c1, k1, x1, y1⟩, g1, g2, n1, g3⟩ := id hp
 obtain ⟨⟨c2, k2, x2, y2⟩, f1, f2, n2, f3⟩ := id hq
 simp only at g2 g3 f2 f3
 subst g2 g3 f2 f3
 by_cases hv : us = []
 ·exact concat_meets ⟨_, g1, rfl⟩ ⟨_, f1, rfl⟩ noFill_tuple_add seq_tuple_add PySem.F.slot_tuple_add PySem.F.entry_tuple_add (PySem.F.args_tuple_add_2 _ _) (tuple_addW0 p q us.toArray ws.toArray n1 n2 k1 k2 y1 y2 (by simp [hv])) ⟨g1, f1, h0 hv⟩
 ·by_cases hw : ws = []
  ·exact concat_meets ⟨_, g1, rfl⟩ ⟨_, f1, rfl⟩ noFill_tuple_add seq_tuple_add PySem.F.slot_tuple_add PySem.F.entry_tuple_add (PySem.F.args_tuple_add_2 _ _) (tuple_addW1 p q us.toArray ws.toArray n1 n2 k1 k2 y1 y2 (by simpa using hv) (by simp [hw])) ⟨g1, f1, h1 hw⟩
  ·refine concat_meets ⟨_, g1, rfl⟩ ⟨_, f1, rfl⟩ noFill_tuple_add seq_tuple_add PySem.F.slot_tuple_add PySem.F.entry_tuple_add (PySem.F.args_tuple_add_2 _ _) (tuple_addW2 p q us.toArray ws.toArray n1 n2 k1 k2 y1 y2 (by simpa using hv) (by simpa using hw) (by simpa using hz)) ⟨g1, f1, ?_⟩
   rw [show us.toArray ++ ws.toArray = (us ++ ws).toArray by simp]
   exact h
end
section
variable {X : Cx} {pos : Pos}
def iS : RD2 := fun x y Q => match x, y with
 | .int i, .int j => Q (.int (i + j))
 | .tup xs, .tup ys => xs.length + ys.length <= sizeLine /\ Q (.tup (xs ++ ys))
 | .lst _ xs, .lst _ ys => xs.length + ys.length <= sizeLine /\ Q (.lst true (xs ++ ys))
 | _, _ => False
theorem mm (i j : Int) (Q : D -> Prop) : iS (.int i) (.int j) Q = Q (.int (i + j)) := rfl
theorem mq (xs ys : List D) (Q : D -> Prop) : iS (.tup xs) (.tup ys) Q = (xs.length + ys.length <= sizeLine /\ Q (.tup (xs ++ ys))) := rfl
theorem mn (t u : Bool) (xs ys : List D) (Q : D -> Prop) : iS (.lst t xs) (.lst u ys) Q = (xs.length + ys.length <= sizeLine /\ Q (.lst true (xs ++ ys))) := rfl
theorem qM {W : Own} {H : Hp} {t : Bool} {a : Addr} (tr : ∀ t a, W.bad t a -> ∃ o, H a = some o) (h : H a = none) : ¬ W.bad t a := fun z => by
 obtain ⟨o, q⟩ := tr _ _ z
 rw [h] at q
 cases q
theorem aQ : OpD X (binaryOp .Add) iS := by
 intro pins s σ H W x y v u vv uu Q I tr rv ru hx hy q
 cases x <;> cases y <;> first | exact q.elim | skip
 ·exact rZ pins s σ H W _ _ v u vv uu Q I tr rv ru hx hy ⟨_, _, rfl, rfl, q⟩
 ·rename_i xs ys
  obtain ⟨p, vs, e1, hq1, hd1⟩ := hx.tup_
  obtain ⟨p', vs', e2, hq2, hd2⟩ := hy.tup_
  subst e1 e2
  cases rv
  cases ru
  obtain ⟨its, r1, t1, _⟩ := I.tuple hq1.w
  obtain ⟨its', r2, t2, _⟩ := I.tuple hq2.w
  obtain ⟨hz, q⟩ := q
  have l1 := hd1.len
  have l2 := hd2.len
  have m1 := r1.length
  have m2 := r2.length
  have hz' : its.length + its'.length <= sizeLine := by omega
  have hf : H s.heap.objs.size = none := I.hok.fresh (zAH _)
  refine t8 t1 t2 hz' (fun e => ?_) (fun e => ?_) ?_
  ·subst e
   have : vs = [] := zAr (by simpa using m1)
   subst this
   have : xs = [] := zAr (by simpa using l1.symm)
   subst this
   exact ⟨.ref p', H, _, I, rfl, af.refl H, hy, q⟩
  ·subst e
   have : vs' = [] := zAr (by simpa using m2)
   subst this
   have : ys = [] := zAr (by simpa using l2.symm)
   subst this
   rw [zAk] at q
   exact ⟨.ref p, H, _, I, rfl, af.refl H, hx, q⟩
  ·exact ⟨.ref s.heap.objs.size, L2.upd H s.heap.objs.size (.tup (vs ++ vs')), _, I.laid (t' := s.toks) (fun b u e => zAB _ e) (zAH _) ⟨by rw [zAQ]; omega, its ++ its', r1.append r2, ⟨_, zAJ _ rfl, rfl, _, rfl⟩⟩, rfl, af.upd hf, Den.tup (SqT.of aw) ((hd1.append hd2).same (af.upd hf)), q⟩
 ·obtain ⟨p, vs, e1, _, hq1, hd1⟩ := hx.lst_
  obtain ⟨p', vs', e2, _, hq2, hd2⟩ := hy.lst_
  subst e1 e2
  cases rv
  cases ru
  obtain ⟨its, r1, t1, _⟩ := I.list hq1
  obtain ⟨its', r2, t2, _⟩ := I.list hq2
  obtain ⟨hz, q⟩ := q
  have l1 := hd1.len
  have l2 := hd2.len
  have m1 := r1.length
  have m2 := r2.length
  have hf : H s.heap.objs.size = none := I.hok.fresh (zAH _)
  refine t6 t1.isList t2.isList (by omega) ?_
  exact ⟨.ref s.heap.objs.size, L2.upd H s.heap.objs.size (.lst (vs ++ vs')), _, I.laid (t' := s.toks) (fun b u e => zAB _ e) (zAH _) ⟨by rw [zAQ]; omega, its ++ its', 0, r1.append r2, zAJ _ rfl⟩, rfl, af.upd hf, Den.lst (qM tr hf) (.new aw (Inv.kfresh I)) ((hd1.append hd2).same (af.upd hf)), q⟩
def okI (x : D) : Prop := okD x /\ (pyD x).depth < 64
def sH : RD2 := fun x y Q => okI x /\ okD y /\ ∃ ys, (y = .tup ys ∨ ∃ t, y = .lst t ys) /\ Q (.bl (ys.any fun z => eqD z x))
theorem nr (x : D) (t : Bool) (ys : List D) (Q : D -> Prop) : sH x (.lst t ys) Q = (okI x /\ okD (.lst t ys) /\ Q (.bl (ys.any fun z => eqD z x))) := by
 apply propext
 constructor
 ·rintro ⟨h1, h2, zs, e, q⟩
  rcases e with e | ⟨_, e⟩
  ·cases e
  ·cases e; exact ⟨h1, h2, q⟩
 ·rintro ⟨h1, h2, q⟩
  exact ⟨h1, h2, ys, .inr ⟨t, rfl⟩, q⟩
theorem nu (x : D) (ys : List D) (Q : D -> Prop) : sH x (.tup ys) Q = (okI x /\ okD (.tup ys) /\ Q (.bl (ys.any fun z => eqD z x))) := by
 apply propext
 constructor
 ·rintro ⟨h1, h2, zs, e, q⟩
  rcases e with e | ⟨_, e⟩
  ·cases e; exact ⟨h1, h2, q⟩
  ·cases e
 ·rintro ⟨h1, h2, q⟩
  exact ⟨h1, h2, ys, .inl rfl, q⟩
theorem k6 (i : Int) : okI (.int i) = True := eq_true ⟨kX i, by rw [pyD, PyData.depth]; decide⟩
theorem k7 : okI .non = True := eq_true ⟨kY, by rw [pyD, PyData.depth]; decide⟩
end
def PKD (X : Cx) (kws : List Keyword) (t : DA) : Prop :=
 ∀ (pos : Pos) (pins : List (Addr × Obj)) (s : Shared) (σ : St) (H : Hp) (W : Own) (ρ : Ro) (Q : List D -> Prop), Inv X pins σ H s -> Rel X W H σ ρ -> t ρ Q →
  wpAny (model X.prog X.w) X.A (evalAll ((backToKw pos (keywordEach kws X.env)).map (·.2))) (DAP X pins σ W H Q) X.xe s
section
variable {X : Cx} {k : Nat} {ps : List Str} {kn : Str} {sp : DSp} {x : Str} {p pos kpos : Pos} {e : Expr} {es : List Expr} {t tk : DA} {te : DE} {nm : Option Str} {kws : List Keyword}
def mz (sp : DSp) (t tk : DA) : DE := fun ρ Q => t ρ fun ds => tk ρ fun es => ∃ d, es = [d] /\ sp (ay (ds ++ [d])) Q fun _ => False
theorem mV (a : D) (R : D -> Prop) : (∃ d, [a] = [d] /\ R d) = R a := by
 apply propext
 constructor
 ·rintro ⟨_, e, q⟩; cases e; exact q
 ·intro q; exact ⟨a, rfl, q⟩
def i9 (sp : DSp) (t : DA) : DA := fun ρ Q => t ρ fun ds => sp (ay ds) (fun d => ∃ ys, d = .lst true ys /\ bX ys = true /\ Q ys) fun _ => False
theorem qw (h : Has X.prog X.w X.K X.mg X.base x k ps sp) (hr : aH k X.A) (ha : PAD X (e :: es) t) (hg : Gl X x := by rfl) (hdb : (x == ("__debug__" : Str)) = false := by decide)
  (he : starEach (e :: es) X.env = (false, eval e X.env) :: starEach es X.env := by rfl) (hpl : (backTo pos (starEach es X.env)).any (·.1) = false := by rfl) : PEF X (.Call (.Name x p) (e :: es) [] pos) (i9 sp t) := by
 obtain ⟨f, fd, F, hm, hk, hb⟩ := h
 intro pins s σ H W ρ Q I rr h
 refine wpAny_Call_Name_kw (ck I hg hm ?_ hdb)
 refine PySem.W.callWith_K (h₀ := X.base) I.ok.mod.kin hk (thn (ha pos pins s σ H W ρ _ I rr h) fun us s1 ⟨vs, H1, ds, I1, r, e1, hds, q⟩ => ⟨I1.kIn, ?_⟩) he hpl
 have rr1 := rr.same e1
 refine thn (jM (us := us) (ds := []) (dvs := []) (Q := fun v H' => af H1 H' /\ ∃ ys, Den X.K (fun t a => W.bad false a ∨ (t = true /\ ∃ o, H1 a = some o)) H' (.lst true ys) v /\ bX ys = true /\ Q ys) F hr hb .nil mh I1 r
  ⟨W.bad false, ay ds, _, fun _ => False, rr1.tab, rr1.tracked false, by rw [zAk]; exact ae.av (fun _ _ => Own.bad_up) ds vs hds, q, fun d v H' e h1 h2 => ?_, fun _ _ _ _ z => z.elim⟩) fun u s2 ⟨v, H2, I2, r2, e2, ys, hd, nl, qy⟩ => ?_
 ·obtain ⟨ys, rfl, nl, qy⟩ := h2
  exact ⟨e, ys, h1, nl, qy⟩
 ·obtain ⟨a, ws, ev, np, sq, hw⟩ := hd.lstG_
  subst ev
  cases r2
  have hn : H1 a = none := by
   cases z : H1 a with
   | none => rfl
   | some o => exact absurd (.inr ⟨rfl, o, z⟩) np
  exact ⟨a, ws, H2, ys, rfl, I2, e1.trans e2, e1.free hn, (sq.2 rfl).2, (sq.2 rfl).1, ae.nol ys ws nl hw, qy⟩
end
end PD
namespace PD
open PySem PySem.Spec PyProof.Rows L2
def cG : Key -> D
 | .inl i => .int i
 | .inr x => .str x
section
variable {κ : Type} [DecidableEq κ] {K : PySem.W.Frag} {P : Bool -> Addr -> Prop} {H : Hp}
def gG (kvs : List (κ × D)) (k : κ) : Option D := (kvs.find? fun kv => decide (kv.1 = k)).map (·.2)
def putD (kvs : List (κ × D)) (k : κ) (d : D) : List (κ × D) := if (gG kvs k).isSome = true then kvs.map (fun kv => if kv.1 = k then (kv.1, d) else kv) else kvs ++ [(k, d)]
end
theorem qv {K : PySem.W.Frag} {P : Bool -> Addr -> Prop} {H : Hp} {k : Key} {v : V} (h : Den K P H (cG k) v) : v = kV k := by
 cases k with
 | inl i => exact h.int_
 | inr x => exact h.str_
theorem fz {K : PySem.W.Frag} {P : Bool -> Addr -> Prop} {H : Hp} : ∀ {ks : List Key} {vs : List V}, ae K P H (ks.map cG) vs -> vs = ks.map kV
 | [], _, h => by simpa only [zAw, ae] using h
 | k :: r, _, h => by
  simp only [zAK, ae] at h
  obtain ⟨v, u, e, h1, h2⟩ := h
  rw [e, qv h1, fz h2]
  rfl
theorem jH : ∀ (ks : List Key) (ps : List (V × V)), ps.map (·.1) = ks.map kV -> ps = (ks.zip (ps.map (·.2))).map fun kv => (kV kv.1, kv.2)
 | [], ps, e => by
  have : ps = [] := by simpa using e
  subst this; rfl
 | k :: r, [], e => by simp at e
 | k :: r, p :: q, e => by
  simp only [zAK, zAP] at e
  rw [zAK, List.zip_cons_cons, zAK, <- jH r q e.2, <- e.1]
def PPD (X : Cx) (pos : Pos) (keys : List (Option Expr)) (values : List Expr) (t : Ro -> (List (D × D) -> Prop) -> Prop) : Prop :=
 ∀ (pins : List (Addr × Obj)) (s : Shared) (σ : St) (H : Hp) (W : Own) (ρ : Ro) (Q : List (D × D) -> Prop), Inv X pins σ H s -> Rel X W H σ ρ -> t ρ Q →
  wpAny (model X.prog X.w) X.A (evalPairs (pairTrees keys values X.env pos)) (fun vs s' => ∃ ps H' ds, Inv X pins σ H' s' /\ VV ps vs /\ af H H' /\ ae X.K W.bad H' (ds.map (·.1)) (ps.map (·.1)) /\ ae X.K W.bad H' (ds.map (·.2)) (ps.map (·.2)) /\ Q ds) X.xe s
section
variable {X : Cx} {pos : Pos}
def lX : Ro -> (List (D × D) -> Prop) -> Prop := fun _ Q => Q []
def je (tk tv : DE) (t : Ro -> (List (D × D) -> Prop) -> Prop) : Ro -> (List (D × D) -> Prop) -> Prop := fun ρ Q => tk ρ fun k => tv ρ fun v => t ρ fun r => Q ((k, v) :: r)
theorem rE : PPD X pos [] [] lX := fun pins s σ H W ρ Q I r h => pairTrees_nil_walk ⟨[], H, [], I, .nil, af.refl H, ae.nil, ae.nil, h⟩
theorem fQ {k v : Expr} {ks : List (Option Expr)} {vs : List Expr} {tk tv : DE} {t : Ro -> (List (D × D) -> Prop) -> Prop} (hk : PED X k tk) (hv : PED X v tv) (hr : PPD X pos ks vs t) : PPD X pos (some k :: ks) (v :: vs) (je tk tv t) := by
 intro pins s σ H W ρ Q I r h
 refine pairTrees_cons_walk (thn (hk pins s σ H W ρ _ I r h) fun u s1 ⟨x, H1, dx, I1, rx, e1, hx, q1⟩ => thn (hv pins s1 σ H1 W ρ _ I1 (r.same e1) q1) fun w2 s2 ⟨y, H2, dy, I2, ry, e2, hy, q2⟩ =>
  thn (hr pins s2 σ H2 W ρ _ I2 ((r.same e1).same e2) q2) fun ws s3 ⟨ps, H3, ds, I3, rel, e3, h1, h2, q3⟩ => ?_)
 exact ⟨(x, y) :: ps, H3, (dx, dy) :: ds, I3, .cons ⟨rx, ry⟩ rel, e1.trans (e2.trans e3), ae.cons (hx.same (e2.trans e3)) h1, ae.cons (hy.same e3) h2, q3⟩
def mD (i : Nat) (t : Ro -> (List (D × D) -> Prop) -> Prop) : DS := fun E ρ => t ρ fun ps => ∃ kvs : List (Key × D), ps = kvs.map (fun kv => (cG kv.1, kv.2)) /\ kvs.length <= 15 /\ (kvs.map (·.1)).Nodup /\ E.nx (ρ.set i (some (.ob (.dk kvs))))
def rz (i : Nat) (tb : DE) : DE := fun ρ Q => ∃ kvs, ρ[i]? = some (some (.ob (.dk kvs))) /\ tb ρ fun k => ∃ key d, k = cG key /\ gG kvs key = some d /\ Q d
def pN (i : Nat) (tk te : DE) : DS := fun E ρ => ∃ kvs, ρ[i]? = some (some (.ob (.dk kvs))) /\ tk ρ fun k => ∃ key n, k = cG key /\ gG kvs key = some (.int n) /\ te ρ fun d => ∃ m, d = .int m /\ kvs.length < sizeLine /\ E.nx (ρ.set i (some (.ob (.dk (putD kvs key (.int (n + m)))))))
end
end PD
namespace PD
open PySem PySem.Spec PyProof.Rows L2
theorem m5 (kvs : List (Key × D)) (r : Ro) (R : List (Key × D) -> Prop) : (∃ ys, (some (Sl.ob (.dk kvs)) :: r)[0]? = some (some (Sl.ob (.dk ys))) /\ R ys) = R kvs := by
 apply propext
 constructor
 ·rintro ⟨_, e, q⟩
  have e' : some (some (Sl.ob (.dk kvs))) = some (some (Sl.ob (.dk _))) := e
  cases e'
  exact q
 ·intro q; exact ⟨kvs, rfl, q⟩
theorem m6 (n : Nat) (x : Option Sl) (r : Ro) (R : List (Key × D) -> Prop) : (∃ ys, (x :: r)[n + 1]? = some (some (Sl.ob (.dk ys))) /\ R ys) = (∃ ys, r[n]? = some (some (Sl.ob (.dk ys))) /\ R ys) := rfl
theorem lx (t : Bool) (xs : List D) (R : List D -> Prop) : (∃ k ds, bj (.lst t xs) = some (k, ds) /\ R ds) = R xs := by
 apply propext
 constructor
 ·rintro ⟨_, _, e, q⟩; cases e; exact q
 ·intro q; exact ⟨_, _, rfl, q⟩
theorem ly (xs : List D) (R : List D -> Prop) : (∃ k ds, bj (.tup xs) = some (k, ds) /\ R ds) = R xs := by
 apply propext
 constructor
 ·rintro ⟨_, _, e, q⟩; cases e; exact q
 ·intro q; exact ⟨_, _, rfl, q⟩
theorem fW {a b : D} {k1 k2 : Bool} {xs ys : List D} (h1 : bj a = some (k1, xs)) (h2 : bj b = some (k2, ys)) (R : List D -> Prop) : (∃ d1 d2 k1 k2 us vs, [a, b] = [d1, d2] /\ bj d1 = some (k1, us) /\ bj d2 = some (k2, vs) /\ R (List.zipWith (fun x y => D.tup [x, y]) us vs)) = R (List.zipWith (fun x y => D.tup [x, y]) xs ys) := by
 apply propext
 constructor
 ·rintro ⟨_, _, _, _, _, _, e, e1, e2, q⟩
  cases e
  rw [h1] at e1
  rw [h2] at e2
  cases e1
  cases e2
  exact q
 ·intro q; exact ⟨_, _, _, _, _, _, rfl, h1, h2, q⟩
theorem og (t u : Bool) (xs ys : List D) (R : List D -> Prop) : (∃ d1 d2 k1 k2 us vs, [D.lst t xs, D.lst u ys] = [d1, d2] /\ bj d1 = some (k1, us) /\ bj d2 = some (k2, vs) /\ R (List.zipWith (fun x y => D.tup [x, y]) us vs)) = R (List.zipWith (fun x y => D.tup [x, y]) xs ys) := fW rfl rfl R
theorem om (u : Bool) (xs ys : List D) (R : List D -> Prop) : (∃ d1 d2 k1 k2 us vs, [D.tup xs, D.lst u ys] = [d1, d2] /\ bj d1 = some (k1, us) /\ bj d2 = some (k2, vs) /\ R (List.zipWith (fun x y => D.tup [x, y]) us vs)) = R (List.zipWith (fun x y => D.tup [x, y]) xs ys) := fW rfl rfl R
theorem oh (u : Bool) (xs ys : List D) (R : List D -> Prop) : (∃ d1 d2 k1 k2 us vs, [D.lst u xs, D.tup ys] = [d1, d2] /\ bj d1 = some (k1, us) /\ bj d2 = some (k2, vs) /\ R (List.zipWith (fun x y => D.tup [x, y]) us vs)) = R (List.zipWith (fun x y => D.tup [x, y]) xs ys) := fW rfl rfl R
theorem oo (xs ys : List D) (R : List D -> Prop) : (∃ d1 d2 k1 k2 us vs, [D.tup xs, D.tup ys] = [d1, d2] /\ bj d1 = some (k1, us) /\ bj d2 = some (k2, vs) /\ R (List.zipWith (fun x y => D.tup [x, y]) us vs)) = R (List.zipWith (fun x y => D.tup [x, y]) xs ys) := fW rfl rfl R
theorem kh (b : Bool) : cE (.bl b) = true := by rw [cE] <;> (intros; contradiction)
theorem iW (b : Int) : cE (.int b) = true := by rw [cE] <;> (intros; contradiction)
theorem iX : cE .non = true := by rw [cE] <;> (intros; contradiction)
theorem iZ {ds : List D} {k : Int} {Q : D -> Prop} (h0 : 0 <= k) (h1 : k < ds.length) (h : ∀ d ∈ ds, Q d) : ∃ d, atI ds k = some d /\ Q d := by
 have e : k = ((k.toNat : Nat) : Int) := by omega
 have hl : k.toNat < ds.length := by omega
 refine ⟨ds[k.toNat], ?_, h _ (List.getElem_mem hl)⟩
 have q : atI ds ((k.toNat : Nat) : Int) = some ds[k.toNat] := cf (by simp)
 rw [<- e] at q
 exact q
end PD
namespace PD
open PySem PySem.Spec PyProof.Rows L2
structure OkN (n : Nat) (d : D) : Prop where
 pl : plD d = true
 lay : (pyD d).canLay0 = true
 dp : (pyD d).depth <= n
structure cV (n : Nat) (ds : List D) : Prop where
 pl : eV ds = true
 lay : PyData.canLayAll0 (bG ds) = true
 dp : PyData.depthAll (bG ds) <= n
theorem OkN.ok {n : Nat} {d : D} (h : OkN n d) (hn : n <= 64 := by decide) : okD d := ⟨h.pl, by
 unfold SeqAt.shaped
 rw [h.lay, decide_eq_true (zAa h.dp hn)]
 rfl⟩
theorem OkN.okI {n : Nat} {d : D} (h : OkN n d) (hn : n < 64 := by decide) : okI d := ⟨h.ok (Nat.le_of_lt hn), Nat.lt_of_le_of_lt h.dp hn⟩
theorem OkN.int (n : Nat) (i : Int) : OkN n (.int i) := ⟨by rw [plD] <;> (intros; contradiction), by rw [pyD, PyData.canLay0], by rw [pyD, PyData.depth]; exact zAZ _⟩
theorem OkN.bl (n : Nat) (i : Bool) : OkN n (.bl i) := ⟨by rw [plD] <;> (intros; contradiction), by rw [pyD, PyData.canLay0], by rw [pyD, PyData.depth]; exact zAZ _⟩
theorem OkN.non (n : Nat) : OkN n .non := ⟨by rw [plD] <;> (intros; contradiction), by rw [pyD, PyData.canLay0], by rw [pyD, PyData.depth]; exact zAZ _⟩
theorem cV.nil (n : Nat) : cV n [] := ⟨by rw [eV], by rw [bG, PyData.canLayAll0], by rw [bG, PyData.depthAll]; exact zAZ _⟩
theorem cV.cons {n : Nat} {d : D} {ds : List D} (h : OkN n d) (h' : cV n ds) : cV n (d :: ds) := ⟨by rw [eV, h.pl, h'.pl]; rfl, by rw [bG, PyData.canLayAll0, h.lay, h'.lay]; rfl, by
 rw [bG, PyData.depthAll]
 exact Nat.max_le.mpr ⟨h.dp, h'.dp⟩⟩
theorem cV.of {n : Nat} : ∀ {ds : List D}, (∀ d ∈ ds, OkN n d) -> cV n ds
 | [], _ => .nil n
 | d :: r, h => .cons (h d zAf) (cV.of fun x hx => h x (zAb _ hx))
theorem OkN.tup {n : Nat} {ds : List D} (h : cV n ds) : OkN (n + 1) (.tup ds) := ⟨by rw [plD]; exact h.pl, by rw [pyD, PyData.canLay0]; exact h.lay, by rw [pyD, PyData.depth]; exact Nat.succ_le_succ h.dp⟩
theorem OkN.lst {n : Nat} {t : Bool} {ds : List D} (h : cV n ds) : OkN (n + 1) (.lst t ds) := ⟨by rw [plD]; exact h.pl, by rw [pyD, PyData.canLay0]; exact h.lay, by rw [pyD, PyData.depth]; exact Nat.succ_le_succ h.dp⟩
theorem OkN.map {α : Type} {n : Nat} {t : Bool} {f : α -> D} {xs : List α} (h : ∀ x, OkN n (f x)) : OkN (n + 1) (.lst t (xs.map f)) := OkN.lst (cV.of fun d hd => by
 obtain ⟨x, _, rfl⟩ := List.mem_map.mp hd
 exact h x)
def di (xs ys : List D) : Bool := PyData.eqvAll (bG xs) (bG ys)
theorem gX (t u : Bool) (xs ys : List D) : eqD (.lst t xs) (.lst u ys) = di xs ys := by unfold eqD di; rw [pyD, pyD, PyData.eqv]
theorem qG (xs ys : List D) : eqD (.tup xs) (.tup ys) = di xs ys := by unfold eqD di; rw [pyD, pyD, PyData.eqv]
theorem jo : di [] [] = true := by unfold di; rw [bG, PyData.eqvAll]
theorem iu (x y : D) (xs ys : List D) : di (x :: xs) (y :: ys) = (eqD x y && di xs ys) := by unfold di eqD; rw [bG, bG, PyData.eqvAll]
theorem qF (x y : Str) : eqD (.str x) (.str y) = (x == y) := by unfold eqD; rw [pyD, pyD, PyData.eqv]
theorem qE : eqD .non .non = true := by unfold eqD; rw [pyD, PyData.eqv]
mutual
theorem jk : ∀ d : D, eqD d d = true
 | .non => qE
 | .bl b => by rw [ji]; simp
 | .int i => by rw [gW]; simp
 | .str x => by rw [qF]; simp
 | .exc _ => by unfold eqD; rw [pyD, PyData.eqv]
 | .obj _ _ _ => by unfold eqD; rw [pyD, PyData.eqv]
 | .dic => by unfold eqD; rw [pyD, PyData.eqv]
 | .tup ds => by rw [qG]; exact dF ds
 | .lst t ds => by rw [gX]; exact dF ds
theorem dF : ∀ ds : List D, di ds ds = true
 | [] => jo
 | d :: r => by rw [iu, jk d, dF r]; rfl
end
theorem jj (t u : Bool) (xs : List D) : eqD (.lst t xs) (.lst u xs) = true := by rw [gX]; exact dF xs
end PD
namespace PD
open PySem PySem.Spec PyProof.Rows L2
section
variable {X : Cx} {a b c : Expr} {ta tb tc : DE} {pos : Pos}
def jb (r r' : RD2) (ta tb tc : DE) : DE := fun ρ Q => ta ρ fun x => tb ρ fun y => r x y fun z => ∃ k, z = .bl k /\ if k = true then tc ρ fun u => r' y u Q else Q (.bl false)
theorem oX {op op' : CmpOp} {r r' : RD2} (ho : OpD X (compareOp op) r) (ho' : OpD X (compareOp op') r') (ha : PED X a ta) (hb : PED X b tb) (hc : PED X c tc) (hm : lastMarks [op, op'] [b, c] = false := by with_unfolding_all rfl) : PED X (.Compare a [op, op'] [b, c] pos) (jb r r' ta tb tc) := by
 intro pins s σ H W ρ Q I rr h
 refine Compare_chain (thn (ha pins s σ H W ρ _ I rr h) fun v s1 ⟨vx, H1, x, I1, r1, e1, hx, q1⟩ => chain_link (thn (hb pins s1 σ H1 W ρ _ I1 (rr.same e1) q1) fun u s2 ⟨vy, H2, y, I2, r2, e2, hy, q2⟩ =>
  thn (ho pins s2 σ H2 W x y vx vy v u _ I2 ((rr.same e1).same e2).tracked r1 r2 (hx.same e2) hy q2) fun d s3 ⟨vz, H3, z, I3, r3, e3, hz, k, ek, q3⟩ => ?_)) hm
 subst ek
 have ez := hz.bl_
 subst ez
 cases r3
 refine wpAny_truthy_bool ?_
 have rr3 := ((rr.same e1).same e2).same e3
 cases k with
 | false => exact ite_ff ⟨.bl false, H3, _, I3, rfl, e1.trans (e2.trans e3), Den.bl _, q3⟩
 | true => exact ite_tt (chain_last (thn (hc pins s3 σ H3 W ρ _ I3 rr3 q3) fun w' s4 ⟨vu, H4, du, I4, r4, e4, hu, q4⟩ => thn (ho' pins s4 σ H4 W y du vy vu u w' Q I4 (rr3.same e4).tracked r2 r4 (hy.same (e3.trans e4)) hu q4) fun _ _ z => z.up (e1.trans (e2.trans (e3.trans e4)))))
theorem eP {x : Str} {i : Int} (hm : ∃ t, X.mg x = some (.int i t)) (hg : Gl X x := by rfl) (hd : (x == ("__debug__" : Str)) = false := by decide) : PED X (.Name x pos) (dC (.int i)) := by
 obtain ⟨t, hm⟩ := hm
 exact PED.of (eG (v := .int i) hg hm ⟨t, rfl⟩ hd) fun _ H _ _ _ _ q => ⟨af.refl H, _, Den.int i, q⟩
def mC (ti : DE) : DA := fun ρ R => ti ρ fun d => ∃ ds, d = .tup ds /\ R ds
theorem nF (xs : List D) (R : List D -> Prop) : (∃ ds, D.tup xs = .tup ds /\ R ds) = R xs := by
 apply propext
 constructor
 ·rintro ⟨_, e, q⟩; cases e; exact q
 ·intro q; exact ⟨xs, rfl, q⟩
variable {e : Expr} {te : DE} {lo hi : Option Expr} {tl th : DO} {p2 : Pos}
end
theorem at4 {α : Type} (a b c d e : α) (r : List α) : atI (a :: b :: c :: d :: e :: r) 4 = some e := cf (j := 4) rfl
theorem at5 {α : Type} (a b c d e f : α) (r : List α) : atI (a :: b :: c :: d :: e :: f :: r) 5 = some f := cf (j := 5) rfl
theorem mw {α : Type} {wi : DA} {js : List Nat} {te : DE} {ρ : Ro} {Q : D -> Prop} (xs : List α) (f : α -> D) (ok : α -> Bool) (g : α -> D) (hw : ∀ R : List D -> Prop, R (xs.map f) -> wi ρ R) (hz : xs.length <= sizeLine)
  (he : ∀ x ∈ xs, ok x = true -> ∀ K : D -> Prop, K (g x) -> te (some (.val (f x)) :: js.map (aI ρ)) K) (hx : ∀ x ∈ xs, ok x = false -> ∀ K : D -> Prop, te (some (.val (f x)) :: js.map (aI ρ)) K) (q : xs.all ok = true -> Q (.lst true (xs.map g))) : iP wi js gP te ρ Q := by
 refine hw _ ⟨by rw [zAF]; exact hz, fun j out => out = (xs.take j).map g /\ (xs.take j).all ok = true, by simp, fun j d out hd ho => ?_, fun out ho => ?_⟩
 ·rw [zAN] at hd
  cases ex : xs[j]? with
  | none => rw [ex] at hd; cases hd
  | some x =>
   rw [ex] at hd
   cases hd
   have hm : x ∈ xs := zAy ex
   have ht : xs.take (j + 1) = xs.take j ++ [x] := by rw [List.take_succ, ex]; rfl
   show (if (true : Bool) = true then te (some (Sl.val (f x)) :: List.map (aI ρ) js) (fun e => out ++ [e] = List.map g (List.take (j + 1) xs) /\ (List.take (j + 1) xs).all ok = true) else out = List.map g (List.take (j + 1) xs) /\ (List.take (j + 1) xs).all ok = true)
   rw [if_pos rfl]
   cases z : ok x with
   | true =>
    refine he x hm z _ ?_
    show _ = List.map g (List.take (j + 1) xs) /\ (List.take (j + 1) xs).all ok = true
    rw [ht, ho.1, zA2, List.all_append, ho.2]
    exact ⟨rfl, by simp [z]⟩
   | false => exact hx x hm z _
 ·rw [zAF, List.take_of_length_le (zAH _)] at ho
  rw [ho.1]; exact q ho.2
section
variable {X : Cx} {pos : Pos}
end
end PD
namespace PD
open PySem PySem.Spec PyProof.Rows L2
section
variable {K : PySem.W.Frag} {P : Bool -> Addr -> Prop} {H : Hp} {B : Nat -> Option Addr}
theorem ao.len : ∀ {k : Nat} {xs : List LI} {vs : List V}, ao K P H B k xs vs -> vs.length = xs.length
 | _, [], _, h => by simp only [ao] at h; subst h; rfl
 | k, .own ds :: r, _, h => by
  simp only [ao] at h
  obtain ⟨b, us, u, rfl, _, _, _, h4⟩ := h
  simp [ao.len h4]
 | k, .val d :: r, _, h => by
  simp only [ao] at h
  obtain ⟨v, u, rfl, _, h2⟩ := h
  simp [ao.len h2]
theorem ao.get : ∀ {k : Nat} {xs : List LI} {vs : List V} {m : Nat} {ds : List D}, ao K P H B k xs vs -> xs[m]? = some (.own ds) -> ∃ b us, vs[m]? = some (.ref b) /\ B (k + m) = some b /\ H b = some (.lst us) /\ ae K P H ds us
 | _, [], _, _, _, _, e => by simp at e
 | k, .own ds :: r, _, 0, _, h, e => by
  simp only [ao] at h
  obtain ⟨b, us, u, rfl, h1, h2, h3, _⟩ := h
  simp at e; subst e
  exact ⟨b, us, rfl, h1, h2, h3⟩
 | k, .val d :: r, _, 0, _, h, e => by simp at e
 | k, .own ds :: r, _, m + 1, x, h, e => by
  simp only [ao] at h
  obtain ⟨b, us, u, rfl, _, _, _, h4⟩ := h
  obtain ⟨c, ws, e1, e2, e3⟩ := ao.get (m := m) (ds := x) h4 (by simpa using e)
  exact ⟨c, ws, by simpa using e1, by rw [<- e2]; congr 1; omega, e3⟩
 | k, .val d :: r, _, m + 1, x, h, e => by
  simp only [ao] at h
  obtain ⟨v, u, rfl, _, h2⟩ := h
  obtain ⟨c, ws, e1, e2, e3⟩ := ao.get (m := m) (ds := x) h2 (by simpa using e)
  exact ⟨c, ws, by simpa using e1, by rw [<- e2]; congr 1; omega, e3⟩
theorem ao.put {H' : Hp} {b : Addr} {us' : List V} {ds' : List D} (hd : ∀ ds vs, ae K P H ds vs -> ae K P H' ds vs) (hb : H' b = some (.lst us')) (hn : ae K P H' ds' us') (ho : ∀ k c, B k = some c -> c ≠ b -> ∀ us, H c = some (.lst us) -> H' c = some (.lst us)) (inj : ∀ k l c, B k = some c -> B l = some c -> k = l) :
  ∀ {k : Nat} {xs : List LI} {vs : List V} {m : Nat} {ds : List D}, ao K P H B k xs vs -> xs[m]? = some (.own ds) -> B (k + m) = some b -> ao K P H' B k (xs.set m (.own ds')) vs
 | _, [], _, _, _, _, e, _ => by simp at e
 | k, .own ds :: r, _, 0, _, h, _, hB => by
  simp only [ao] at h
  obtain ⟨c, us, u, rfl, h1, h2, h3, h4⟩ := h
  rw [Nat.add_zero, h1] at hB
  cases hB
  simp only [zA4, ao]
  refine ⟨b, us', u, rfl, h1, hb, hn, ?_⟩
  have rest : ∀ {l : Nat} {ys : List LI} {ws : List V}, k < l -> ao K P H B l ys ws -> ao K P H' B l ys ws := by
   intro l ys
   induction ys generalizing l with
   | nil => intro ws _ z; simpa only [ao] using z
   | cons y ys ih =>
    intro ws hl z
    cases y with
    | own es =>
     simp only [ao] at z ⊢
     obtain ⟨d, ps, q, rfl, z1, z2, z3, z4⟩ := z
     exact ⟨d, ps, q, rfl, z1, ho l d z1 (fun e => by subst e; have := inj _ _ _ h1 z1; omega) ps z2, hd _ _ z3, ih (Nat.lt_succ_of_lt hl) z4⟩
    | val e =>
     simp only [ao] at z ⊢
     obtain ⟨v, q, rfl, z1, z2⟩ := z
     have z3 := hd [e] [v] (ae.one z1)
     simp only [ae] at z3
     obtain ⟨v', r', e', z4, _⟩ := z3
     cases e'
     exact ⟨v, q, rfl, z4, ih (Nat.lt_succ_of_lt hl) z2⟩
  exact rest (Nat.lt_succ_self k) h4
 | k, .val d :: r, _, 0, _, h, e, _ => by simp at e
 | k, .own ds :: r, _, m + 1, x, h, e, hB => by
  simp only [ao] at h
  obtain ⟨c, us, u, rfl, h1, h2, h3, h4⟩ := h
  simp only [zA3, ao]
  refine ⟨c, us, u, rfl, h1, ho k c h1 (fun z => by subst z; have := inj _ _ _ h1 hB; omega) us h2, hd _ _ h3, ao.put hd hb hn ho inj h4 (by simpa using e) (by rw [<- hB]; congr 1; omega)⟩
 | k, .val d :: r, _, m + 1, x, h, e, hB => by
  simp only [ao] at h
  obtain ⟨v, u, rfl, h1, h2⟩ := h
  simp only [zA3, ao]
  have z3 := hd [d] [v] (ae.one h1)
  simp only [ae] at z3
  obtain ⟨v', r', e', z4, _⟩ := z3
  cases e'
  exact ⟨v, u, rfl, z4, ao.put hd hb hn ho inj h2 (by simpa using e) (by rw [<- hB]; congr 1; omega)⟩
end
section
variable {X : Cx} {pos : Pos}
def PFL (X : Cx) (i : Nat) (es : List Expr) (t : Ro -> (List (List D) -> Prop) -> Prop) : Prop :=
 ∀ (pos : Pos) (pins : List (Addr × Obj)) (s : Shared) (σ : St) (H : Hp) (W : Own) (ρ : Ro) (k : Nat) (Q : List (List D) -> Prop), Inv X pins σ H s -> Rel X W H σ ρ -> i < σ.length -> ρ[i]? = some none -> t ρ Q →
  wpAny (model X.prog X.w) X.A (spliced (backTo pos (starEach es X.env))) (fun us s' => ∃ vs H' W' xss, Inv X pins σ H' s' /\ Vals vs us /\ af H H' /\ Rel X W' H' σ ρ /\ Fwd W H W' H' /\ ao X.K W'.bad H' (W'.sub σ.length i) k (xss.map LI.own) vs /\ (∀ l, l < k -> W'.sub σ.length i l = W.sub σ.length i l) /\ Q xss) X.xe s
def pY : Ro -> (List (List D) -> Prop) -> Prop := fun _ Q => Q []
def mQ (ta : DA) (t : Ro -> (List (List D) -> Prop) -> Prop) : Ro -> (List (List D) -> Prop) -> Prop := fun ρ Q => ta ρ fun x => t ρ fun xs => Q (x :: xs)
def mF (i : Nat) (t : Ro -> (List (List D) -> Prop) -> Prop) : DS := fun E ρ => ρ[i]? = some none /\ t ρ fun xss => xss.length <= sizeLine /\ E.nx (ρ.set i (some (.ob (.ll (xss.map LI.own)))))
def Own.softL (W : Own) (n i : Nat) : Own := ⟨W.B, fun j => if j % n = i then none else W.O j, fun b => W.S b ∨ ∃ j, j % n = i /\ W.O j = some b⟩
def bw : LI -> D
 | .own ds => .lst false ds
 | .val d => d
theorem Rel.softL {W : Own} {H : Hp} {σ : St} {ρ : Ro} {i : Nat} {xs : List LI} (r : Rel X W H σ ρ) (e : ρ[i]? = some (some (.ob (.ll xs)))) : Rel X (W.softL σ.length i) H σ (ρ.set i (some (.val (.lst false (xs.map bw))))) /\ ∀ b, W.bad true b -> (W.softL σ.length i).bad true b := by
 obtain ⟨a, o, oa, sa, ha, ho⟩ := r.own i _ e
 cases ho with
 | ll hds =>
 rename_i vs
 have hl' : i < ρ.length := (zAD.mp e).1
 have il : i < σ.length := (zAD.mp sa).1
 have im : i % σ.length = i := zAX il
 have vm : ∀ j k, j < σ.length -> vix σ.length j k % σ.length = j := fun j k hj => by unfold vix; rw [Nat.mul_add_mod, zAX hj]
 have hO : ∀ j b, (W.softL σ.length i).O j = some b -> j % σ.length ≠ i /\ W.O j = some b := fun j b h => by
  have h1 : (if j % σ.length = i then none else W.O j) = some b := h
  by_cases z : j % σ.length = i
  ·rw [if_pos z] at h1; cases h1
  ·rw [if_neg z] at h1; exact ⟨z, h1⟩
 have low : ∀ t b, (W.softL σ.length i).bad t b -> W.bad t b := fun t b z => by
  rcases z with z | ⟨j, z⟩ | ⟨z1, z2⟩
  ·exact .inl z
  ·exact .inr (.inl ⟨j, (hO j b z).2⟩)
  ·rcases z2 with z2 | ⟨j, _, z2⟩
   ·exact .inr (.inr ⟨z1, z2⟩)
   ·exact .inr (.inl ⟨j, z2⟩)
 have nb : ∀ j b, j % σ.length = i -> W.O j = some b -> ¬ (W.softL σ.length i).bad false b := fun j b hj oj z => by
  rcases z with z | ⟨l, z⟩ | ⟨z1, _⟩
  ·exact (r.kn j b oj).2.1.1 z
  ·exact (hO l b z).1 (by rw [r.inj l j b (hO l b z).2 oj]; exact hj)
  ·cases z1
 have den : ∀ {k : Nat} {ys : List LI} {ws : List V}, ao X.K W.bad H (W.sub σ.length i) k ys ws -> ae X.K (W.softL σ.length i).bad H (ys.map bw) ws := by
  intro k ys
  induction ys generalizing k with
  | nil => intro ws z; simp only [ao] at z; subst z; exact ae.nil
  | cons y ys ih =>
   intro ws z
   cases y with
   | own es =>
    simp only [ao] at z
    obtain ⟨b, us, u, rfl, z1, z2, z3, z4⟩ := z
    exact ae.cons (Den.lst (nb _ b (vm i k il) z1) (.any (SqL.of z2)) (z3.fewer low)) (ih z4)
   | val d =>
    simp only [ao] at z
    obtain ⟨v, u, rfl, z1, z2⟩ := z
    exact ae.cons (z1.fewer low) (ih z2)
 refine ⟨⟨fun j d h => ?_, fun j x h => ?_, fun j k b h1 h2 => r.inj j k b (hO j b h1).2 (hO k b h2).2, fun j b h => ?_, fun j b h => r.ke j b (hO j b h).2, r.bt, fun b h => ?_, r.ent, r.tab⟩, fun b z => ?_⟩
 ·by_cases hj : j = i
  ·subst hj
   rw [zAE hl'] at h
   cases h
   exact ⟨.ref a, sa, Den.lst (nb j a im oa) (.any (SqL.of ha)) (den hds)⟩
  ·rw [zAA (Ne.symm hj)] at h
   obtain ⟨w, h1, h2⟩ := r.val j d h
   exact ⟨w, h1, h2.fewer low⟩
 ·by_cases hj : j = i
  ·subst hj
   rw [zAE hl'] at h; cases h
  ·rw [zAA (Ne.symm hj)] at h
   obtain ⟨b, ws, h1, h2, h3, h4⟩ := r.own j x h
   have jl : j < σ.length := (zAD.mp h2).1
   refine ⟨b, ws, ?_, h2, h3, h4.fewer low fun k c q => ?_⟩
   ·show (if j % σ.length = i then none else W.O j) = _
    rw [if_neg (by rw [zAX jl]; exact hj)]
    exact h1
   ·show (if vix σ.length j k % σ.length = i then none else W.O (vix σ.length j k)) = _
    rw [if_neg (by rw [vm j k jl]; exact hj)]
    exact q
 ·obtain ⟨k1, ⟨k2, k3⟩, k4⟩ := r.kn j b (hO j b h).2
  refine ⟨k1, ⟨k2, fun z => z.elim k3 fun ⟨l, l1, l2⟩ => ?_⟩, k4⟩
  exact (hO j b h).1 (by rw [r.inj j l b (hO j b h).2 l2]; exact l1)
 ·rcases h with h | ⟨j, _, h⟩
  ·exact r.st b h
  ·obtain ⟨_, _, o, q, _⟩ := r.kn j b h
   exact ⟨o, q⟩
 ·rcases z with z | ⟨j, z⟩ | ⟨_, z⟩
  ·exact .inl z
  ·by_cases hj : j % σ.length = i
   ·exact .inr (.inr ⟨rfl, .inr ⟨j, hj, z⟩⟩)
   ·exact .inr (.inl ⟨j, by show (if j % σ.length = i then none else W.O j) = _; rw [if_neg hj]; exact z⟩)
  ·exact .inr (.inr ⟨rfl, .inl z⟩)
variable {e : Expr} {te : DE} {tt : DT} {ta : DA}
def mJ (i : Nat) (t : DE) : DE := fun ρ Q => ∃ xs, ρ[i]? = some (some (.ob (.ll xs))) /\ t (ρ.set i (some (.val (.lst false (xs.map bw))))) fun d => cE d = true /\ Q d
def gU (i : Nat) (t : DT) : DT := fun ρ Q => ∃ xs, ρ[i]? = some (some (.ob (.ll xs))) /\ t (ρ.set i (some (.val (.lst false (xs.map bw))))) Q
theorem jh (i : Nat) (h : PTD X e tt) : PTD X e (gU i tt) := by
 intro pins s σ H W ρ Q I r hw
 obtain ⟨xs, eo, hw⟩ := hw
 obtain ⟨r', up⟩ := r.softL eo
 exact h pins s σ H _ _ _ I r' hw
theorem Rel.mutIn {W : Own} {H : Hp} {σ : St} {ρ : Ro} {i m : Nat} {b : Addr} {xs : List LI} {ds ds' : List D} {us us' : List V} (r : Rel X W H σ ρ) (eo : ρ[i]? = some (some (.ob (.ll xs)))) (hm : xs[m]? = some (.own ds)) (ob : W.sub σ.length i m = some b) (hb : H b = some (.lst us)) (hd : ae X.K W.bad H ds' us') :
  Rel X W (L2.upd H b (.lst us')) σ (ρ.set i (some (.ob (.ll (xs.set m (.own ds')))))) /\ Fwd W H W (L2.upd H b (.lst us')) := by
 have badB : ∀ t, W.bad t b := fun _ => .inr (.inl ⟨_, ob⟩)
 have noT : ∀ c ws, SqT X.K H c ws -> SqT X.K (L2.upd H b (.lst us')) c ws := fun c ws q => by
  show L2.upd _ _ _ _ = _
  rw [aj (eU q hb (by intro z; cases z))]
  exact q
 have noL : ∀ t c ws, ¬ W.bad t c -> SqG X.K H t c ws -> ¬ W.bad t c /\ SqG X.K (L2.upd H b (.lst us')) t c ws := fun t c ws n q => by
  have hne : c ≠ b := fun e => n (e ▸ badB t)
  refine ⟨n, ?_, fun z => ⟨by rw [aj hne]; exact (q.2 z).1, (q.2 z).2⟩⟩
  rcases q.1 with (q | ⟨u, q⟩) | q
  ·exact .inl (.inl (by rw [aj hne]; exact q))
  ·exact .inl (.inr ⟨u, by rw [aj hne]; exact q⟩)
  ·exact .inr q
 have noX : ∀ c u, Sol u -> H c = some u -> L2.upd H b (.lst us') c = some u := fun c u n q => by rw [aj (eU q hb (by intro z; subst z; exact n))]; exact q
 have hl' : i < ρ.length := (zAD.mp eo).1
 obtain ⟨a, o, oa, sa, ha, ho⟩ := r.own i _ eo
 have il : i < σ.length := (zAD.mp sa).1
 have tr : ∀ c u, H c = some u -> ∃ u', L2.upd H b (.lst us') c = some u' := fun c u q => by
  by_cases hcb : c = b
  ·subst hcb; exact ⟨_, aw⟩
  ·exact ⟨u, by rw [aj hcb]; exact q⟩
 refine ⟨⟨fun j d h => ?_, fun j y h => ?_, r.inj, fun j c hc => ?_, r.ke, fun c hc => let ⟨u, q⟩ := r.bt c hc; tr c u q, fun c hc => let ⟨u, q⟩ := r.st c hc; tr c u q, r.ent.ins (r.ke _ b ob) hb True.intro True.intro, r.tab.upd True.intro (.inr ⟨_, hb, (fun _ z => by cases z), True.intro⟩)⟩, Fwd.upd ob hb True.intro True.intro⟩
 ·by_cases hj : j = i
  ·subst hj
   rw [zAE hl'] at h; cases h
  ·rw [zAA (Ne.symm hj)] at h
   obtain ⟨w, h1, h2⟩ := r.val j d h
   exact ⟨w, h1, Den.map noT noL noX d w h2⟩
 ·by_cases hj : j = i
  ·subst hj
   rw [zAE hl'] at h
   cases h
   have hab : a ≠ b := fun e => bU il (r.inj _ _ b ob (by rw [<- e]; exact oa))
   refine ⟨a, o, oa, sa, by rw [aj hab]; exact ha, ?_⟩
   cases ho with
   | ll hds =>
   exact .ll (ao.put (ae.map noT noL noX) aw (ae.map noT noL noX _ _ hd) (fun k c q n us z => by rw [aj n]; exact z) (fun k l c q1 q2 => (lA il il (r.inj _ _ c q1 q2)).2) hds hm (by rw [Nat.zero_add]; exact ob))
  ·rw [zAA (Ne.symm hj)] at h
   obtain ⟨c, ws, h1, h2, h3, h4⟩ := r.own j y h
   have jl : j < σ.length := (zAD.mp h2).1
   have hne : c ≠ b := fun e => bU jl (r.inj _ _ b ob (by rw [<- e]; exact h1))
   exact ⟨c, ws, h1, h2, by rw [aj hne]; exact h3, h4.map (ae.map noT noL noX) fun k f q => ⟨q, fun _ z => by rw [aj (fun e => hj (lA jl il (r.inj _ _ b (by rw [<- e]; exact q) ob)).1)]; exact z⟩⟩
 ·obtain ⟨k1, k2, ws, k3, k4⟩ := r.kn j c hc
  refine ⟨k1, k2, ?_⟩
  by_cases hcb : c = b
  ·subst hcb; exact ⟨_, aw, True.intro⟩
  ·exact ⟨ws, by rw [aj hcb]; exact k3, k4⟩
def mH (i : Nat) (tc tk te : DE) : DS := fun E ρ => ∃ xs, ρ[i]? = some (some (.ob (.ll xs))) /\ te ρ fun d => tc ρ fun c => ∃ n m ds, c = .int n /\ ixN xs.length n = some m /\ xs[m]? = some (.own ds) /\ tk ρ fun k => ∃ l j, k = .int l /\ ixN ds.length l = some j /\ E.nx (ρ.set i (some (.ob (.ll (xs.set m (.own (ds.set j d)))))))
end
theorem mY (xs : List LI) (r : Ro) (R : List LI -> Prop) : (∃ ys, (some (Sl.ob (.ll xs)) :: r)[0]? = some (some (Sl.ob (.ll ys))) /\ R ys) = R xs := by
 apply propext
 constructor
 ·rintro ⟨_, e, q⟩
  have e' : some (some (Sl.ob (.ll xs))) = some (some (Sl.ob (.ll _))) := e
  cases e'
  exact q
 ·intro q; exact ⟨xs, rfl, q⟩
theorem mZ (n : Nat) (x : Option Sl) (r : Ro) (R : List LI -> Prop) : (∃ ys, (x :: r)[n + 1]? = some (some (Sl.ob (.ll ys))) /\ R ys) = (∃ ys, r[n]? = some (some (Sl.ob (.ll ys))) /\ R ys) := rfl
theorem nh (r : Ro) : ((none :: r)[0]? = some (none : Option Sl)) = True := eq_true rfl
theorem ni (n : Nat) (x : Option Sl) (r : Ro) : ((x :: r)[n + 1]? = some (none : Option Sl)) = (r[n]? = some none) := rfl
theorem qf {α : Type} (x : α) (xs : List α) (R : Nat -> Prop) : (∃ m, ixN (x :: xs).length 0 = some m /\ R m) = R 0 := by
 have e : ixN (x :: xs).length 0 = some 0 := by unfold ixN; simp
 apply propext
 constructor
 ·rintro ⟨_, h, q⟩
  rw [e] at h
  cases h
  exact q
 ·intro q; exact ⟨0, e, q⟩
theorem qg {α : Type} (x y : α) (xs : List α) (R : Nat -> Prop) : (∃ m, ixN (x :: y :: xs).length 1 = some m /\ R m) = R 1 := by
 have e : ixN (x :: y :: xs).length 1 = some 1 := by unfold ixN; simp; omega
 apply propext
 constructor
 ·rintro ⟨_, h, q⟩
  rw [e] at h
  cases h
  exact q
 ·intro q; exact ⟨1, e, q⟩
theorem rV (ds : List D) (r : List LI) (R : List D -> Prop) : (∃ es, (LI.own ds :: r)[0]? = some (LI.own es) /\ R es) = R ds := by
 apply propext
 constructor
 ·rintro ⟨_, e, q⟩
  have e' : some (LI.own ds) = some (LI.own _) := e
  cases e'
  exact q
 ·intro q; exact ⟨ds, rfl, q⟩
theorem rW (n : Nat) (x : LI) (r : List LI) (R : List D -> Prop) : (∃ es, (x :: r)[n + 1]? = some (LI.own es) /\ R es) = (∃ es, r[n]? = some (LI.own es) /\ R es) := rfl
end PD
namespace PD
open PySem PySem.Spec PyProof.Rows L2
section
variable {X : Cx} {pins : List (Addr × Obj)} {σ : St} {H : Hp} {s : Shared} {sc : Scope} {ns : List Str} {js : List Nat} {x : Str}
end
section
variable {X : Cx} {pins : List (Addr × Obj)} {σ : St} {H : Hp}
structure uk (X : Cx) (pins : List (Addr × Obj)) (H : Hp) (s : Shared) (l f S I : Addr) (fo : Obj) (j : Nat) (vb : Value) (k : Int) : Prop where
 fo : s.heap.get? f = some fo
 ff : bF X pins H f
 so : ∃ tb n, s.heap.get? S = some (seqObj "list" #[vb, .int k tb] n)
 sf : bF X pins H S
 io : s.heap.IsListIter I l j
 jf : bF X pins H I
 fS : f ≠ S
 fI : f ≠ I
 SI : S ≠ I
 lI : l ≠ I
end
section
variable {X : Cx} {sc : Scope} {ns : List Str} {js : List Nat} {x : Str} {pos : Pos}
def ku (te : DE) (js : List Nat) (tb : DE) : DE := fun ρ Q => te ρ fun d => ∃ (t : Bool) (ds : List D) (kf : Nat -> Int), d = .lst t ds /\ 0 < ds.length /\ (∀ i x, ds[i]? = some x -> tb (some (.val x) :: js.map (aI ρ)) fun r => r = .int (kf i)) /\ ∀ i x, ds[i]? = some x -> (∀ j, j < ds.length -> kf i <= kf j /\ (j < i -> kf i < kf j)) -> Q x
end
end PD
namespace PD
open PySem PySem.Spec PyProof.Rows L2
section
variable {X : Cx} {pos : Pos}
def km (i : Nat) (te : DE) : DS := fun E ρ => ∃ ds, ρ[i]? = some (some (.own ds)) /\ te ρ fun d => ∃ xs, d = .lst true xs /\ ds.length + xs.length <= sizeLine /\ E.nx (ρ.set i (some (.own (ds ++ xs))))
end
section
variable {prog : Program} {w : World} {A : Around} {E : Value -> Shared -> Prop} {s : Shared}
end
section
variable {X : Cx} {pos : Pos}
def mE (i : Nat) : DS := fun E ρ => E.nx (ρ.set i (some (.ob (.dt []))))
def PEK (X : Cx) (e : Expr) (t : DE) : Prop :=
 ∀ (pins : List (Addr × Obj)) (s : Shared) (σ : St) (H : Hp) (W : Own) (ρ : Ro) (Q : D -> Prop), Inv X pins σ H s -> Rel X W H σ ρ -> t ρ Q →
  wpAny (model X.prog X.w) X.A (eval e X.env) (fun u s' => ∃ b vs H' ds, u = .ref b /\ Inv X pins σ H' s' /\ af H H' /\ H' b = some (.tup vs) /\ ae X.K W.bad H' ds vs /\ Q (.tup ds)) X.xe s
def tw (X : Cx) (t : DE) : TE := fun σ H Q => ∃ W ρ Qd, Rel X W H σ ρ /\ t ρ Qd /\ ∀ b vs H' ds, af H H' -> H' b = some (.tup vs) -> ae X.K W.bad H' ds vs -> Qd (.tup ds) -> Q (.ref b) H'
theorem PEK.pe {e : Expr} {t : DE} (h : PEK X e t) : PE X e (tw X t) := by
 intro pins s σ H Q I q
 obtain ⟨W, ρ, Qd, r, ht, k⟩ := q
 exact thn (h pins s σ H W ρ Qd I r ht) fun u s1 ⟨b, vs, H', ds, eu, I1, e1, hb, hd, qd⟩ => by
  subst eu
  exact ⟨.ref b, H', I1, rfl, k b vs H' ds e1 hb hd qd⟩
def pS (i : Nat) (tk te : DE) : DS := fun E ρ => ∃ kvs, ρ[i]? = some (some (.ob (.dt kvs))) /\ te ρ fun d => tk ρ fun k => ∃ ks : List Key, k = .tup (ks.map cG) /\ kvs.length < sizeLine /\ E.nx (ρ.set i (some (.ob (.dt (putD kvs ks d)))))
def pQ (i : Nat) : DE := fun ρ Q => ∃ kvs, ρ[i]? = some (some (.ob (.dt kvs))) /\ Q (.int (kvs.length : Int))
end
theorem mW (kvs : List (List Key × D)) (r : Ro) (R : List (List Key × D) -> Prop) : (∃ ys, (some (Sl.ob (.dt kvs)) :: r)[0]? = some (some (Sl.ob (.dt ys))) /\ R ys) = R kvs := by
 apply propext
 constructor
 ·rintro ⟨ys, e, q⟩
  simp only [List.getElem?_cons_zero, Option.some.injEq, Sl.ob.injEq, OS.dt.injEq] at e
  subst e
  exact q
 ·intro q; exact ⟨kvs, rfl, q⟩
theorem mX (n : Nat) (x : Option Sl) (r : Ro) (R : List (List Key × D) -> Prop) : (∃ ys, (x :: r)[n + 1]? = some (some (Sl.ob (.dt ys))) /\ R ys) = (∃ ys, r[n]? = some (some (Sl.ob (.dt ys))) /\ R ys) := rfl
theorem qa (ys : List D) (R : List D -> Prop) : (∃ xs, D.lst true ys = .lst true xs /\ R xs) = R ys := by
 apply propext
 constructor
 ·rintro ⟨xs, e, q⟩
  cases e
  exact q
 ·intro q; exact ⟨ys, rfl, q⟩
theorem jq {α : Type} {wi : DA} {g : DG} {tb : DS} {E : dE} {ρ : Ro} (xs : List α) (f : α -> D) (Pv : Nat -> Ro -> Prop) (hw : ∀ R : List D -> Prop, R (xs.map f) -> wi ρ R) (p0 : Pv 0 ρ)
  (turn : ∀ (j : Nat) (x : α) (ρ' : Ro), xs[j]? = some x -> Pv j ρ' -> g (f x) ρ' fun ρ2 => tb { E with nx := Pv (j + 1), ct := Pv (j + 1), bk := E.nx } ρ2) (fin : ∀ ρ', Pv xs.length ρ' -> E.nx ρ') : oF wi g tb E ρ := by
 refine hw _ ⟨Pv, p0, fun j d ρ' hd hp => ?_, fun ρ' hp => fin ρ' (by rw [zAF] at hp; exact hp)⟩
 rw [zAN] at hd
 cases ex : xs[j]? with
 | none => rw [ex] at hd; cases hd
 | some x =>
  rw [ex] at hd
  cases hd
  exact turn j x ρ' ex hp
end PD
namespace PD
open PySem PySem.Spec PyProof.Rows L2
def fM (h : Heap) (d : Addr) (us : List Value) (ep : Nat) : Prop := ∃ o es, h.get? d = some o /\ o.data = .dict es ep /\ es.toList.map (·.val) = us
theorem fM.of {h h' : Heap} {d : Addr} {us : List Value} {ep : Nat} (x : fM h d us ep) (k : ∀ o, h.get? d = some o -> h'.get? d = some o) : fM h' d us ep := let ⟨o, es, e, r⟩ := x; ⟨o, es, k o e, r⟩
theorem fM.lt {h : Heap} {d : Addr} {us : List Value} {ep : Nat} (x : fM h d us ep) : d < h.objs.size := let ⟨_, _, e, _⟩ := x; zAC e
theorem fM.size {us : List Value} {es : Array DictEntry} (e : es.toList.map (·.val) = us) : es.size = us.length := by rw [<- e]; simp
section
variable {prog : Program} {w : World} {A : Around} {E : Value -> Shared -> Prop} {s : Shared} {d v it : Addr} {us : List Value} {ep i : Nat}
end
end PD
namespace PD
open PySem PySem.Spec PyProof.Rows L2
section
variable {X : Cx} {pos : Pos}
def pW (i : Nat) : DA := fun ρ Q => ∃ kvs, ρ[i]? = some (some (.ob (.dt kvs))) /\ Q (kvs.map (·.2))
end
section
variable {X : Cx} {pos : Pos}
def pO (i : Nat) (ta : DE) : DE := fun ρ Q => ∃ kvs, ρ[i]? = some (some (.ob (.dt kvs))) /\ ta ρ fun k => ∃ ks : List Key, k = .tup (ks.map cG) /\ Q (.bl (gG kvs ks).isSome)
def mB (i : Nat) (tk te : DE) : DS := fun E ρ => ∃ kvs, ρ[i]? = some (some (.ob (.dt kvs))) /\ tk ρ fun k => ∃ (ks : List Key) (n : Int), k = .tup (ks.map cG) /\ gG kvs ks = some (.int n) /\ te ρ fun d => ∃ m, d = .int m /\ E.nx (ρ.set i (some (.ob (.dt (putD kvs ks (.int (n + m)))))))
end
end PD
namespace PD
open PySem PySem.Spec PyProof.Rows L2
inductive KPs (K : PySem.W.Frag) (P : Bool -> Addr -> Prop) (H : Hp) : List (List D × D) -> List (Value × Value) -> Prop
 | nil : KPs K P H [] []
 | cons {b : Addr} {vs : List V} {ks : List D} {d : D} {x : V} {u : Value} {ds : List (List D × D)} {ws : List (Value × Value)} (hb : H b = some (.tup vs)) (hk : ae K P H ks vs) (hd : Den K P H d x) (r : RelV x u) (t : KPs K P H ds ws) : KPs K P H ((ks, d) :: ds) ((.ref b, u) :: ws)
def PPK (X : Cx) (pos : Pos) (keys : List (Option Expr)) (values : List Expr) (t : Ro -> (List (List D × D) -> Prop) -> Prop) : Prop :=
 ∀ (pins : List (Addr × Obj)) (s : Shared) (σ : St) (H : Hp) (W : Own) (ρ : Ro) (Q : List (List D × D) -> Prop), Inv X pins σ H s -> Rel X W H σ ρ -> t ρ Q →
  wpAny (model X.prog X.w) X.A (evalPairs (pairTrees keys values X.env pos)) (fun ws s' => ∃ H' ds, Inv X pins σ H' s' /\ af H H' /\ KPs X.K W.bad H' ds ws /\ Q ds) X.xe s
section
variable {X : Cx} {pos : Pos}
def pZ : Ro -> (List (List D × D) -> Prop) -> Prop := fun _ Q => Q []
def mR (tk tv : DE) (t : Ro -> (List (List D × D) -> Prop) -> Prop) : Ro -> (List (List D × D) -> Prop) -> Prop := fun ρ Q => tk ρ fun k => ∃ ks, k = .tup ks /\ tv ρ fun v => t ρ fun r => Q ((ks, v) :: r)
inductive KPi (H : Hp) : List (List Key × Int) -> List (Value × Value) -> Prop
 | nil : KPi H [] []
 | cons {b : Addr} {k : List Key} {n : Int} {u : Value} {ds : List (List Key × Int)} {ws : List (Value × Value)} (hb : H b = some (.tup (k.map kV))) (r : RelV (.int n) u) (t : KPi H ds ws) : KPi H ((k, n) :: ds) ((.ref b, u) :: ws)
theorem KPs.ints {K : PySem.W.Frag} {P : Bool -> Addr -> Prop} {H : Hp} : ∀ {kns : List (List Key × Int)} {ws : List (Value × Value)}, KPs K P H (kns.map fun kn => (kn.1.map cG, D.int kn.2)) ws -> KPi H kns ws
 | [], _, h => by rw [zAw] at h; cases h; exact .nil
 | kn :: r, _, h => by
  rw [zAK] at h
  cases h with
  | cons hb hk hd ru t =>
   have e := fz hk
   subst e
   have e2 := hd.int_
   subst e2
   exact .cons hb ru t.ints
theorem KPi.keep {H : Hp} {a : Addr} {kws kws' : List (List Key × V)} (ha : H a = some (.dT kws)) : ∀ {kns : List (List Key × Int)} {ws : List (Value × Value)}, KPi H kns ws -> KPi (L2.upd H a (.dT kws')) kns ws
 | _, _, .nil => .nil
 | _, _, .cons hb r t => .cons (by rw [aj (eU hb ha (fun z => nomatch z))]; exact hb) r (t.keep ha)
def kx (i : Nat) (t : Ro -> (List (List D × D) -> Prop) -> Prop) : DS := fun E ρ => t ρ fun ps => ∃ kns : List (List Key × Int), ps = kns.map (fun kn => (kn.1.map cG, D.int kn.2)) /\ kns.length <= 15 /\ (kns.map (·.1)).Nodup /\ E.nx (ρ.set i (some (.ob (.dt (kns.map fun kn => (kn.1, D.int kn.2))))))
end
section
variable {X : Cx} {pos : Pos}
end
end PD
namespace PD
open PySem PySem.Spec PyProof.Rows L2
section
variable {X : Cx} {pos : Pos}
end
end PD
namespace PZ
open PySem PySem.Spec PyProof.Rows
abbrev pJ (h : Heap) (T : Addr) (a b c : Value) : Prop := h.get? T = some { cls := .type "tuple", data := .seq #[a, b, c] }
structure Ap3 (z TI TO i1 i2 i3 : Addr) : Prop where
 a1 : TI ≠ z
 a2 : TO ≠ z
 a3 : i1 ≠ z
 a4 : i2 ≠ z
 a5 : i3 ≠ z
 b1 : TI ≠ TO
 b2 : TI ≠ i1
 b3 : TI ≠ i2
 b4 : TI ≠ i3
 c1 : TO ≠ i1
 c2 : TO ≠ i2
 c3 : TO ≠ i3
 d1 : i1 ≠ i2
 d2 : i1 ≠ i3
 d3 : i2 ≠ i3
structure um (z TO i1 i2 i3 l : Addr) : Prop where
 c1 : l ≠ z
 c2 : l ≠ TO
 c3 : l ≠ i1
 c4 : l ≠ i2
 c5 : l ≠ i3
structure uo (z TI TO i1 i2 i3 l1 l2 l3 : Addr) (i : Nat) (h : Heap) : Prop where
 z : IsZip h z TI TO .none
 ti : pJ h TI (.ref i1) (.ref i2) (.ref i3)
 to : ∃ a b c, pJ h TO a b c
 s1 : SIt true h i1 l1 i
 s2 : SIt true h i2 l2 i
 s3 : SIt true h i3 l3 i
section
variable {prog : Program} {w : World} {A : Around} {E : Value -> Shared -> Prop} {s : Shared} {z TI TO i1 i2 i3 l1 l2 l3 : Addr} {i : Nat} {xs ys zs : Array Value}
end
section
variable {prog : Program} {w : World} {A : Around} {E : Value -> Shared -> Prop} {s : Shared} {l1 l2 l3 : Addr} {xs ys zs : Array Value}
end
end PZ
namespace PD
open PySem PySem.Spec PyProof.Rows L2 PZ
section
variable {X : Cx}
def tri (xs ys zs : List D) : List D := List.zipWith (fun f z => f z) (List.zipWith (fun x y z => D.tup [x, y, z]) xs ys) zs
def pX (ta : DA) : DA := fun ρ R => ta ρ fun ds => ∃ t1 t2 t3 xs ys zs, ds = [.lst t1 xs, .lst t2 ys, .lst t3 zs] /\ ys.length = xs.length /\ zs.length = xs.length /\ R (tri xs ys zs)
end
end PD
namespace PD
open PySem PySem.Spec PyProof.Rows L2
section
variable {X : Cx} {pos : Pos}
def liftT (X : Cx) (t : DT) : TT := fun σ H Q => ∃ W ρ Qd, Rel X W H σ ρ /\ t ρ Qd /\ ∀ k H', af H H' -> Qd k -> Q k H'
theorem PTD.pt {e : Expr} {t : DT} (h : PTD X e t) : PT X e (liftT X t) := by
 intro pins s σ H Q I q
 obtain ⟨W, ρ, Qd, r, ht, k⟩ := q
 exact thn (h pins s σ H W ρ Qd I r ht) fun u s1 ⟨H', I1, e1, qd⟩ => ⟨H', I1, k u H' e1 qd⟩
def kr (i iw : Nat) (tt : DT) : DS := fun E ρ => ∃ ds, ρ[i]? = some (some (.own ds)) /\ ds ≠ [] /\ (∀ d ∈ ds, tt (ρ.set iw (some (.val d))) fun k => k = false) /\ ∀ d ∈ ds, E.nx (ρ.set iw (some (.val d)))
end
end PD
namespace ST
open PySem PySem.SetTable
def S : Nat -> Nat
 | 0 => 0
 | n + 1 => 5 * S n + 1
theorem gu : ∀ n, 5 ^ n = 4 * S n + 1
 | 0 => rfl
 | n + 1 => by rw [zAg, gu n]; show _ = 4 * (5 * S n + 1) + 1; omega
theorem lE (m : Nat) : ∀ n, S (n + m) = 5 ^ m * S n + S m
 | 0 => by simp [S]
 | n + 1 => by
  rw [show n + 1 + m = (n + m) + 1 by omega]
  show 5 * S (n + m) + 1 = 5 ^ m * (5 * S n + 1) + S m
  rw [lE m n, gu m]
  grind
theorem pK : ∀ k, ∃ o, S (2 ^ k) = 2 ^ k * (2 * o + 1)
 | 0 => ⟨0, rfl⟩
 | k + 1 => by
  obtain ⟨o, e⟩ := pK k
  refine ⟨o + (2 * o + 1) * (2 ^ k * (2 * o + 1)), ?_⟩
  rw [show 2 ^ (k + 1) = 2 ^ k + 2 ^ k by rw [zAg]; omega, lE, gu, e]
  grind
theorem round : ∀ (k x e : Nat), e < 2 ^ k -> ∃ n, n < 2 ^ k /\ (5 ^ n * x + S n) % 2 ^ k = e
 | 0, x, e, h => ⟨0, by decide, by omega⟩
 | k + 1, x, e, h => by
  obtain ⟨n, hn, q⟩ := round k x (e % 2 ^ k) (Nat.mod_lt _ (Nat.two_pow_pos k))
  obtain ⟨o, eo⟩ := pK k
  have hp := Nat.two_pow_pos k
  have h2 : 2 ^ (k + 1) = 2 * 2 ^ k := by rw [zAg]; omega
  generalize hv : 5 ^ n * x + S n = v at q
  have nxt : 5 ^ (n + 2 ^ k) * x + S (n + 2 ^ k) = v + 2 ^ k + 2 ^ (k + 1) * (o + 2 * (2 * o + 1) * v) := by
   rw [lE, Nat.pow_add, gu (2 ^ k), eo, h2, <- hv]
   grind
  generalize 2 ^ k = p at *
  rw [h2] at h ⊢
  by_cases z : v % (2 * p) = e
  ·exact ⟨n, by omega, by rw [hv]; exact z⟩
  ·refine ⟨n + p, by omega, ?_⟩
   rw [nxt, h2, Nat.add_mul_mod_self_left]
   have a1 : v % (2 * p) % p = v % p := Nat.mod_mul_left_mod v 2 p
   have l1 : v % (2 * p) < 2 * p := Nat.mod_lt _ (by omega)
   rw [Nat.add_mod, zAX (show p < 2 * p by omega)]
   generalize v % (2 * p) = u at *
   have eu : u = u % p ∨ u = u % p + p := by
    by_cases c : u < p
    ·left; rw [zAX c]
    ·right
     have : u % p = u - p := by rw [Nat.mod_eq_sub_mod (by omega), zAX (by omega)]
     omega
   have ee : e = e % p ∨ e = e % p + p := by
    by_cases c : e < p
    ·left; rw [zAX c]
    ·right
     have : e % p = e - p := by rw [Nat.mod_eq_sub_mod (by omega), zAX (by omega)]
     omega
   have lt : e % p < p := Nat.mod_lt _ hp
   rcases eu with eu | eu <;> rcases ee with ee | ee
   ·omega
   ·rw [zAX (by omega)]; omega
   ·rw [Nat.mod_eq_sub_mod (by omega), zAX (by omega)]; omega
   ·omega
def runs (mask : Nat) : Nat -> Nat -> Nat -> List Nat
 | 0, _, _ => []
 | c + 1, i, pt => List.range' i (runEnd mask i + 1 - i) ++ runs mask c (leap mask i pt).1 (leap mask i pt).2
theorem nX (mask c i pt : Nat) : runs mask (c + 1) i pt = List.range' i (runEnd mask i + 1 - i) ++ runs mask c (leap mask i pt).1 (leap mask i pt).2 := rfl
def cT (mask : Nat) (h : Int) : List Nat := runs mask (turns mask) (bits h % (mask + 1)) (bits h)
theorem iH {mask i : Nat} (h : i <= mask) : i <= runEnd mask i /\ runEnd mask i <= mask /\ runEnd mask i <= i + 9 := by unfold runEnd; split <;> omega
theorem kO (mask i pt : Nat) : (leap mask i pt).1 <= mask := by
 have : (leap mask i pt).1 < mask + 1 := Nat.mod_lt _ (Nat.succ_pos _)
 omega
theorem lu {mask : Nat} : ∀ {c i pt : Nat}, i <= mask -> ∀ x ∈ runs mask c i pt, x <= mask
 | 0, _, _, _, x, h => by cases h
 | c + 1, i, pt, hi, x, h => by
  rcases zAl.mp h with z | z
  ·rw [List.mem_range'_1] at z
   have := iH hi
   omega
  ·exact lu (kO _ _ _) x z
def br (mask : Nat) : Nat -> Nat × Nat -> Nat × Nat
 | 0, p => p
 | n + 1, p => br mask n (leap mask p.1 p.2)
theorem gH {mask : Nat} : ∀ {n c i pt : Nat}, ∀ x ∈ runs mask c (br mask n (i, pt)).1 (br mask n (i, pt)).2, x ∈ runs mask (n + c) i pt
 | 0, c, i, pt, x, h => by rw [Nat.zero_add]; exact h
 | n + 1, c, i, pt, x, h => by
  have := gH (n := n) (c := c) (i := (leap mask i pt).1) (pt := (leap mask i pt).2) x h
  rw [show n + 1 + c = (n + c) + 1 by omega]
  exact zAI _ this
theorem nW {mask c i pt : Nat} (h : i <= mask) : i ∈ runs mask (c + 1) i pt := by
 refine zA8 _ ?_
 rw [List.mem_range'_1]
 have := iH h
 omega
theorem jy (mask : Nat) : ∀ (n : Nat) (p : Nat × Nat), (br mask n p).2 = p.2 / 32 ^ n
 | 0, p => by simp [br]
 | n + 1, p => by
  show (br mask n (leap mask p.1 p.2)).2 = _
  rw [jy mask n]
  show p.2 / 32 / 32 ^ n = _
  rw [Nat.div_div_eq_div_mul, zAg, Nat.mul_comm]
theorem gE {mask k : Nat} (hk : mask + 1 = 2 ^ k) : ∀ (n i : Nat), i <= mask -> (br mask n (i, 0)).1 = (5 ^ n * i + S n) % 2 ^ k
 | 0, i, h => by
  show i = _
  rw [Nat.pow_zero, Nat.one_mul]
  show i = (i + 0) % 2 ^ k
  rw [Nat.add_zero, zAX (by omega)]
 | n + 1, i, h => by
  have e : leap mask i 0 = ((i * 5 + 1) % (mask + 1), 0) := by unfold leap; simp
  show (br mask n (leap mask i 0)).1 = _
  rw [e, gE hk n _ (by have := Nat.mod_lt (i * 5 + 1) (show 0 < mask + 1 by omega); omega), hk]
  have a : (5 ^ n * ((i * 5 + 1) % 2 ^ k) + S n) % 2 ^ k = (5 ^ n * (i * 5 + 1) + S n) % 2 ^ k := by
   rw [Nat.add_mod, Nat.mul_mod, Nat.mod_mod, <- Nat.mul_mod, <- Nat.add_mod]
  rw [a, zAg]
  congr 1
  show _ = 5 ^ n * 5 * i + (5 * S n + 1)
  have := gu n
  rw [this]
  grind
theorem iG (mask : Nat) : ∀ (m n : Nat) (p : Nat × Nat), br mask (m + n) p = br mask n (br mask m p)
 | 0, n, p => by rw [Nat.zero_add]; rfl
 | m + 1, n, p => by
  rw [show m + 1 + n = (m + n) + 1 by omega]
  exact iG mask m n _
theorem jx (mask : Nat) : ∀ (n : Nat) (p : Nat × Nat), p.1 <= mask -> (br mask n p).1 <= mask
 | 0, _, h => h
 | n + 1, p, _ => jx mask n _ (kO _ _ _)
theorem cover {mask k : Nat} (hk : mask + 1 = 2 ^ k) (h : Int) {e : Nat} (he : e <= mask) : e ∈ cT mask h := by
 have hb : bits h < 2 ^ 64 := by
  unfold bits
  have := Int.emod_lt_of_pos h (show (0 : Int) < 2 ^ 64 by decide)
  have := Int.emod_nonneg h (show (2 ^ 64 : Int) ≠ 0 by decide)
  omega
 have hi : bits h % (mask + 1) <= mask := by have := Nat.mod_lt (bits h) (show 0 < mask + 1 by omega); omega
 generalize hp : (bits h % (mask + 1), bits h) = p
 have p1 : p.1 <= mask := by rw [<- hp]; exact hi
 have z : (br mask 13 p).2 = 0 := by
  rw [jy, <- hp]
  exact Nat.div_eq_of_lt (zAG hb (by decide))
 have q1 := jx mask 13 p p1
 obtain ⟨n, hn, en⟩ := round k (br mask 13 p).1 e (by omega)
 have ee : (br mask (13 + n) p).1 = e := by
  rw [iG]
  have : br mask 13 p = ((br mask 13 p).1, 0) := Prod.ext rfl z
  rw [this, gE hk n _ q1]
  exact en
 have := gH (mask := mask) (n := 13 + n) (c := (mask - n) + 2) (i := bits h % (mask + 1)) (pt := bits h) e (by
  have hp' : (bits h % (mask + 1), bits h) = p := hp
  rw [hp', ee]
  exact nW he)
 unfold cT turns
 rw [show mask + 15 = 13 + n + (mask - n + 2) by omega]
 exact this
def iU (xs : Array Nat) : Prop := ∀ a b : Nat, a < b -> b < xs.size -> xs.getD a 0 < xs.getD b 0
theorem fZ {xs : Array Nat} {j : Nat} (hr : iU xs) : ∀ (fuel lo hi : Nat), lo <= hi -> hi <= xs.size -> hi - lo <= fuel -> (∀ a, a < lo -> xs.getD a 0 < j) -> (∀ a, hi <= a -> a < xs.size -> j <= xs.getD a 0) →
  (below.go xs j fuel lo hi <= xs.size) /\ (∀ a, a < below.go xs j fuel lo hi -> xs.getD a 0 < j) /\ ∀ a, below.go xs j fuel lo hi <= a -> a < xs.size -> j <= xs.getD a 0
 | 0, lo, hi, h1, h2, h3, h4, h5 => by
  have : lo = hi := by omega
  subst this
  exact ⟨h2, h4, h5⟩
 | fuel + 1, lo, hi, h1, h2, h3, h4, h5 => by
  unfold below.go
  by_cases hlt : lo < hi
  ·rw [if_pos hlt]
   have hm : (lo + hi) / 2 < hi /\ lo <= (lo + hi) / 2 := by omega
   have hg : xs.getD ((lo + hi) / 2) j = xs.getD ((lo + hi) / 2) 0 := by
    have : (lo + hi) / 2 < xs.size := by omega
    simp [Array.getD, this]
   simp only [hg]
   split
   ·rename_i z
    refine fZ hr fuel _ hi (by omega) h2 (by omega) (fun a ha => ?_) h5
    by_cases e : a = (lo + hi) / 2
    ·rw [e]; exact z
    ·exact Nat.lt_trans (hr a ((lo + hi) / 2) (by omega) (by omega)) z
   ·rename_i z
    refine fZ hr fuel lo _ (by omega) (by omega) (by omega) h4 fun a ha hs => ?_
    by_cases e : a = (lo + hi) / 2
    ·rw [e]; omega
    ·have := hr ((lo + hi) / 2) a (by omega) hs
     omega
  ·rw [if_neg hlt]
   have : lo = hi := by omega
   subst this
   exact ⟨h2, h4, h5⟩
theorem lF {xs : Array Nat} (hr : iU xs) (j : Nat) : below xs j <= xs.size /\ (∀ a, a < below xs j -> xs.getD a 0 < j) /\ ∀ a, below xs j <= a -> a < xs.size -> j <= xs.getD a 0 :=
 fZ hr xs.size 0 xs.size (zAZ _) (zAH _) (by omega) (fun a h => absurd h (Nat.not_lt_zero _)) fun a h h' => by omega
theorem cj {xs : Array Nat} {a x : Nat} (h : xs[a]? = some x) : xs.getD a 0 = x /\ a < xs.size := by
 obtain ⟨l, e⟩ := zAm.mp h
 exact ⟨by simp [Array.getD, l, e], l⟩
theorem jt {xs : Array Nat} {a : Nat} (h : a < xs.size) : xs[a]? = some (xs.getD a 0) := by simp [Array.getD, h]
def ahead (mask : Nat) (c : Nat) (p : Probe) : List Nat := List.range' p.j (p.more + 1) ++ runs mask c (leap mask p.i p.perturb).1 (leap mask p.i p.perturb).2
structure Tab (t : SetTable) (hs : List Int) : Prop where
 k : ∃ k, t.mask + 1 = 2 ^ (k + 1)
 rise : iU t.place
 le : ∀ x ∈ t.place.toList, x <= t.mask
 dum : t.dummies = #[]
 len : t.place.size = hs.length
 room : t.place.size <= t.mask
 reach : ∀ (a x : Nat) (h : Int), t.place[a]? = some x -> hs[a]? = some h -> ∃ pre post, cT t.mask h = pre ++ x :: post /\ ∀ y ∈ pre, y ∈ t.place.toList
theorem Tab.stays {t : SetTable} {hs : List Int} (T : Tab t hs) : t.gaveWay = false := by
 obtain ⟨k, e⟩ := T.k
 unfold SetTable.gaveWay
 rw [zAg] at e
 have : t.mask % 2 = 1 := by omega
 rw [this]
 rfl
theorem pD {xs : Array Nat} (hr : iU xs) {a b x y : Nat} (ha : xs[a]? = some x) (hb : xs[b]? = some y) (h : x < y) : a < b := by
 obtain ⟨e1, l1⟩ := cj ha
 obtain ⟨e2, l2⟩ := cj hb
 rcases Nat.lt_trichotomy a b with z | z | z
 ·exact z
 ·subst z; omega
 ·have := hr b a z l1
  omega
theorem kS {xs : Array Nat} {x : Nat} (h : x ∈ xs.toList) : ∃ a : Nat, xs[a]? = some x := by
 obtain ⟨a, hla, ea⟩ := List.getElem_of_mem h
 exact ⟨a, by rw [<- zAq, List.getElem?_eq_getElem hla, ea]⟩
theorem get_mem {xs : Array Nat} {a x : Nat} (h : xs[a]? = some x) : x ∈ xs.toList := by
 obtain ⟨l, q⟩ := zAm.mp h
 rw [<- q]
 exact Array.getElem_mem_toList l
theorem qI {xs : Array Nat} (hr : iU xs) {mask : Nat} (hs : xs.size <= mask) : ∃ e, e <= mask /\ e ∉ xs.toList := by
 refine zBB fun no => ?_
 have all : ∀ e, e <= mask -> e ∈ xs.toList := fun e he => zBB fun n => no ⟨e, he, n⟩
 have up : ∀ j, j <= mask -> ∃ a, xs[a]? = some j /\ j <= a := by
  intro j
  induction j with
  | zero => intro h; obtain ⟨a, ha⟩ := kS (all 0 h); exact ⟨a, ha, zAZ _⟩
  | succ j ih =>
   intro h
   obtain ⟨a, ha, hja⟩ := ih (by omega)
   obtain ⟨b, hb⟩ := kS (all (j + 1) h)
   have := pD hr ha hb (by omega)
   exact ⟨b, hb, by omega⟩
 obtain ⟨a, ha, hm⟩ := up mask (zAH _)
 have := (cj ha).2
 omega
theorem Tab.empty {t : SetTable} {hs : List Int} (T : Tab t hs) (h : Int) : ∃ x ∈ cT t.mask h, x ∉ t.place.toList := by
 obtain ⟨e, he, ne⟩ := qI T.rise T.room
 obtain ⟨k, hk⟩ := T.k
 exact ⟨e, cover hk h he, ne⟩
theorem fL (mask : Nat) (h : Int) : ∀ x ∈ cT mask h, x <= mask := lu (by have := Nat.mod_lt (bits h) (show 0 < mask + 1 by omega); omega)
theorem gh {α : Type} (xs : Array α) (p : Nat) (x : α) : (insertAt xs p x).toList = xs.toList.take p ++ x :: xs.toList.drop p := by
 unfold insertAt
 simp
 exact List.take_of_length_le (by rw [zA7, zAd]; exact zAH _)
theorem get_ins {α : Type} {l : List α} {p : Nat} (hp : p <= l.length) (x : α) (a : Nat) : (l.take p ++ x :: l.drop p)[a]? = if a < p then l[a]? else if a = p then some x else l[a - 1]? := by
 by_cases h : a < p
 ·rw [if_pos h, zAV (by rw [zAh]; omega), List.getElem?_take, if_pos h]
 ·rw [if_neg h, zAM (by rw [zAh]; omega), zAh, Nat.min_eq_left hp]
  by_cases e : a = p
  ·rw [if_pos e, e, Nat.sub_self]; rfl
  ·rw [if_neg e, show a - p = (a - p - 1) + 1 by omega, List.getElem?_cons_succ, List.getElem?_drop, show p + (a - p - 1) = a - 1 by omega]
theorem Tab.put {t : SetTable} {hs : List Int} (T : Tab t hs) {h : Int} {j : Nat} {pre post : List Nat} (hj : j ∉ t.place.toList) (hv : cT t.mask h = pre ++ j :: post) (hp : ∀ y ∈ pre, y ∈ t.place.toList) (hroom : t.place.size + 1 <= t.mask) :
  Tab (t.put j).1 (hs.take (t.put j).2 ++ h :: hs.drop (t.put j).2) /\ (t.put j).2 <= hs.length /\ (t.put j).1.mask = t.mask /\ (t.put j).1.place.size = t.place.size + 1 := by
 have e1 : (t.put j).1.place = insertAt t.place (below t.place j) j := rfl
 have e2 : (t.put j).2 = below t.place j := rfl
 have e3 : (t.put j).1.mask = t.mask := rfl
 have e4 : (t.put j).1.dummies = #[] := by
  show (if has t.dummies j then _ else t.dummies) = _
  rw [T.dum]
  have : has #[] j = false := by unfold has; simp
  rw [this]
  rfl
 obtain ⟨b1, b2, b3⟩ := lF T.rise j
 have bp : below t.place j <= t.place.toList.length := by rw [zAd]; exact b1
 have bh : below t.place j <= hs.length := by rw [<- T.len]; exact b1
 have gl : ∀ a, (t.put j).1.place[a]? = if a < below t.place j then t.place[a]? else if a = below t.place j then some j else t.place[a - 1]? := fun a => by
  rw [e1, <- zAq, gh, get_ins bp, zAq, zAq]
 have sz : (t.put j).1.place.size = t.place.size + 1 := by
  rw [e1, <- zAd, gh, zAQ, zAh, zAu, zA7, zAd]
  omega
 have mem : ∀ x, x ∈ (t.put j).1.place.toList ↔ x = j ∨ x ∈ t.place.toList := fun x => by
  rw [e1, gh, zAl, zAU]
  constructor
  ·rintro (z | z | z)
   ·exact .inr (List.mem_of_mem_take z)
   ·exact .inl z
   ·exact .inr (List.mem_of_mem_drop z)
  ·rintro (z | z)
   ·exact .inr (.inl z)
   ·rw [<- List.take_append_drop (below t.place j) t.place.toList] at z
    rcases zAl.mp z with q | q
    ·exact .inl q
    ·exact .inr (.inr q)
 refine ⟨⟨T.k, ?_, ?_, e4, ?_, by rw [sz]; exact hroom, ?_⟩, bh, e3, sz⟩
 ·intro a b hab hb
  rw [sz] at hb
  have ga := jt (xs := (t.put j).1.place) (a := a) (by rw [sz]; omega)
  have gb := jt (xs := (t.put j).1.place) (a := b) (by rw [sz]; exact hb)
  rw [gl a] at ga
  rw [gl b] at gb
  have jn : ∀ c, c < t.place.size -> t.place.getD c 0 ≠ j := fun c hc e => hj (by rw [<- e]; exact get_mem (jt hc))
  by_cases a1 : a < below t.place j
  ·rw [if_pos a1] at ga
   obtain ⟨ea, la⟩ := cj ga
   have := b2 a a1
   by_cases c1 : b < below t.place j
   ·rw [if_pos c1] at gb
    obtain ⟨eb, lb⟩ := cj gb
    have := T.rise a b hab lb
    omega
   ·rw [if_neg c1] at gb
    by_cases c2 : b = below t.place j
    ·rw [if_pos c2] at gb
     have := zAR gb
     omega
    ·rw [if_neg c2] at gb
     obtain ⟨eb, lb⟩ := cj gb
     have := T.rise a (b - 1) (by omega) lb
     omega
  ·rw [if_neg a1] at ga
   have c1 : ¬ b < below t.place j := by omega
   have c2 : ¬ b = below t.place j := by omega
   rw [if_neg c1, if_neg c2] at gb
   obtain ⟨eb, lb⟩ := cj gb
   by_cases a2 : a = below t.place j
   ·rw [if_pos a2] at ga
    have := zAR ga
    have := b3 (b - 1) (by omega) lb
    have := jn (b - 1) lb
    omega
   ·rw [if_neg a2] at ga
    obtain ⟨ea, la⟩ := cj ga
    have := T.rise (a - 1) (b - 1) (by omega) lb
    omega
 ·intro x hx
  rcases (mem x).mp hx with z | z
  ·subst z
   exact fL t.mask h x (by rw [hv]; simp)
  ·exact T.le x z
 ·rw [sz, e2, zAQ, zAh, zAu, zA7, <- T.len]
  omega
 ·intro a x h' hx hh
  rw [gl a] at hx
  rw [e2, get_ins bh] at hh
  have up : ∀ {l : List Nat}, (∀ y ∈ l, y ∈ t.place.toList) -> ∀ y ∈ l, y ∈ (t.put j).1.place.toList := fun hl y hy => (mem y).mpr (.inr (hl y hy))
  by_cases a1 : a < below t.place j
  ·rw [if_pos a1] at hx hh
   obtain ⟨p1, p2, q1, q2⟩ := T.reach a x h' hx hh
   exact ⟨p1, p2, q1, up q2⟩
  ·rw [if_neg a1] at hx hh
   by_cases a2 : a = below t.place j
   ·rw [if_pos a2] at hx hh
    cases hx
    cases hh
    exact ⟨pre, post, hv, up hp⟩
   ·rw [if_neg a2] at hx hh
    obtain ⟨p1, p2, q1, q2⟩ := T.reach (a - 1) x h' hx hh
    exact ⟨p1, p2, q1, up q2⟩
theorem ix (mask : Nat) (owner : Array (Option Nat)) : ∀ (fuel i pt : Nat), layClean.free mask owner fuel i pt = (runs mask fuel i pt).find? fun y => (owner.getD y (some 0)).isNone
 | 0, _, _ => rfl
 | fuel + 1, i, pt => by
  rw [nX, List.find?_append, List.range'_eq_map_range, List.find?_map]
  unfold layClean.free
  have ih := ix mask owner fuel (leap mask i pt).1 (leap mask i pt).2
  have ef : ((fun y => (owner.getD y (some 0)).isNone) ∘ fun x => i + x) = fun k => (owner.getD (i + k) (some 0)).isNone := rfl
  rw [ef]
  cases (List.range (runEnd mask i + 1 - i)).find? fun k => (owner.getD (i + k) (some 0)).isNone with
  | some k => rfl
  | none => exact ih
structure Ow (mask : Nat) (hs : List Int) (owner : Array (Option Nat)) : Prop where
 size : owner.size = mask + 1
 cnt : (owner.toList.filter Option.isSome).length = hs.length
 at_ : ∀ (i : Nat) (h : Int), hs[i]? = some h -> ∃ j : Nat, owner[j]? = some (some i) /\ ∃ pre post, cT mask h = pre ++ j :: post /\ ∀ y ∈ pre, ∃ q, owner[y]? = some (some q)
 lt : ∀ j i : Nat, owner[j]? = some (some i) -> i < hs.length
 inj : ∀ j j' i : Nat, owner[j]? = some (some i) -> owner[j']? = some (some i) -> j = j'
theorem gB {α : Type} {p : α -> Bool} : ∀ {l : List α} {x : α}, l.find? p = some x -> ∃ pre post, l = pre ++ x :: post /\ p x = true /\ ∀ y ∈ pre, p y = false
 | [], _, h => by cases h
 | a :: r, x, h => by
  rw [zAx] at h
  cases pa : p a with
  | true => rw [pa] at h; cases h; exact ⟨[], r, rfl, pa, by simp⟩
  | false =>
   rw [pa] at h
   obtain ⟨pre, post, e, q1, q2⟩ := gB h
   refine ⟨a :: pre, post, by rw [e]; rfl, q1, fun y hy => ?_⟩
   rcases zAU.mp hy with z | z
   ·rw [z]; exact pa
   ·exact q2 y z
theorem gA {α : Type} {p : α -> Bool} : ∀ {l : List α} {j : Nat} {a b : α}, l[j]? = some a -> p a = false -> p b = true -> ((l.set j b).filter p).length = (l.filter p).length + 1
 | [], _, _, _, h, _, _ => by simp at h
 | x :: r, 0, a, b, h, ha, hb => by
  simp at h
  subst h
  rw [zA4, List.filter_cons_of_pos hb, List.filter_cons_of_neg (by simp [ha]), zAu]
 | x :: r, j + 1, a, b, h, ha, hb => by
  have ih := gA (l := r) (j := j) (by simpa using h) ha hb
  rw [zA3]
  by_cases c : p x = true
  ·rw [List.filter_cons_of_pos c, List.filter_cons_of_pos c, zAu, zAu, ih]
  ·rw [List.filter_cons_of_neg c, List.filter_cons_of_neg c, ih]
theorem Ow.step {mask k : Nat} (hk : mask + 1 = 2 ^ k) {hs : List Int} {owner : Array (Option Nat)} (O : Ow mask hs owner) (hn : hs.length <= mask) (h : Int) :
  ∃ j, layClean.free mask owner (turns mask) (bits h % (mask + 1)) (bits h) = some j /\ Ow mask (hs ++ [h]) (owner.setIfInBounds j (some hs.length)) := by
 have ex : ∃ e : Nat, e <= mask /\ owner[e]? = some none := by
  refine zBB fun no => ?_
  have all : ∀ x ∈ owner.toList, Option.isSome x = true := fun x hx => by
   obtain ⟨e, le, ee⟩ := List.getElem_of_mem hx
   rw [zAd, O.size] at le
   cases x with
   | some _ => rfl
   | none => exact absurd ⟨e, by omega, by rw [<- zAq, List.getElem?_eq_getElem (by rw [zAd, O.size]; exact le), ee]⟩ no
  have := O.cnt
  rw [List.filter_eq_self.mpr all, zAd, O.size] at this
  omega
 have emp : ∀ y, y <= mask -> ((owner.getD y (some 0)).isNone = true ↔ owner[y]? = some none) := fun y hy => by
  have l : y < owner.size := by rw [O.size]; omega
  rw [zBA l]
  simp [Array.getD, l]
 obtain ⟨e, he, ee⟩ := ex
 have fs : ((cT mask h).find? fun y => (owner.getD y (some 0)).isNone).isSome = true := by
  rw [List.find?_isSome]
  exact ⟨e, cover hk h he, (emp e he).mpr ee⟩
 obtain ⟨j, fj⟩ := Option.isSome_iff_exists.mp fs
 obtain ⟨pre, post, ev, pj, pp⟩ := gB fj
 have jm : j <= mask := fL mask h j (by rw [ev]; simp)
 have oj := (emp j jm).mp pj
 have jl : j < owner.size := by rw [O.size]; omega
 refine ⟨j, by rw [ix]; exact fj, ?_⟩
 have gs : ∀ y : Nat, (owner.setIfInBounds j (some hs.length))[y]? = if j = y then some (some hs.length) else owner[y]? := fun y => by
  rw [Array.getElem?_setIfInBounds]
  by_cases c : j = y
  ·rw [if_pos c, if_pos c, if_pos jl]
  ·rw [if_neg c, if_neg c]
 have keep : ∀ (y q : Nat), owner[y]? = some (some q) -> (owner.setIfInBounds j (some hs.length))[y]? = some (some q) := fun y q hy => by
  rw [gs, if_neg (fun c => by subst c; rw [oj] at hy; cases hy)]
  exact hy
 refine ⟨by rw [Array.size_setIfInBounds]; exact O.size, ?_, ?_, ?_, ?_⟩
 ·rw [Array.toList_setIfInBounds, gA (a := none) (by rw [zAq]; exact oj) rfl rfl, O.cnt, zAQ]
  rfl
 ·intro i h' hi
  by_cases c : i < hs.length
  ·rw [zAV c] at hi
   obtain ⟨j', o', p1, p2, q1, q2⟩ := O.at_ i h' hi
   exact ⟨j', keep _ _ o', p1, p2, q1, fun y hy => let ⟨q, z⟩ := q2 y hy; ⟨q, keep _ _ z⟩⟩
  ·rw [zAM (by omega)] at hi
   have ei : i = hs.length := by
    have := (zAD.mp hi).1
    simp at this
    omega
   subst ei
   simp at hi
   subst hi
   refine ⟨j, by rw [gs, if_pos rfl], pre, post, ev, fun y hy => ?_⟩
   have ym : y <= mask := fL mask h y (by rw [ev]; simp [hy])
   have ny := pp y hy
   have yl : y < owner.size := by rw [O.size]; omega
   cases oy : owner[y] with
   | none =>
    have := (emp y ym).mpr (by rw [zBA yl, oy])
    rw [this] at ny
    cases ny
   | some q => exact ⟨q, keep y q (by rw [zBA yl, oy])⟩
 ·intro y i hy
  rw [gs] at hy
  rw [zAQ]
  by_cases c : j = y
  ·rw [if_pos c] at hy
   cases hy
   simp
  ·rw [if_neg c] at hy
   have := O.lt y i hy
   simp
   omega
 ·intro y y' i hy hy'
  rw [gs] at hy hy'
  by_cases c : j = y <;> by_cases c' : j = y'
  ·omega
  ·rw [if_pos c] at hy
   rw [if_neg c'] at hy'
   cases hy
   have := O.lt y' _ hy'
   omega
  ·rw [if_neg c] at hy
   rw [if_pos c'] at hy'
   cases hy'
   have := O.lt y _ hy
   omega
  ·rw [if_neg c] at hy
   rw [if_neg c'] at hy'
   exact O.inj y y' i hy hy'
theorem iV : ∀ (fuel size n : Nat), n < size * 2 ^ fuel -> ∃ m, sizeAbove.go n fuel size = size * 2 ^ m /\ n < size * 2 ^ m
 | 0, size, n, h => ⟨0, by simp [sizeAbove.go], h⟩
 | fuel + 1, size, n, h => by
  unfold sizeAbove.go
  by_cases c : size <= n
  ·rw [if_pos c]
   obtain ⟨m, e1, e2⟩ := iV fuel (size * 2) n (by rw [zAg] at h; rw [Nat.mul_assoc, Nat.mul_comm 2]; exact h)
   refine ⟨m + 1, ?_, ?_⟩
   ·rw [e1, zAg, Nat.mul_assoc, Nat.mul_comm 2]
   ·rw [zAg, Nat.mul_comm (2 ^ m), <- Nat.mul_assoc]; exact e2
  ·rw [if_neg c]
   exact ⟨0, by simp, by simp; omega⟩
theorem above {n : Nat} (h : n < 2 ^ 60) : ∃ k, sizeAbove n - 1 + 1 = 2 ^ (k + 1) /\ n <= sizeAbove n - 1 := by
 obtain ⟨m, e1, e2⟩ := iV 64 8 n (zAG h (by decide))
 have e : sizeAbove n = 8 * 2 ^ m := e1
 have hp := Nat.two_pow_pos m
 refine ⟨m + 2, ?_, by omega⟩
 rw [e, show 2 ^ (m + 2 + 1) = 8 * 2 ^ m by rw [zAg, zAg, zAg]; omega]
 omega
end ST
namespace SW
open PySem PySem.SetTable ST
section
variable {prog : Program} {w : World} {A : Around} {E : Value -> Shared -> Prop} {s : Shared}
abbrev TK (prog : Program) (w : World) : HeapKind prog w (List Int) := tupleKind (intKind prog w)
theorem items_int : ∀ {ks : List Int} {vs : List Value}, ItemsAre (intKind prog w) ks vs -> ∀ v ∈ vs, ∃ n t, v = Value.int n t
 | _, _, .nil, v, h => by cases h
 | _, _, .cons h t, v, hv => by
  rcases zAU.mp hv with z | z
  ·subst z
   obtain ⟨t, e⟩ := Value.isInt_shape h
   exact ⟨_, t, e⟩
  ·exact items_int t v z
structure ox (prog : Program) (w : World) (h : Heap) (a : Addr) (xs : List (List Int × Addr)) : Prop where
 ex : ∃ o es ep t, h.get? a = some o /\ o.ExactSet /\ o.data = .set es ep t /\ es.toList = xs.map (fun x => ((TK prog w).hash x.1, Value.ref x.2)) /\ Tab t (xs.map fun x => (TK prog w).hash x.1) /\ (t.plain = true /\ t.led = !w.params.followText "set-order") /\ t.place.size * 5 < t.mask * 3 /\ t.mask <= 8191
 is_ : ∀ x ∈ xs, (TK prog w).is h x.1 x.2
 nd : (xs.map (·.1)).Nodup
end
end SW
namespace SW
open PySem PySem.SetTable ST
section
variable {prog : Program} {w : World} {A : Around} {E : Value -> Shared -> Prop} {s : Shared}
theorem ox.ext {h h' : Heap} {a : Addr} {xs : List (List Int × Addr)} (S : ox prog w h a xs) (e : ∀ o, h.get? a = some o -> h'.get? a = some o) (hk : ∀ x ∈ xs, (TK prog w).is h' x.1 x.2) : ox prog w h' a xs := by
 obtain ⟨⟨o, es, ep, t, ho, r⟩, _, nd⟩ := S
 exact ⟨⟨o, es, ep, t, e o ho, r⟩, hk, nd⟩
end
end SW
namespace SW
open PySem PySem.SetTable ST
section
variable {prog : Program} {w : World} {A : Around} {E : Value -> Shared -> Prop} {s : Shared}
set_option maxHeartbeats 1000000 in
end
end SW
namespace SW
open PySem PySem.SetTable ST
section
variable {prog : Program} {w : World} {A : Around} {E : Value -> Shared -> Prop} {s : Shared}
end
end SW
namespace SS
open PySem PySem.W PyProof.Rows
section
variable {r : Nat -> Nat} {n : Nat}
def v (r : Nat -> Nat) (p : Array Nat) (k : Nat) : Nat := r (p.getD k 0)
def S (r : Nat -> Nat) (p : Array Nat) (k : Nat) : Prop := ∀ i j, i <= j -> j < k -> v r p i <= v r p j
def D (r : Nat -> Nat) (p : Array Nat) (k : Nat) : Prop := ∀ i j, i <= j -> j < k -> v r p j <= v r p i
structure Ok (n : Nat) (p : Array Nat) : Prop where
 perm : p.Perm (List.toArray (List.range n))
theorem Ok.size {p : Array Nat} (h : Ok n p) : p.size = n := by have := h.perm.size_eq; simpa using this
theorem Ok.lt {p : Array Nat} (h : Ok n p) {k : Nat} (hk : k < n) : p.getD k 0 < n := by
 have hs := h.size
 have e : p.getD k 0 = p[k]'(by omega) := by simp [Array.getD, hs, hk]
 have m : p[k]'(by omega) ∈ p.toList := by simp
 have := (zA9.mp h.perm).mem_iff.mp m
 rw [e]
 simpa using this
end
end SS
namespace SW
open PySem PySem.SetTable ST PySem.W PyProof.Rows
section
variable {prog : Program} {w : World} {A : Around} {E : Value -> Shared -> Prop} {s : Shared}
end
end SW
namespace TS
open PySem PyProof.Rows
structure Cmp (M : Model) (A : Around) (E : Value -> Shared -> Prop) (s : Shared) (r : Keyed -> Nat) (Mem : Keyed -> Prop) (k0 : SortKind) : Prop where
 lt : ∀ (x y : Keyed) (st : SortSt) (Q : Option Bool -> SortSt -> Prop), Mem x -> Mem y -> kindOf st = k0 -> Q (some (decide (r x < r y))) st -> wpS M A E s (lt' x y) Q st
structure Cut (B : Nat -> Bool) (n k : Nat) : Prop where
 le : k <= n
 lo : ∀ i, i < k -> B i = true
 hi : ∀ i, k <= i -> i < n -> B i = false
section
variable {M : Model} {A : Around} {E : Value -> Shared -> Prop} {s : Shared} {r : Keyed -> Nat} {Mem : Keyed -> Prop} {k0 : SortKind}
end
end TS
namespace TS
open PySem PyProof.Rows
section
variable {M : Model} {A : Around} {E : Value -> Shared -> Prop} {s : Shared} {r : Keyed -> Nat} {Mem : Keyed -> Prop} {k0 : SortKind}
end
structure MI (R : Keyed -> Keyed -> Prop) (T o a b : List Keyed) : Prop where
 p : (o ++ (a ++ b)).Perm T
 so : o.Pairwise R
 sa : a.Pairwise R
 sb : b.Pairwise R
 oa : ∀ x ∈ o, ∀ y ∈ a, R x y
 ob : ∀ x ∈ o, ∀ y ∈ b, R x y
section
variable {R : Keyed -> Keyed -> Prop} {T o a b : List Keyed}
theorem MI.left {a1 a2 : List Keyed} (h : MI R T o (a1 ++ a2) b) (q : ∀ x ∈ a1, ∀ y ∈ b, R x y) : MI R T (o ++ a1) a2 b where
 p := by have := h.p; rw [List.append_assoc] at this; rw [List.append_assoc]; exact this
 so := zAz.mpr ⟨h.so, (zAz.mp h.sa).1, fun x hx y hy => h.oa x hx y (zA8 _ hy)⟩
 sa := (zAz.mp h.sa).2.1
 sb := h.sb
 oa := fun x hx y hy => by
  rcases zAl.mp hx with c | c
  ·exact h.oa x c y (zAI _ hy)
  ·exact (zAz.mp h.sa).2.2 x c y hy
 ob := fun x hx y hy => by
  rcases zAl.mp hx with c | c
  ·exact h.ob x c y hy
  ·exact q x c y hy
theorem MI.swap (h : MI R T o a b) : MI R T o b a := ⟨(List.Perm.append_left _ List.perm_append_comm).trans h.p, h.so, h.sb, h.sa, h.ob, h.oa⟩
theorem MI.right {b1 b2 : List Keyed} (h : MI R T o a (b1 ++ b2)) (q : ∀ y ∈ b1, ∀ x ∈ a, R y x) : MI R T (o ++ b1) a b2 := (h.swap.left q).swap
theorem MI.last (h : MI R T o a b) (q : ∀ y ∈ b, ∀ x ∈ a, R y x) : (o ++ b ++ a).Pairwise R /\ (o ++ b ++ a).Perm T := by
 have h' : MI R T o a (b ++ []) := by rw [zAk]; exact h
 have m := h'.right q
 refine ⟨zAz.mpr ⟨m.so, m.sa, m.oa⟩, ?_⟩
 have := m.p
 rw [zAk] at this
 exact this
theorem MI.done (h : MI R T o a b) (q : a = [] ∨ b = []) : (o ++ a ++ b).Pairwise R /\ (o ++ a ++ b).Perm T := h.swap.last fun x hx y hy => by
 rcases q with q | q
 ·rw [q] at hx; cases hx
 ·rw [q] at hy; cases hy
theorem MI.start (h : a.Pairwise R) (h' : b.Pairwise R) : MI R (a ++ b) [] a b := ⟨List.Perm.refl _, .nil, h, h', fun _ z => (by cases z), fun _ z => (by cases z)⟩
theorem MI.len (h : MI R T o a b) : o.length + a.length + b.length = T.length := by
 have := h.p.length_eq
 rw [zAQ, zAQ] at this
 omega
end
structure rh (st st' : SortSt) : Prop where
 k : kindOf st' = kindOf st
 a : arrOf st' = arrOf st
 p : pendingOf st' = pendingOf st
 f : failedOf st' = failedOf st
theorem rh.refl (st : SortSt) : rh st st := ⟨rfl, rfl, rfl, rfl⟩
section
variable {M : Model} {A : Around} {E : Value -> Shared -> Prop} {s : Shared}
end
end TS
namespace TS
open PySem PyProof.Rows
section
variable {M : Model} {A : Around} {E : Value -> Shared -> Prop} {s : Shared} {r : Keyed -> Nat} {Mem : Keyed -> Prop} {k0 : SortKind}
section
variable {R : Keyed -> Keyed -> Prop} {T X : List Keyed} {a o : Array Keyed} {i : Nat}
end
structure Mid (r : Keyed -> Nat) (a b : Array Keyed) (o : Array Keyed) (i j : Nat) : Prop where
 m : MI (fun x y => r x <= r y) (a.toList ++ b.toList) o.toList (a.toList.drop i) (b.toList.drop j)
 hi : i + 1 < a.size
 hj : j < b.size
theorem Mid.sz {a b o : Array Keyed} {i j : Nat} (h : Mid r a b o i j) : i + j < a.size + b.size := by have := h.hi; have := h.hj; omega
end
end TS
namespace TS
open PySem PyProof.Rows
section
variable {M : Model} {A : Around} {E : Value -> Shared -> Prop} {s : Shared} {r : Keyed -> Nat} {Mem : Keyed -> Prop} {k0 : SortKind}
section
variable {R : Keyed -> Keyed -> Prop} {T X : List Keyed} {a o : Array Keyed} {n : Nat}
end
structure Mir (r : Keyed -> Nat) (a b : Array Keyed) (o : Array Keyed) (i j : Nat) : Prop where
 m : MI (fun x y => r y <= r x) (a.toList ++ b.toList) o.toList (a.toList.take i).reverse (b.toList.take j).reverse
 h0 : 0 < i
 hi : i <= a.size
 h1 : 1 < j
 hj : j <= b.size
end
end TS
namespace TS
open PySem PyProof.Rows
def rk (r : Keyed -> Nat) (xs : Array Keyed) (i : Nat) : Nat := match xs[i]? with
 | some p => r p
 | none => 0
def Seg (r : Keyed -> Nat) (xs : Array Keyed) (lo hi : Nat) : Prop := ∀ i j, lo <= i -> i <= j -> j < hi -> rk r xs i <= rk r xs j
section
variable {r : Keyed -> Nat} {xs : Array Keyed} {P W S : List Keyed}
end
section
variable {M : Model} {A : Around} {E : Value -> Shared -> Prop} {s : Shared} {r : Keyed -> Nat} {Mem : Keyed -> Prop} {k0 : SortKind}
end
end TS
namespace TS
open PySem PyProof.Rows
section
variable {r : Keyed -> Nat}
end
structure Nr (lo : Nat) (st st' : SortSt) : Prop where
 k : kindOf st' = kindOf st
 f : failedOf st' = failedOf st
 p : pendingOf st' = pendingOf st
 a : (arrOf st').Perm (arrOf st)
 fr : ∀ i, i < lo -> (arrOf st')[i]? = (arrOf st)[i]?
theorem Nr.refl (lo : Nat) (st : SortSt) : Nr lo st st := ⟨rfl, rfl, rfl, Array.Perm.refl _, fun _ _ => rfl⟩
theorem Nr.size {lo : Nat} {st st' : SortSt} (h : Nr lo st st') : (arrOf st').size = (arrOf st).size := h.a.size_eq
theorem Nr.trans {lo : Nat} {st st' st2 : SortSt} (h : Nr lo st st') (g : Nr lo st' st2) : Nr lo st st2 := ⟨g.k.trans h.k, g.f.trans h.f, g.p.trans h.p, g.a.trans h.a, fun i hi => (g.fr i hi).trans (h.fr i hi)⟩
section
variable {M : Model} {A : Around} {E : Value -> Shared -> Prop} {s : Shared} {r : Keyed -> Nat} {Mem : Keyed -> Prop} {k0 : SortKind}
theorem Nr.mem {lo : Nat} {st st' : SortSt} (h : Nr lo st st') (hm : ∀ x ∈ (arrOf st).toList, Mem x) : ∀ x ∈ (arrOf st').toList, Mem x := fun x hx => hm x ((zA9.mp h.a).mem_iff.mp hx)
end
end TS
namespace TS
open PySem PyProof.Rows
def Chain : List (Nat × Nat × Nat) -> Nat -> Nat -> Prop
 | [], s, e => s = e
 | q :: ps, s, e => q.1 = s /\ 0 < q.2.1 /\ Chain ps (s + q.2.1) e
theorem Chain.len : ∀ {ps : List (Nat × Nat × Nat)} {s e : Nat}, Chain ps s e -> s + ps.length <= e
 | [], s, e, h => by have h' : s = e := h; simp [h']
 | q :: ps, s, e, h => by
  obtain ⟨_, h2, h3⟩ := h
  have := Chain.len h3
  simp only [zAu]
  omega
theorem Chain.app : ∀ {ps qs : List (Nat × Nat × Nat)} {s e : Nat}, Chain (ps ++ qs) s e ↔ ∃ m, Chain ps s m /\ Chain qs m e
 | [], qs, s, e => ⟨fun h => ⟨s, rfl, h⟩, fun ⟨m, h1, h2⟩ => by have : s = m := h1; rw [this]; exact h2⟩
 | q :: ps, qs, s, e => by
  constructor
  ·rintro ⟨a, b, c⟩
   obtain ⟨m, h1, h2⟩ := Chain.app.mp c
   exact ⟨m, ⟨a, b, h1⟩, h2⟩
  ·rintro ⟨m, ⟨a, b, c⟩, h2⟩
   exact ⟨a, b, Chain.app.mpr ⟨m, c, h2⟩⟩
section
variable {M : Model} {A : Around} {E : Value -> Shared -> Prop} {s : Shared} {r : Keyed -> Nat} {Mem : Keyed -> Prop} {k0 : SortKind}
structure PI (r : Keyed -> Nat) (st st' : SortSt) (lo : Nat) : Prop where
 k : kindOf st' = kindOf st
 f : failedOf st' = failedOf st
 a : (arrOf st').Perm (arrOf st)
 ch : Chain (pendingOf st').toList 0 lo
 sg : ∀ q ∈ (pendingOf st').toList, Seg r (arrOf st') q.1 (q.1 + q.2.1)
theorem PI.size {st st' : SortSt} {lo : Nat} (h : PI r st st' lo) : (arrOf st').size = (arrOf st).size := h.a.size_eq
theorem PI.mem {st st' : SortSt} {lo : Nat} (h : PI r st st' lo) (hm : ∀ x ∈ (arrOf st).toList, Mem x) : ∀ x ∈ (arrOf st').toList, Mem x := fun x hx => hm x ((zA9.mp h.a).mem_iff.mp hx)
end
end TS
namespace SW
open PySem PyProof.Rows
section
variable {prog : Program} {w : World} {A : Around} {E : Value -> Shared -> Prop} {s : Shared}
end
end SW
namespace SW
open PySem PySem.SetTable ST PySem.W PyProof.Rows
section
variable {prog : Program} {w : World} {A : Around} {E : Value -> Shared -> Prop} {s : Shared}
end
end SW
namespace PD
open PySem PySem.Spec PyProof.Rows L2
section
variable {X : Cx} {pos : Pos}
theorem ba {K : PySem.W.Frag} {P : Bool -> Addr -> Prop} {H : Hp} : ∀ k : List Int, ae K P H (k.map PD.D.int) (k.map V.int)
 | [] => rfl
 | n :: k => ae.cons (Den.int n) (ba k)
end
end PD
namespace HT
open PySem PyProof.Rows
section
open PySem.SeqAt
open PySem.AutoSeq1 (wpAny_loadPart')
open PySem.MeetsSeq PySem.MeetsSeq2 PySem.MeetsSeq3
end
section
variable {prog : Program} {w : World} {A : Around} {E : Value -> Shared -> Prop} {s : Shared}
end
end HT
namespace SW
open PySem PySem.SetTable ST PySem.W PyProof.Rows
section
variable {prog : Program} {w : World} {A : Around} {E : Value -> Shared -> Prop} {s : Shared}
end
end SW
namespace SW
open PySem PySem.SetTable ST PySem.W PyProof.Rows
section
variable {prog : Program} {w : World} {A : Around} {E : Value -> Shared -> Prop} {s : Shared}
end
end SW
namespace SW
open PySem PySem.SetTable ST PySem.W PyProof.Rows
section
variable {prog : Program} {w : World} {A : Around} {E : Value -> Shared -> Prop} {s : Shared}
end
end SW
namespace PD
open PySem PySem.Spec PyProof.Rows L2
section
variable {X : Cx} {pos : Pos}
end
end PD
namespace PD
open PySem PySem.Spec PyProof.Rows L2
section
variable {X : Cx} {pos : Pos}
end
end PD
namespace SW
open PySem PySem.SetTable ST PySem.W PyProof.Rows
section
variable {prog : Program} {w : World} {A : Around} {E : Value -> Shared -> Prop} {s : Shared}
structure ow (prog : Program) (w : World) (h : Heap) (a : Addr) (xs : List (Int × Tok)) : Prop where
 ex : ∃ o es ep t, h.get? a = some o /\ o.ExactSet /\ o.data = .set es ep t /\ es.toList = xs.map (fun x => ((intKind prog w).hash x.1, Value.int x.1 x.2)) /\ Tab t (xs.map fun x => (intKind prog w).hash x.1) /\ (t.plain = true /\ t.led = !w.params.followText "set-order") /\ 7 <= t.mask
 nd : (xs.map (·.1)).Nodup
end
end SW
namespace SW
open PySem PySem.SetTable ST PySem.W PyProof.Rows
section
variable {prog : Program} {w : World} {A : Around} {E : Value -> Shared -> Prop} {s : Shared}
theorem ow.ext {h h' : Heap} {a : Addr} {xs : List (Int × Tok)} (S : ow prog w h a xs) (e : ∀ o, h.get? a = some o -> h'.get? a = some o) : ow prog w h' a xs := by
 obtain ⟨⟨o, es, ep, t, ho, r⟩, nd⟩ := S
 exact ⟨⟨o, es, ep, t, e o ho, r⟩, nd⟩
end
end SW
namespace SW
open PySem PySem.SetTable ST PySem.W PyProof.Rows
section
variable {prog : Program} {w : World} {A : Around} {E : Value -> Shared -> Prop} {s : Shared}
end
end SW
namespace PD
open PySem PySem.Spec PyProof.Rows L2
section
variable {X : Cx} {pos : Pos}
theorem dR : ∀ {out : List Value} {ms : List Int}, IntsAre out ms -> Vals (ms.map V.int) out
 | _, _, .nil => .nil
 | _, _, .cons n t r => .cons ⟨t, rfl⟩ (dR r)
end
end PD
namespace PD
open PySem PySem.Spec PyProof.Rows L2
section
variable {X : Cx}
def BDP (X : Cx) (pins : List (Addr × Obj)) (W : Own) (Q : D -> Prop) (f : Flow) (s1 : Shared) : Prop :=
 ∃ u v d σ' H', f = .ret u /\ Inv X pins σ' H' s1 /\ RelV v u /\ af X.H₀ H' /\ Den X.K (fun t a => W.B a ∨ (t = true /\ W.S a)) H' d v /\ Q d
abbrev DB := (D -> Prop) -> Ro -> Prop
def PBd (X : Cx) (ss : List Stmt) (t : DB) : Prop :=
 ∀ (pins : List (Addr × Obj)) (s : Shared) (σ : St) (H : Hp) (W : Own) (ρ : Ro) (Q : D -> Prop), Inv X pins σ H s -> Rel X W H σ ρ -> (∀ a o, X.H₀ a = some o -> W.S a) -> t Q ρ →
  wpAny (model X.prog X.w) X.A (execs ss X.env) (BDP X pins W Q) X.xe s
theorem Fwd.ent {W W' : Own} {H H' : Hp} {σ : St} {ρ : Ro} (f : Fwd W H W' H') (r : Rel X W H σ ρ) : af X.H₀ H' where
 kp := fun b o e n => f.kp b o (fun i z => by have := r.ke i b z; rw [e] at this; cases this) (r.ent.kp b o e n) n
 tb := fun b ps e => by
  obtain ⟨m1, h1⟩ := r.ent.tb b ps e
  obtain ⟨m2, h2⟩ := f.tb b _ h1
  exact ⟨m1 ++ m2, by rw [h2, zAp]⟩
 ok := fun k => f.ok (r.ent.ok k)
def tu (X : Cx) (t : DB) : TS := fun D σ H => ∃ W ρ Q, Rel X W H σ ρ /\ (∀ a o, X.H₀ a = some o -> W.S a) /\ t Q ρ /\ ∀ H' v d, af X.H₀ H' -> Den X.K (fun t a => W.B a ∨ (t = true /\ W.S a)) H' d v -> Q d -> D.rt v H'
theorem PBd.ps {ss : List Stmt} {t : DB} (h : PBd X ss t) : PSs X ss (tu X t) := by
 intro pins s σ H D I q
 obtain ⟨W, ρ, Q, r, s0, ht, k⟩ := q
 refine thn (h pins s σ H W ρ Q I r s0 ht) fun f s1 ⟨u, v, d, σ', H', e, I1, rv, sm, hd, qd⟩ => ?_
 subst e
 exact ⟨v, σ', H', I1, rv, k H' v d sm hd qd⟩
theorem PBd.nox {ss : List Stmt} {t : DB} (h : PBd X.nox ss t) : PBd X ss t := fun pins s σ H W ρ Q I r s0 hw =>
 wpAny_mono (h pins s σ H W ρ Q (I.wish _) (r.wish _) s0 hw) (fun _ _ ⟨u, v, d, σ', H', e, I1, q⟩ => ⟨u, v, d, σ', H', e, I1.unwish, q⟩) fun _ _ z => False.elim z
end
section
variable {P : Program} {w : World} {K : PySem.W.Frag} {mg : Str -> Option Value} {base : Heap}
end
end PD
namespace PD
open PySem PySem.Spec PyProof.Rows L2
section
variable {X : Cx}
theorem Rel.forget {W : Own} {H : Hp} {σ : St} {ρ : Ro} (r : Rel X W H σ ρ) (i : Nat) : Rel X W H σ (ρ.set i none) where
 val := fun j d h => by
  by_cases e : j = i
  ·subst e
   by_cases l : j < ρ.length
   ·rw [zAE l] at h; cases h
   ·rw [zAY (by rw [zAS]; omega)] at h; cases h
  ·rw [zAA (Ne.symm e)] at h; exact r.val j d h
 own := fun j d h => by
  by_cases e : j = i
  ·subst e
   by_cases l : j < ρ.length
   ·rw [zAE l] at h; cases h
   ·rw [zAY (by rw [zAS]; omega)] at h; cases h
  ·rw [zAA (Ne.symm e)] at h; exact r.own j d h
 inj := r.inj
 kn := r.kn
 ke := r.ke
 bt := r.bt
 st := r.st
 ent := r.ent
 tab := r.tab
theorem Rel.apart {W : Own} {H H' : Hp} {σ : St} {ρ : Ro} {Z : Addr -> Prop} (r : Rel X W H σ ρ) (ag : ∀ a, ¬ Z a -> H' a = H a) (ls : ∀ a, Z a -> ∃ us us', H a = some (.lst us) /\ H' a = some (.lst us')) (nO : ∀ i a, W.O i = some a -> ¬ Z a)
  (hv : ∀ (j : Nat) (d : D) (v : V), ρ[j]? = some (some (Sl.val d)) -> σ[j]? = some (some v) -> Den X.K W.bad H d v -> Den X.K (fun t a => W.bad t a ∨ Z a) H d v)
  (ho : ∀ (j : Nat) (x : OS), ρ[j]? = some (some (Sl.ob x)) -> ∃ zs, x = OS.lst zs /\ bX zs = true) (ent : af X.H₀ H') (tab : de X.K H') : Rel X W H' σ ρ := by
 have noT : ∀ c ws, SqT X.K H c ws -> SqT X.K H' c ws := fun c ws q => by
  have q' : H c = some (.tup ws) := q
  show H' c = _
  rw [ag c fun z => by obtain ⟨us, _, h1, _⟩ := ls c z; rw [h1] at q'; cases q']
  exact q'
 have noX : ∀ c u, Sol u -> H c = some u -> H' c = some u := fun c u n q => by
  rw [ag c fun z => by obtain ⟨us, _, h1, _⟩ := ls c z; rw [h1] at q; cases q; exact n]; exact q
 have noL : ∀ t c ws, ¬ (W.bad t c ∨ Z c) -> SqG X.K H t c ws -> ¬ W.bad t c /\ SqG X.K H' t c ws := fun t c ws n q => by
  have e := ag c fun z => n (.inr z)
  refine ⟨fun z => n (.inl z), ?_, fun z => ⟨by rw [e]; exact (q.2 z).1, (q.2 z).2⟩⟩
  rcases q.1 with (q | ⟨u, q⟩) | q
  ·exact .inl (.inl (by rw [e]; exact q))
  ·exact .inl (.inr ⟨u, by rw [e]; exact q⟩)
  ·exact .inr q
 have tr : ∀ c u, H c = some u -> ∃ u', H' c = some u' := fun c u q => by
  by_cases z : Z c
  ·obtain ⟨_, us', _, h2⟩ := ls c z; exact ⟨_, h2⟩
  ·exact ⟨u, by rw [ag c z]; exact q⟩
 refine ⟨fun j d h => ?_, fun j x h => ?_, r.inj, fun j a h => ?_, r.ke, fun a h => let ⟨u, q⟩ := r.bt a h; tr a u q, fun a h => let ⟨u, q⟩ := r.st a h; tr a u q, ent, tab⟩
 ·obtain ⟨v, h1, h2⟩ := r.val j d h
  exact ⟨v, h1, Den.map noT noL noX d v (hv j d v h h1 h2)⟩
 ·obtain ⟨zs, rfl, hz⟩ := ho j x h
  obtain ⟨a, vs, h1, h2, h3, h4⟩ := r.ownL j zs h
  refine ⟨a, .lst vs, h1, h2, by rw [ag a (nO j a h1)]; exact h3, .lst ?_⟩
  exact ae.map noT noL noX zs vs (ae.nol zs vs hz h4)
 ·obtain ⟨k1, k2, o, k3, k4⟩ := r.kn j a h
  exact ⟨k1, k2, o, by rw [ag a (nO j a h)]; exact k3, k4⟩
end
end PD
namespace PD
open PySem PySem.Spec PyProof.Rows L2
section
variable {X : Cx}
end
end PD
namespace PD
open PySem PySem.Spec PyProof.Rows L2
def FL (K : PySem.W.Frag) (x : Str) (st : Stmt) : Prop := ∃ (f : Addr) (oc : Value) (od : Option Addr) (kV dc pm : Value) (an : Option Addr) (cd ct : Value) (sl : Array (Option Value)),
 PySem.W.nsIn K mainGlobals x = some (some (.ref f)) /\ K.lookup f = some ⟨oc, od, .func (PySem.W.fnOf x x (aU st) (aJ st) (ak st) .none kV dc pm an cd ct), sl⟩ /\ PySem.W.codeIn K cd x = true /\ PySem.W.keepIn K (.ref f) = true
theorem FL.mk {K : PySem.W.Frag} {x : Str} {st : Stmt} {f : Addr} {oc : Value} {od : Option Addr} {kV dc pm : Value} {an : Option Addr} {cd ct : Value} {sl : Array (Option Value)} (a : PySem.W.nsIn K mainGlobals x = some (some (.ref f)))
  (b : K.lookup f = some ⟨oc, od, .func (PySem.W.fnOf x x (aU st) (aJ st) (ak st) .none kV dc pm an cd ct), sl⟩) (c : PySem.W.codeIn K cd x = true) (d : PySem.W.keepIn K (.ref f) = true) : FL K x st := ⟨f, oc, od, kV, dc, pm, an, cd, ct, sl, a, b, c, d⟩
theorem o9 {α : Type} : ∀ {us : List α}, us.length = 1 -> ∃ a, us = [a]
 | [a], _ => ⟨a, rfl⟩
theorem pb {α : Type} : ∀ {us : List α}, us.length = 2 -> ∃ a b, us = [a, b]
 | [a, b], _ => ⟨a, b, rfl⟩
theorem pf {α : Type} : ∀ {us : List α}, us.length = 3 -> ∃ a b c, us = [a, b, c]
 | [a, b, c], _ => ⟨a, b, c, rfl⟩
theorem ph {α : Type} : ∀ {us : List α}, us.length = 4 -> ∃ a b c d, us = [a, b, c, d]
 | [a, b, c, d], _ => ⟨a, b, c, d, rfl⟩
theorem l6 {α : Type} : ∀ {us : List α}, us.length = 5 -> ∃ a b c d e, us = [a, b, c, d, e]
 | [a, b, c, d, e], _ => ⟨a, b, c, d, e, rfl⟩
theorem FL.has {K : PySem.W.Frag} {x : Str} {st : Stmt} {h : Heap} {mg : Str -> Option Value} {k : Nat} {ps : List Str} {sp : DSp} (e : FL K x st) (P : Program) (w : World) (base : Heap) (X : K.In h) (G : h.Ns mainGlobals mg)
  (ok : ∀ {f : Addr} {fd : FuncData}, aD K x x st f fd -> aE P w K mg base (CX1 P w) k f fd ps (aM K sp))
  (hb : ∀ (kV dc pm : Value) (an : Option Addr) (cd ct : Value) (us : List Value), us.length = ps.length -> bindArgs (PySem.W.fnOf x x (aU st) (aJ st) (ak st) .none kV dc pm an cd ct) ⟨us, []⟩ = pure (ps.zip us) := by
   intro _ _ _ _ _ _ us hl
   first
    | (obtain ⟨a, e⟩ := o9 hl; subst e; rfl)
    | (obtain ⟨a, b, e⟩ := pb hl; subst e; rfl)
    | (obtain ⟨a, b, c, e⟩ := pf hl; subst e; rfl)
    | (obtain ⟨a, b, c, d, e⟩ := ph hl; subst e; rfl)
    | (obtain ⟨a, b, c, d, e', e⟩ := l6 hl; subst e; rfl)) : Has P w K mg base x k ps sp := by
 obtain ⟨f, oc, od, kV, dc, pm, an, cd, ct, sl, a, b, c, d⟩ := e
 exact ⟨f, _, ok (fR b c d), PySem.W.mg_of X G a, d, .all fun us hl => hb kV dc pm an cd ct us hl⟩
section
variable {X : Cx}
end
end PD
namespace PD
open PySem PySem.Spec PyProof.Rows L2
section
variable {X : Cx} {pos : Pos}
end
end PD
namespace HT
open PySem PyProof.Rows
section
open PySem.SeqAt
open PySem.AutoSeq1 (wpAny_loadPart')
open PySem.MeetsSeq PySem.MeetsSeq2 PySem.MeetsSeq3
end
section
variable {prog : Program} {w : World} {A : Around} {E : Value -> Shared -> Prop} {s : Shared}
end
end HT
namespace PD
open PySem PySem.Spec PyProof.Rows L2
section
variable {X : Cx}
end
end PD
namespace PD
open PySem PySem.Spec PyProof.Rows L2
section
variable {prog : Program} {w : World} {A : Around} {E : Value -> Shared -> Prop} {s : Shared} {p : Addr} {us : List Value} {Q : Value -> Shared -> Prop}
end
section
variable {X : Cx} {pos : Pos}
end
end PD
namespace PD
open PySem PySem.Spec PyProof.Rows L2
def tX (P : Program) (w : World) (K : PySem.W.Frag) (mg : Str -> Option Value) (base : Heap) (C : Addr) (m : Str) (k : Nat) (ps : List Str) (sp : DSp) : Prop :=
 ∃ f fd, aE P w K mg base (CX1 P w) k f fd ps (aM K sp) /\ Meth K C m f /\ Binds K fd ps []
section
variable {K : PySem.W.Frag} {P : Bool -> Addr -> Prop} {H : Hp}
end
section
variable {X : Cx} {k : Nat} {ps : List Str} {sp : DSp} {x m f : Str} {p pos apos : Pos} {e o : Expr} {es : List Expr} {te to : DE} {t : DA} {C : Addr}
def n5 (C : Addr) (ns : List Str) : Sp := fun vs H Q _ => ∃ x us dx, vs = .ref x :: us /\ us.length = ns.length /\ H x = some (.ins C dx []) /\ Q .non (L2.upd H x (.ins C dx (ns.zip us)))
def tW (P : Program) (w : World) (K : PySem.W.Frag) (mg : Str -> Option Value) (base : Heap) (x : Str) (C : Addr) (k : Nat) (ns : List Str) : Prop :=
 ∃ f fd ps, aE P w K mg base (CX1 P w) k f fd ps (n5 C ns) /\ Mk K C f /\ mg x = some (.ref C) /\ PX.fu K C /\ Binds K fd ps []
end
end PD
namespace PD
open PySem PySem.Spec PyProof.Rows L2
section
variable {X : Cx} {k : Nat} {ps : List Str} {sp : DSp} {x m f : Str} {p pos apos : Pos} {e o : Expr} {es : List Expr} {te to : DE} {t : DA} {C : Addr}
theorem tq {pins : List (Addr × Obj)} {σ : St} {H : Hp} {s : Shared} {P : Bool -> Addr -> Prop} {d : D} {v : V} {u : Value} (I : Inv X pins σ H s) (h : Den X.K P H d v) (r : RelV v u) : ∃ Hh : Heap -> Prop, PySem.W.KitX X.K u (tyV d) Hh /\ Hh s.heap /\ u ≠ .builtin "__main__.__loader__#opaque" := by
 cases d with
 | non => have z := h.non_; subst z; cases r; exact ⟨_, PySem.W.kitx_none, True.intro, (fun z => nomatch z)⟩
 | bl y => have z := h.bl_; subst z; cases r; exact ⟨_, PySem.W.kitx_bool, True.intro, (fun z => nomatch z)⟩
 | int i => have z := h.int_; subst z; obtain ⟨t, rfl⟩ := r; exact ⟨_, PySem.W.kitx_int, True.intro, (fun z => nomatch z)⟩
 | str y => have z := h.str_; subst z; obtain ⟨t, rfl⟩ := r; exact ⟨_, PySem.W.kitx_str, True.intro, (fun z => nomatch z)⟩
 | tup ds =>
  obtain ⟨a, vs, z, hq, _⟩ := h.tup_
  subst z
  cases r
  obtain ⟨its, rv, ⟨o, h1, h2, n, h3⟩, _⟩ := I.tuple hq.w
  exact ⟨_, PySem.W.kitx_tuple, ⟨o, h1, h2⟩, (fun z => nomatch z)⟩
 | lst _ ds =>
  obtain ⟨a, vs, z, _, hq, _⟩ := h.lst_
  subst z
  cases r
  obtain ⟨its, rv, ⟨o, n, h1, h2, _, h3⟩, _⟩ := I.list hq
  exact ⟨_, PySem.W.kitx_list, ⟨o, h1, h2⟩, (fun z => nomatch z)⟩
 | exc c' =>
  obtain ⟨a, z, hq, k⟩ := h.exc_
  subst z
  cases r
  exact ⟨_, PX.jw k, (I.hok a _ hq).1, (fun z => nomatch z)⟩
 | obj C ns ds =>
  obtain ⟨a, dx, vs, z, hq, _, k, _⟩ := h.obj_
  subst z
  cases r
  obtain ⟨od, hI⟩ := kJ (I.hok a _ hq)
  exact ⟨_, PySem.W.kitx_own k.pg k.hd k.at_ k.get k.takes k.obj, hI, (fun z => nomatch z)⟩
 | dic =>
  obtain ⟨a, z, hq⟩ := h.dic_
  subst z
  cases r
  exact ⟨_, PySem.W.kitx_dict, (I.hok a _ hq).1, (fun z => nomatch z)⟩
def oH (T U : String) (te : DE) : DE := fun ρ Q => te ρ fun d => Q (.bl (isT T d || isT U d))
theorem lW {T U : String} {y : Str} {p1 p2 p3 : Pos} {x1} (hg : Gl X "isinstance") (hm : X.mg "isinstance" = none) (hgT : Gl X x) (hmT : X.mg x = none) (hv : bootBuiltins x = some (.type T)) (hT : T = "int" ∨ T = "bool" ∨ T = "tuple" ∨ T = "list" ∨ T = "str")
  (hgU : Gl X y) (hmU : X.mg y = none) (hvU : bootBuiltins y = some (.type U)) (hU : U = "int" ∨ U = "bool" ∨ U = "tuple" ∨ U = "list" ∨ U = "str") (he : PED X e te)
  (hn : x ≠ "__name__" := by decide) (hdb : (x == ("__debug__" : Str)) = false := by decide) (hn2 : y ≠ "__name__" := by decide) (hdb2 : (y == ("__debug__" : Str)) = false := by decide)
  (hst : starEach [e, .Tuple [.Name x p1, .Name y p2] x1 p3] X.env = (false, eval e X.env) :: starEach [.Tuple [.Name x p1, .Name y p2] x1 p3] X.env := by rfl)
  (hst2 : starEach [.Tuple [.Name x p1, .Name y p2] x1 p3] X.env = (false, eval (.Tuple [.Name x p1, .Name y p2] x1 p3) X.env) :: starEach [] X.env := by rfl) (hst3 : (backTo pos (starEach [.Tuple [.Name x p1, .Name y p2] x1 p3] X.env)).any (·.1) = false := by rfl)
  (hs4 : starEach [.Name x p1, .Name y p2] X.env = (false, eval (.Name x p1) X.env) :: starEach [.Name y p2] X.env := by rfl) (hs5 : starEach [.Name y p2] X.env = (false, eval (.Name y p2) X.env) :: starEach [] X.env := by rfl) :
  PED X (.Call (.Name "isinstance" p) [e, .Tuple [.Name x p1, .Name y p2] x1 p3] [] pos) (oH T U te) := by
 intro pins s σ H W ρ Q I rr h
 have hpt : PE X (.Tuple [.Name x p1, .Name y p2] x1 p3) (pG (cA (tC (.ty T)) (cA (tC (.ty U)) hZ))) := sC (bD (fV hgT hmT hv rfl hn hdb) (bD (fV hgU hmU hvU rfl hn2 hdb2) dm hs5) hs4)
 have hpa : PA X [e, .Tuple [.Name x p1, .Name y p2] x1 p3] (cA (iR X te) (cA (pG (cA (tC (.ty T)) (cA (tC (.ty U)) hZ))) hZ)) := bD he.pe (bD hpt dm hst2) hst
 refine wpAny_Call_Name_kw (cq I hg hm boot_isinstance ?_ (by decide) (by decide))
 refine PyProof.Rows.callWith_builtin1 (thn (hpa pos pins s σ H (fun vs H1 => ∃ v d a, vs = [v, .ref a] /\ af H H1 /\ Den X.K W.bad H1 d v /\ H1 a = some (.tup [.ty T, .ty U]) /\ Q (.bl (isT T d || isT U d))) I
  ⟨W, ρ, _, rr, h, fun v H1 d e1 hd q1 => ⟨by rw [sizeLine_eq]; show 2 <= _; omega, fun a ha => ⟨v, d, a, rfl, e1.trans (af.upd ha), hd.same (af.upd ha), aw, q1⟩⟩⟩) fun us s1 ⟨vs, H1, I1, rv, v, d, a, ev, e1, hd, ha, q1⟩ => ?_) hst hst3
 subst ev
 cases rv with
 | cons r1 rr =>
  cases rr with
  | cons r2 rr =>
   cases rr
   cases r2
   obtain ⟨Hh, Z, hp, no⟩ := tq I1 hd r1
   obtain ⟨_, its, rv, o, h1, h2, n, h3⟩ := (show aN X.prog X.w H1 s1.heap a (.tup [.ty T, .ty U]) from I1.hok a _ ha)
   have hits : its = [.type T, .type U] := by
    cases rv with
    | cons a1 rv =>
     cases rv with
     | cons a2 rv =>
      cases rv
      cases (show _ = Value.type T from a1)
      cases (show _ = Value.type U from a2)
      rfl
   subst hits
   obtain ⟨oc, od, dat, sl⟩ := o
   cases h2
   cases h3
   have kk : ∀ {V : String}, (V = "int" ∨ V = "bool" ∨ V = "tuple" ∨ V = "list" ∨ V = "str") -> PySem.W.kitOne X.K (tyV d) (.type V) = some (isT V d) := fun hV => kit_ans X.K d (fun c z => by subst z; exact hd.exc_.choose_spec.2.2) (fun C ns ds z => by subst z; obtain ⟨_, _, _, _, _, _, k, _⟩ := hd.obj_; exact k) hV
   refine PySem.W.kia_tup Z I1.kIn hp h1 (b := isT T d || isT U d) ?_ no fun tk => ⟨.bl _, H1, _, I1.tok tk, rfl, e1, Den.bl _, q1⟩
   unfold PySem.W.kitAny PySem.W.kitAny PySem.W.kitAny
   rw [kk hT, kk hU]
   cases isT T d <;> cases isT U d <;> rfl
end
end PD
namespace PD
open PySem PySem.Spec PyProof.Rows L2
def oD (K : PySem.W.Frag) (C : Addr) : Bool := PySem.W.plainGet K C Str.empty && PySem.W.hasDictIn K C && PySem.W.plainOver K C && PySem.W.findIn K (.ref C) "__setattr__" == some (some (.builtin "object.__setattr__"))
theorem oD.of {K : PySem.W.Frag} {C : Addr} (h : oD K C = true) : Cls K C := by
 unfold oD at h
 simp only [zAW, beq_iff_eq] at h
 exact ⟨h.1.1.1, h.1.1.2, h.1.2, h.2⟩
def FLM (K : PySem.W.Frag) (C : Addr) (m qual : Str) (st : Stmt) : Prop := ∃ (f : Addr) (oc : Value) (od : Option Addr) (kV dc pm : Value) (an : Option Addr) (cd ct : Value) (sl : Array (Option Value)),
 PySem.W.findIn K (.ref C) m = some (some (.ref f)) /\ PySem.W.isFn K (.ref f) = true /\ K.lookup f = some ⟨oc, od, .func (PySem.W.fnOf m qual (aU st) (aJ st) (ak st) .none kV dc pm an cd ct), sl⟩ /\ PySem.W.codeIn K cd qual = true /\ PySem.W.keepIn K (.ref f) = true
theorem FLM.mk {K : PySem.W.Frag} {C : Addr} {m qual : Str} {st : Stmt} {f : Addr} {oc : Value} {od : Option Addr} {kV dc pm : Value} {an : Option Addr} {cd ct : Value} {sl : Array (Option Value)} (a : PySem.W.findIn K (.ref C) m = some (some (.ref f))) (i : PySem.W.isFn K (.ref f) = true)
  (b : K.lookup f = some ⟨oc, od, .func (PySem.W.fnOf m qual (aU st) (aJ st) (ak st) .none kV dc pm an cd ct), sl⟩) (c : PySem.W.codeIn K cd qual = true) (d : PySem.W.keepIn K (.ref f) = true) : FLM K C m qual st := ⟨f, oc, od, kV, dc, pm, an, cd, ct, sl, a, i, b, c, d⟩
section
variable {K : PySem.W.Frag} {C : Addr} {m qual : Str} {st : Stmt} {mg : Str -> Option Value} {k : Nat} {ps : List Str} {sp : DSp}
theorem FLM.has (e : FLM K C m qual st) (P : Program) (w : World) (base : Heap)
  (ok : ∀ {f : Addr} {fd : FuncData}, aD K m qual st f fd -> aE P w K mg base (CX1 P w) k f fd ps (aM K sp))
  (hb : ∀ (kV dc pm : Value) (an : Option Addr) (cd ct : Value) (us : List Value), us.length = ps.length -> bindArgs (PySem.W.fnOf m qual (aU st) (aJ st) (ak st) .none kV dc pm an cd ct) ⟨us, []⟩ = pure (ps.zip us) := by
   intro _ _ _ _ _ _ us hl
   first
    | (obtain ⟨a, e⟩ := o9 hl; subst e; rfl)
    | (obtain ⟨a, b, e⟩ := pb hl; subst e; rfl)
    | (obtain ⟨a, b, c, e⟩ := pf hl; subst e; rfl)
    | (obtain ⟨a, b, c, d, e⟩ := ph hl; subst e; rfl)
    | (obtain ⟨a, b, c, d, e', e⟩ := l6 hl; subst e; rfl)) : tX P w K mg base C m k ps sp := by
 obtain ⟨f, oc, od, kV, dc, pm, an, cd, ct, sl, a, i, b, c, d⟩ := e
 exact ⟨f, _, ok (fR b c d), ⟨a, i, d⟩, .all fun us hl => hb kV dc pm an cd ct us hl⟩
theorem FLM.made {x : Str} {ns : List Str} (e : FLM K C "__init__" qual st) (hm : PySem.W.makesIn K C = true) (hk : PySem.W.keepIn K (.ref C) = true) (hx : mg x = some (.ref C)) (ko : PX.fu K C) (P : Program) (w : World) (base : Heap)
  (ok : ∀ {f : Addr} {fd : FuncData}, aD K "__init__" qual st f fd -> aE P w K mg base (CX1 P w) k f fd ps (n5 C ns))
  (hb : ∀ (kV dc pm : Value) (an : Option Addr) (cd ct : Value) (us : List Value), us.length = ps.length -> bindArgs (PySem.W.fnOf "__init__" qual (aU st) (aJ st) (ak st) .none kV dc pm an cd ct) ⟨us, []⟩ = pure (ps.zip us) := by
   intro _ _ _ _ _ _ us hl
   first
    | (obtain ⟨a, e⟩ := o9 hl; subst e; rfl)
    | (obtain ⟨a, b, e⟩ := pb hl; subst e; rfl)
    | (obtain ⟨a, b, c, e⟩ := pf hl; subst e; rfl)
    | (obtain ⟨a, b, c, d, e⟩ := ph hl; subst e; rfl)
    | (obtain ⟨a, b, c, d, e', e⟩ := l6 hl; subst e; rfl)) : tW P w K mg base x C k ns := by
 obtain ⟨f, oc, od, kV, dc, pm, an, cd, ct, sl, a, i, b, c, d⟩ := e
 exact ⟨f, _, ps, ok (fR b c d), ⟨hm, a, i, hk⟩, hx, ko, .all fun us hl => hb kV dc pm an cd ct us hl⟩
end
end PD
namespace PD
open PySem PySem.Spec PyProof.Rows L2 PX
abbrev DM := Ro -> (LI -> Prop) -> Prop
def tY (K : PySem.W.Frag) (P : Bool -> Addr -> Prop) (H H' : Hp) : LI -> V -> Prop
 | .own ds, v => ∃ a vs, v = .ref a /\ H a = none /\ K.lookup a = none /\ H' a = some (.lst vs) /\ ae K (fun t b => P t b ∨ b = a) H' ds vs
 | .val d, v => Den K P H' d v
def PEM (X : Cx) (e : Expr) (t : DM) : Prop :=
 ∀ (pins : List (Addr × Obj)) (s : Shared) (σ : St) (H : Hp) (W : Own) (ρ : Ro) (Q : LI -> Prop), Inv X pins σ H s -> Rel X W H σ ρ -> t ρ Q →
  wpAny (model X.prog X.w) X.A (eval e X.env) (fun u s' => ∃ v H' li, Inv X pins σ H' s' /\ RelV v u /\ af H H' /\ tY X.K W.bad H H' li v /\ Q li) X.xe s
structure cD (K : PySem.W.Frag) (H : Hp) (D : Addr) (n : Nat) (bs : Nat -> Option Addr) : Prop where
 ok : ∀ k b, bs k = some b -> k < n /\ H b = none /\ K.lookup b = none /\ b ≠ D
 inj : ∀ k l b, bs k = some b -> bs l = some b -> k = l
theorem cD.nil {K : PySem.W.Frag} {H : Hp} {D : Addr} {n : Nat} : cD K H D n fun _ => none := ⟨fun _ _ h => (by cases h), fun _ _ _ h => (by cases h)⟩
theorem cD.up {K : PySem.W.Frag} {H : Hp} {D : Addr} {n m : Nat} {bs : Nat -> Option Addr} (h : cD K H D n bs) (l : n <= m) : cD K H D m bs := ⟨fun k b q => let ⟨a, r⟩ := h.ok k b q; ⟨zAG a l, r⟩, h.inj⟩
theorem cD.put {K : PySem.W.Frag} {H : Hp} {D a : Addr} {out : List LI} {x : LI} {bs : Nat -> Option Addr} (h : cD K H D out.length bs) (n : H a = none) (k : K.lookup a = none) (nd : a ≠ D) (new : ∀ k, bs k = some a -> False) :
  cD K H D (out ++ [x]).length fun k => if k = out.length then some a else bs k := ⟨fun l b q => by
  rw [zAQ, zA6]
  by_cases e : l = out.length
  ·rw [if_pos e] at q; cases q; exact ⟨by omega, n, k, nd⟩
  ·rw [if_neg e] at q
   obtain ⟨a1, a2⟩ := h.ok l b q
   exact ⟨by omega, a2⟩, fun l m b q1 q2 => by
  by_cases e1 : l = out.length
  ·by_cases e2 : m = out.length
   ·rw [e1, e2]
   ·rw [if_pos e1] at q1; rw [if_neg e2] at q2; cases q1; exact (new m q2).elim
  ·by_cases e2 : m = out.length
   ·rw [if_neg e1] at q1; rw [if_pos e2] at q2; cases q2; exact (new l q1).elim
   ·rw [if_neg e1] at q1; rw [if_neg e2] at q2; exact h.inj l m b q1 q2⟩
section
variable {K : PySem.W.Frag} {P : Bool -> Addr -> Prop} {H : Hp} {B : Nat -> Option Addr}
theorem ao.snoc_val {d : D} {v : V} (h1 : Den K P H d v) : ∀ {k : Nat} {xs : List LI} {vs : List V}, ao K P H B k xs vs -> ao K P H B k (xs ++ [.val d]) (vs ++ [v])
 | k, [], _, h => by simp only [ao] at h; subst h; simp only [zBC, ao]; exact ⟨v, [], rfl, h1, rfl⟩
 | k, .own ds :: r, _, h => by
  simp only [ao] at h
  obtain ⟨b, us, u, rfl, q1, q2, q3, q4⟩ := h
  simp only [zAn, ao]
  exact ⟨b, us, _, rfl, q1, q2, q3, ao.snoc_val h1 q4⟩
 | k, .val e :: r, _, h => by
  simp only [ao] at h
  obtain ⟨w, u, rfl, q1, q2⟩ := h
  simp only [zAn, ao]
  exact ⟨w, _, rfl, q1, ao.snoc_val h1 q2⟩
theorem ao.snoc_own {ds : List D} {a : Addr} {ws : List V} : ∀ {k : Nat} {xs : List LI} {vs : List V}, ao K P H B k xs vs -> B (k + xs.length) = some a -> H a = some (.lst ws) -> ae K P H ds ws -> ao K P H B k (xs ++ [.own ds]) (vs ++ [.ref a])
 | k, [], _, h, hb, ha, hd => by simp only [ao] at h; subst h; simp only [zBC, ao]; exact ⟨a, ws, [], rfl, by simpa using hb, ha, hd, rfl⟩
 | k, .own es :: r, _, h, hb, ha, hd => by
  simp only [ao] at h
  obtain ⟨b, us, u, rfl, q1, q2, q3, q4⟩ := h
  simp only [zAn, ao]
  exact ⟨b, us, _, rfl, q1, q2, q3, ao.snoc_own q4 (by rw [<- hb]; congr 1; simp; omega) ha hd⟩
 | k, .val e :: r, _, h, hb, ha, hd => by
  simp only [ao] at h
  obtain ⟨w, u, rfl, q1, q2⟩ := h
  simp only [zAn, ao]
  exact ⟨w, _, rfl, q1, ao.snoc_own q2 (by rw [<- hb]; congr 1; simp; omega) ha hd⟩
end
section
variable {X : Cx}
theorem Rel.ban {W : Own} {H H' : Hp} {σ : St} {ρ : Ro} {p : Addr} {o : HO} (r : Rel X W H σ ρ) (sm : af H H') (hp : H p = none) (hk : X.K.lookup p = none) (h' : H' p = some o) :
  Rel X ⟨fun b => W.B b ∨ b = p, W.O, W.S⟩ H' σ ρ /\ ∀ ds vs, ae X.K W.bad H ds vs -> ae X.K (Own.bad ⟨fun b => W.B b ∨ b = p, W.O, W.S⟩) H' ds vs := by
 have bad' : ∀ t a, Own.bad ⟨fun b => W.B b ∨ b = p, W.O, W.S⟩ t a -> W.bad t a ∨ a = p := fun t a z => by
  rcases z with (z | z) | z | z
  ·exact .inl (.inl z)
  ·exact .inr z
  ·exact .inl (.inr (.inl z))
  ·exact .inl (.inr (.inr z))
 have nb : ∀ {t : Bool} {a : Addr} {ws : List V}, SqG X.K H t a ws -> a ≠ p := fun {t a ws} q z => by
  subst z
  rcases q.1 with (q | ⟨o, q⟩) | ⟨o, its, n, q, _⟩
  ·rw [hp] at q; cases q
  ·rw [hp] at q; cases q
  ·rw [hk] at q; cases q
 have up : ∀ (d : D) (v : V), Den X.K W.bad H d v -> Den X.K (Own.bad ⟨fun b => W.B b ∨ b = p, W.O, W.S⟩) H' d v := Den.map (fun _ _ q => SqT.same sm q) (fun t a ws n q => ⟨fun z => (bad' t a z).elim n (nb q), q.same sm⟩) (fun a _ n q => sm.kp a _ q n.nt)
 have ups : ∀ (ds : List D) (vs' : List V), ae X.K W.bad H ds vs' -> ae X.K (Own.bad ⟨fun b => W.B b ∨ b = p, W.O, W.S⟩) H' ds vs' := ae.map (fun _ _ q => SqT.same sm q) (fun t a ws n q => ⟨fun z => (bad' t a z).elim n (nb q), q.same sm⟩) (fun a _ n q => sm.kp a _ q n.nt)
 refine ⟨⟨fun j d h => ?_, fun j x h => ?_, r.inj, fun j a h1 => ?_, r.ke, fun a h => ?_, fun a h => let ⟨_, q⟩ := r.st a h; sm.ex q, r.ent.trans sm, r.tab.same sm⟩, ups⟩
 ·obtain ⟨w, h1, h2⟩ := r.val j d h
  exact ⟨w, h1, up d w h2⟩
 ·obtain ⟨a, ws, h1, h2, h3, h4⟩ := r.own j x h
  exact ⟨a, ws, h1, h2, sm.kp _ _ h3 h4.mut.nt, h4.map ups fun l b q => ⟨q, fun _ z => sm _ _ z⟩⟩
 ·obtain ⟨a1, ⟨n1, n2⟩, ws, a3, a4⟩ := r.kn j a h1
  exact ⟨a1, ⟨fun z => z.elim n1 fun e => (by subst e; rw [hp] at a3; cases a3), n2⟩, ws, sm.kp _ _ a3 a4.nt, a4⟩
 ·rcases h with h | h
  ·obtain ⟨_, q⟩ := r.bt a h; exact sm.ex q
  ·exact ⟨o, h ▸ h'⟩
end
section
variable {X : Cx} {pins : List (Addr × Obj)} {σ : St} {H : Hp} {s : Shared} {sc : Scope} {ns : List Str} {js : List Nat} {xs : List Str} {fp : List Addr}
theorem jX {elt iter tg : Expr} {ifs : List Expr} {pos : Pos} {g : DG} {te : DM} {tc : DT} {W : Own} {ρ : Ro} {J : It} {it : Addr} {tn : Nat -> Heap -> Prop} {ds : List D} {E : Value -> Shared -> Prop} {RR : Value -> Addr -> Result -> Shared -> Prop} (hc : X.calm = true) (S : CSc X.env.scope sc xs ns)
  (hj : js.length = ns.length /\ ∀ (i : Nat) (j : Nat) (n : Str), js[i]? = some j -> ns[i]? = some n -> X.N[j]? = some n)
  {Ed : Value -> Prop} (he : ∀ (C : Addr) (s₂ : Shared) (H₂ : Hp) (fp : List Addr) (XE : Value -> Shared -> Prop), bg (ax X sc ns xs C s₂ H₂ fp XE) Ed -> PEM (ax X sc ns xs C s₂ H₂ fp XE) elt te) (ht : ∀ (C : Addr) (s₂ : Shared) (H₂ : Hp) (fp : List Addr) (XE : Value -> Shared -> Prop), bg (ax X sc ns xs C s₂ H₂ fp XE) Ed -> TsD (ax X sc ns xs C s₂ H₂ fp XE) ifs tc)
  (hx : ∀ D C : Addr, bg (ax X sc ns xs C s H fp (aR X sc ns RR D C)) Ed) (I : Inv X pins σ H s) (r : Rel X W H σ ρ) (hg : ∀ (C : Addr) (s₂ : Shared) (H₂ : Hp) (fp : List Addr) (XE : Value -> Shared -> Prop), PGD (ax X sc ns xs C s₂ H₂ fp XE) tg g) (T : Turn X.prog X.w X.K tg J fp it tn) (st : tn 0 s.heap) (hfp : ∀ b ∈ fp, bF X pins H b) (yd : YD X.K W H J ds) (hz : ds.length <= sizeLine)
  (Pv : Nat -> List LI -> Prop) (p0 : Pv 0 []) (step : ∀ j d out ρ1, ds[j]? = some d -> Pv j out -> dS xs.length (js.map (aI ρ)) ρ1 -> g d ρ1 fun ρ2 => dS xs.length (js.map (aI ρ)) ρ2 /\ tc ρ2 fun b => if b = true then te ρ2 (fun e => Pv (j + 1) (out ++ [e])) else Pv (j + 1) out)
  (hRR : ∀ (D C : Addr) (s' : Shared) (H' : Hp) (m' : Str -> Option Value) (out : List LI) (bs : Nat -> Option Addr), Inv X pins σ H' s' -> af H H' -> s'.heap.Ns C m' -> H' C = none -> C ≠ X.env.locals -> X.s₀.heap.objs.size <= C -> (∀ y c, X.env.cells.lookup y = some c -> c ≠ C) -> (∀ p ∈ X.pn ++ pins, p.1 ≠ C) →
   (H D = none /\ X.K.lookup D = none /\ ∃ vs, H' D = some (.lst vs) /\ cD X.K H D out.length bs /\ (∀ k b, bs k = some b -> ∃ us, H' b = some (.lst us)) /\ ao X.K (fun t b => W.bad t b ∨ b = D ∨ ∃ k, bs k = some b) H' bs 0 out vs) -> Pv ds.length out -> RR (.ref D) C (.ok .next) s') :
  wpAny (model X.prog X.w) X.A (newList []) (fun acc s₃ => wpAny (model X.prog X.w) X.A (newFunctionEnv sc X.env.globals (bJ X.env ns) [] X.env.qual none .none (some X.env)) (fun cenv s₄ =>
   codeAny (model X.prog X.w) X.A (.compStart (.ListComp elt [⟨tg, iter, ifs, 0⟩] sc pos) 0 (.ref it) acc { cenv with scope := relabel sc X.env }) (RR acc cenv.locals) s₄) E s₃) E s := by
 refine wpAny_newObj_type (wpAny_newFunctionEnv S.nocell (by intro y hy; simp at hy) (fun h₁ hns₁ hsb₁ => ?_) S.kind)
 dsimp only at hns₁ hsb₁ ⊢
 generalize hH2 : s.heap.push { cls := .type "list", dict := none, data := .seq ([] : List Value).toArray } = HP at hns₁ hsb₁ ⊢
 have hC : HP.objs.size = s.heap.objs.size + 1 := by rw [<- hH2, zAs]
 have hDC : s.heap.objs.size ≠ HP.objs.size := by rw [hC]; exact zAT (Nat.lt_succ_self _)
 have hCle : s.heap.objs.size <= HP.objs.size := by rw [hC]; exact Nat.le_succ _
 have below : ∀ b, b < s.heap.objs.size -> b ≠ HP.objs.size := fun b hb => by rw [hC]; exact zAT (Nat.lt_succ_of_lt hb)
 have old : ∀ b o, s.heap.get? b = some o -> h₁.get? b = some o := fun b o e => hsb₁.extBut b o (below b (zAC e)) (zAB _ (hH2 ▸ zAB _ e))
 have hacc : h₁.get? s.heap.objs.size = some { cls := .type "list", data := .seq ([] : List Value).toArray } := hsb₁.extBut _ _ hDC (zAB _ (hH2 ▸ zAJ _ rfl))
 generalize eD : s.heap.objs.size = D at hDC hacc
 generalize eC : HP.objs.size = C at *
 have hDf : H D = none := by rw [<- eD]; exact I.hok.fresh (zAH _)
 have hKD : X.K.lookup D = none := by rw [<- eD]; exact Inv.kfresh I
 have hCf : H C = none := I.hok.fresh hCle
 have hfo : ∀ b ∈ fp, ∃ o, s.heap.get? b = some o := fun b hb => let ⟨o, e, _⟩ := T.obj 0 s.heap st b hb; ⟨o, e⟩
 have leD : s.heap.objs.size <= D := Nat.le_of_eq eD
 have okk : HOk X.prog X.w (L2.upd H D (.lst [])) h₁ := I.hok.laid old leD ⟨zAZ _, [], 0, .nil, hacc⟩
 have upCD : ∀ o, L2.upd H D o C = none := fun o => by rw [aj (Ne.symm hDC)]; exact hCf
 have I1 : Inv (ax X sc ns xs C s H fp (aR X sc ns RR D C)) [] (List.replicate xs.length none ++ js.map (cb σ)) (L2.upd H D (.lst [])) { s with heap := h₁, toks := s.toks + ([] : List (Str × Value)).length } :=
  Inv.comp I S hj hfp hfo hCle rfl I.bare old hns₁ (upCD _) (af.upd hDf) (fun b o e n => by rw [aj (fun z => absurd (zAC e) (by rw [z]; exact zAi.mpr leD))]; exact n) okk
 have nl : ∀ {a : Addr} {ws : List V}, SqL X.K H a ws -> a ≠ D := fun {a ws} q z => by
  subst z
  rcases q with (q | ⟨o, q⟩) | ⟨o, its, n, q, _⟩
  ·rw [hDf] at q; cases q
  ·rw [hDf] at q; cases q
  ·rw [hKD] at q; cases q
 let W' : Own := ⟨fun a => W.bad false a ∨ a = D, fun _ => none, W.S⟩
 have bad' : ∀ t a, W'.bad t a ↔ (W.bad t a ∨ a = D) := fun t a => ⟨fun z => by
  rcases z with (z | z) | ⟨_, q⟩ | ⟨z1, z2⟩
  ·exact .inl (Own.bad_up z)
  ·exact .inr z
  ·cases q
  ·exact .inl (.inr (.inr ⟨z1, z2⟩)), fun z => by
  rcases z with z | z
  ·rcases z with z | z | z
   ·exact .inl (.inl (.inl z))
   ·exact .inl (.inl (.inr (.inl z)))
   ·exact .inr (.inr z)
  ·exact .inl (.inr z)⟩
 have hT : ∀ {H' : Hp}, af H H' -> ∀ a vs, SqT X.K H a vs -> SqT X.K H' a vs := fun sm a vs q => SqT.same sm q
 have hL : ∀ {H' : Hp}, af H H' -> ∀ t a vs, ¬ W.bad t a -> SqG X.K H t a vs -> ¬ W'.bad t a /\ SqG X.K H' t a vs := fun sm t a vs n q => ⟨fun z => ((bad' t a).mp z).elim n (nl q.1), q.same sm⟩
 have relC : Rel (ax X sc ns xs C s H fp (aR X sc ns RR D C)) W' (L2.upd H D (.lst [])) (List.replicate xs.length none ++ js.map (cb σ)) (List.replicate xs.length none ++ js.map (aI ρ)) := by
  have sm : af H (L2.upd H D (.lst [])) := af.upd hDf
  have at_ : ∀ {i : Nat} {z : Sl}, (List.replicate xs.length none ++ js.map (aI ρ))[i]? = some (some z) -> ¬ i < xs.length /\ (js.map (aI ρ))[i - xs.length]? = some (some z) := fun {i z} h => by
   by_cases hi : i < xs.length
   ·rw [zAV (by simpa using hi), zAj, if_pos hi] at h
    cases h
   ·rw [zAM (by simpa using hi)] at h
    exact ⟨hi, by simpa using h⟩
  refine ⟨fun i d h => ?_, fun i x h => ?_, fun i j a h _ => (by cases h), fun i a h => (by cases h), fun i a h => (by cases h), fun a h => ?_, fun a h => ?_, sm, r.tab.same sm⟩
  ·obtain ⟨hi, h'⟩ := at_ h
   rw [zAN] at h'
   cases e : js[i - xs.length]? with
   | none => rw [e] at h'; cases h'
   | some j =>
    rw [e] at h'
    have h4 : aI ρ j = some (.val d) := zAR h'
    have h5 : ρ[j]? = some (some (.val d)) := by
     unfold aI at h4
     split at h4
     ·rename_i u q
      cases h4
      exact q
     ·cases h4
    obtain ⟨v, e1, e2⟩ := r.val j d h5
    refine ⟨v, ?_, Den.map (hT sm) (hL sm) (fun a _ n q => sm.kp a _ q n.nt) d v e2⟩
    rw [zAM (by simpa using hi)]
    show (js.map (cb σ))[i - (List.replicate xs.length (none : Option V)).length]? = some (some v)
    rw [List.length_replicate, zAN, e]
    show some (cb σ j) = some (some v)
    unfold cb
    rw [e1]
  ·obtain ⟨hi, h'⟩ := at_ h
   rw [zAN] at h'
   cases e : js[i - xs.length]? with
   | none => rw [e] at h'; cases h'
   | some j =>
    rw [e] at h'
    have h4 : aI ρ j = some (.ob x) := zAR h'
    unfold aI at h4
    split at h4 <;> cases h4
  ·rcases h with h | h
   ·obtain ⟨o, q⟩ := r.tracked false a h
    exact sm.ex q
   ·rw [h]; exact ⟨_, aw⟩
  ·obtain ⟨o, q⟩ := r.st a h
   exact sm.ex q
 have statC : ∀ {H' : Hp}, (∀ b ∈ fp, H' b = none) -> ∀ b ∈ fp, bF (ax X sc ns xs C s H fp (aR X sc ns RR D C)) [] H' b := fun hn b hb => by
  obtain ⟨f0, f1, f2, f3, f4, f5⟩ := hfp b hb
  obtain ⟨o, ho⟩ := hfo b hb
  refine ⟨hn b hb, fun z => ?_, fun z => ?_, .inl hb, fun y c e z => f4 y c (dg e) z, fun p hp => absurd (show p ∈ ([] : List (Addr × Obj)) from hp) (by simp)⟩
  ·have z' : b = C := z
   have hlt := zAC ho
   rw [z'] at hlt
   exact absurd (zAG hlt hCle) (zAe _)
  ·rcases zAU.mp (I.stkSub b z) with e | e
   ·exact f1 e
   ·exact f2 e
 have hch : ∀ b ∈ fp, (b ∈ X.ex ∨ X.s₀.heap.objs.size <= b) /\ b ≠ X.env.locals /\ (∀ x c, X.env.cells.lookup x = some c -> c ≠ b) /\ ∀ p ∈ X.pn ++ pins, p.1 ≠ b := fun b hb => by
  obtain ⟨f0, f1, f2, f3, f4, f5⟩ := hfp b hb
  exact ⟨f3, f1, f4, f5⟩
 have BD0 : W'.B D := .inr rfl
 have loop : ∀ s₃ : Shared, s₃ = { s with heap := h₁, toks := s.toks + ([] : List (Str × Value)).length } →
   codeAny (model X.prog X.w) X.A (.compLoop (.ListComp elt [⟨tg, iter, ifs, 0⟩] sc pos) 0 (.ref it) (.ref D) (compEnvC sc (bJ X.env ns) C X.env)) (RR (.ref D) C) s₃ := by
  rintro s₃ rfl
  refine ij (fun n s' => ∃ (i : Nat) (W2 : Own) (σ2 : St) (ρ2 : Ro) (H' : Hp) (out : List LI) (vs : List V) (bs : Nat -> Option Addr), n = ds.length - i /\ i <= ds.length /\ Inv (ax X sc ns xs C s H fp (aR X sc ns RR D C)) [] σ2 H' s' /\ tn i s'.heap /\ (∀ b ∈ fp, H' b = none) ∧
   H' D = some (.lst vs) /\ (W2.B = (fun a => W'.B a ∨ ∃ k, bs k = some a) /\ W2.S = W'.S) /\ cD X.K H D out.length bs /\ (∀ k b, bs k = some b -> ∃ us, H' b = some (.lst us)) /\ ao X.K W2.bad H' bs 0 out vs /\ af H H' /\ Rel (ax X sc ns xs C s H fp (aR X sc ns RR D C)) W2 H' σ2 ρ2 /\ dS xs.length (js.map (aI ρ)) ρ2 /\ Pv i out /\ out.length <= i) ?_ ds.length
   ⟨0, W', _, _, _, [], [], fun _ => none, by simp, zAZ _, I1, T.keep 0 s.heap h₁ st (fun b hb o e => old b o e), fun b hb => ?_, aw, ⟨by funext a; simp, rfl⟩, cD.nil, (fun _ _ h => by cases h), by simp only [ao], af.upd hDf, relC, ⟨_, by simp, rfl⟩, p0, zAH _⟩
  rotate_left
  ·obtain ⟨o, ho⟩ := hfo b hb
   rw [aj (fun z => absurd (zAC ho) (by rw [z]; exact zAi.mpr leD))]
   exact (hfp b hb).1
  rintro n s3 ⟨i, W2, σ2, ρ2, H3, out, vs, bs, en, hle, I3, st3, fr3, hD3, hW2, hbs, hls, hds3, sm3, rl3, cap3, p3, ol⟩
  have nb2 : ∀ {W3 : Own} {H' : Hp} {σ3 : St} {ρ3 : Ro}, (W3.B = (fun a => W'.B a ∨ ∃ k, bs k = some a) /\ W3.S = W'.S) -> Rel (ax X sc ns xs C s H fp (aR X sc ns RR D C)) W3 H' σ3 ρ3 -> af H H' -> ∀ t a vs, ¬ W.bad t a -> SqG X.K H t a vs -> ¬ W3.bad t a /\ SqG X.K H' t a vs := fun {W3 H' σ3 ρ3} hw rl sm t a vs n q => by
   refine ⟨fun z => ?_, q.same sm⟩
   rcases z with z | ⟨k, z⟩ | ⟨z1, z2⟩
   ·rw [hw.1] at z
    rcases z with z | ⟨k, z⟩
    ·exact (hL sm t a vs n q).1 (.inl z)
    ·obtain ⟨_, h0, kk, _⟩ := hbs.ok k a z
     rcases q.1 with (q1 | ⟨o, q1⟩) | ⟨o, its, m, q1, _⟩
     ·rw [h0] at q1; cases q1
     ·rw [h0] at q1; cases q1
     ·rw [kk] at q1; cases q1
   ·have h0 : H a = none := rl.ke k a z
    rcases q.1 with (q1 | ⟨o, q1⟩) | ⟨o, its, m, q1, _⟩
    ·rw [h0] at q1; cases q1
    ·rw [h0] at q1; cases q1
    ·have kk : X.K.lookup a = none := (rl.kn k a z).1
     rw [kk] at q1; cases q1
   ·rw [hw.2] at z2
    exact (hL sm t a vs n q).1 (.inr (.inr ⟨z1, z2⟩))
  obtain ⟨yg, yy, ys⟩ := yd W2.bad H3 (hT sm3) (nb2 hW2 rl3 sm3) (fun a _ n q => sm3.kp a _ q n.nt) i
  by_cases hlt : i < ds.length
  ·refine thn (T.item (ax X sc ns xs C s H fp (aR X sc ns RR D C)) rfl rfl rfl hc i [] s3 _ H3 _ I3 (statC fr3) st3 (yg hlt)) fun rr s4 ⟨u, hr, h4⟩ => ?_
   subst hr
   refine thn h4 fun _ s5 ⟨x5, H5, I5, r5, y5, st5, fr5⟩ => ?_
   obtain ⟨e5, d, hd, hden⟩ := yy x5 H5 y5 hlt
   have I5' := I5.pinned (statC fr5) (T.obj _ _ st5)
   have rl5 := rl3.same e5
   have sm5 : af H H5 := sm3.trans e5
   refine wpAny_mono (hg C s H fp _ _ s5 σ2 H5 W2 ρ2 d x5 u _ I5' rl5 r5 hden (step i d out ρ2 hd p3 cap3)) (fun _ s6 ⟨W6, σ6, H6, ρ6, I6, f6, rl6, cap6, q6⟩ => ?_) (fun _ _ z => z)
   have hW6 : W6.B = (fun a => W'.B a ∨ ∃ k, bs k = some a) /\ W6.S = W'.S := ⟨f6.B.trans hW2.1, f6.S.trans hW2.2⟩
   have sm6 : af H H6 := ⟨fun b o e n => f6.kp b o (fun k z => by have h0 : H b = none := rl5.ke k b z; rw [e] at h0; cases h0) (sm5.kp b o e n) n, (fun b ps e => by obtain ⟨m1, e1⟩ := sm5.tb b ps e; obtain ⟨m2, e2⟩ := f6.tb b _ e1; exact ⟨m1 ++ m2, by rw [e2, zAp]⟩), fun h => f6.ok (sm5.ok h)⟩
   have BD : W'.B D := .inr rfl
   have hD6 : H6 D = some (.lst vs) := f6.keep D _ (fun k z => (rl5.kn k D z).2.1.1 (by rw [hW2.1]; exact .inl BD)) (e5 _ _ hD3)
   have hds5 : ao X.K W2.bad H5 bs 0 out vs := hds3.map (fun _ _ z => z.same e5) fun _ _ q => ⟨q, fun _ z => e5 _ _ z⟩
   have hls6 : ∀ k b, bs k = some b -> ∃ us, H6 b = some (.lst us) := fun k b q => let ⟨us, z⟩ := hls k b q; ⟨us, f6.keep b _ (fun l y => (rl5.kn l b y).2.1.1 (by rw [hW2.1]; exact .inr ⟨k, q⟩)) (e5 _ _ z)⟩
   have hds6 : ao X.K W6.bad H6 bs 0 out vs := hds5.map (fun _ _ z => ae.fwd rl5 rl6 f6 z) fun k b q => ⟨q, fun us z => f6.keep b _ (fun l y => (rl5.kn l b y).2.1.1 (by rw [hW2.1]; exact .inr ⟨k, q⟩)) z⟩
   have keepT : ∀ {σ7 : St} {H7 : Hp} {s7 : Shared}, Inv (ax X sc ns xs C s H fp (aR X sc ns RR D C)) ([] ++ eJ fp s5.heap) σ7 H7 s7 -> tn (i + 1) s7.heap /\ ∀ b ∈ fp, H7 b = none := fun {σ7 H7 s7} I7 => by
    refine ⟨T.keep _ _ _ st5 fun b hb o e => (I7.pin (b, o) (zAI _ (zAI _ (bu hb e)))).1, fun b hb => ?_⟩
    obtain ⟨o, e, _⟩ := T.obj _ _ st5 b hb
    exact (I7.pin (b, o) (zAI _ (zAI _ (bu hb e)))).2.1
   refine wpAny_mono (ht C s H fp _ (hx D C) _ s6 _ H6 W6 _ _ I6 rl6 q6) (fun b s7 ⟨H7, I7, e7, q7⟩ => ?_) (fun _ _ z => z)
   cases b with
   | false =>
    rw [if_neg zAL] at q7
    rw [if_neg zAL]
    obtain ⟨t7, f7⟩ := keepT I7
    exact ⟨ds.length - (i + 1), by omega, i + 1, W6, σ6, ρ6, H7, out, vs, bs, rfl, hlt, I7.unpinned, t7, f7, e7 _ _ hD6, hW6, hbs, (fun k b q => let ⟨us, z⟩ := hls6 k b q; ⟨us, e7 _ _ z⟩), hds6.map (fun _ _ z => z.same e7) (fun _ _ q => ⟨q, fun _ z => e7 _ _ z⟩), sm6.trans e7, rl6.same e7, cap6, q7, by omega⟩
   | true =>
    rw [if_pos rfl] at q7
    rw [if_pos rfl]
    refine wpAny_mono (he C s H fp _ (hx D C) _ s7 _ H7 W6 _ _ I7 (rl6.same e7) q7) (fun u8 s8 ⟨v8, H8, e8, I8, r8, sm8, hd8, q8⟩ => ?_) (fun _ _ z => z)
    have sm78 := e7.trans sm8
    have hD8 := sm78 _ _ hD6
    have rl7 := rl6.same e7
    have hds7 : ao X.K W6.bad H7 bs 0 out vs := hds6.map (fun _ _ z => z.same e7) fun _ _ q => ⟨q, fun _ z => e7 _ _ z⟩
    have smH : af H H8 := sm6.trans sm78
    obtain ⟨W8, bs8, hW8, hbs8, hls8, rl8, hds8, hlen8⟩ : ∃ (W8 : Own) (bs8 : Nat -> Option Addr), (W8.B = (fun a => W'.B a ∨ ∃ k, bs8 k = some a) /\ W8.S = W'.S) /\ cD X.K H D (out ++ [e8]).length bs8 /\ (∀ k b, bs8 k = some b -> ∃ us, H8 b = some (.lst us)) /\ Rel (ax X sc ns xs C s H fp (aR X sc ns RR D C)) W8 H8 σ6 ρ6 /\ ao X.K W8.bad H8 bs8 0 (out ++ [e8]) (vs ++ [v8]) /\ vs.length = out.length := by
     have ln := hds7.len
     cases e8 with
     | val d =>
      refine ⟨W6, bs, hW6, hbs.up (by simp), (fun k b q => let ⟨us, z⟩ := hls6 k b q; ⟨us, sm78 _ _ z⟩), rl7.same sm8, ?_, ln⟩
      exact (hds7.map (fun _ _ z => z.same sm8) fun _ _ q => ⟨q, fun _ z => sm8 _ _ z⟩).snoc_val hd8
     | own ds' =>
      obtain ⟨a, ws, rfl, na, ka, ha, hds'⟩ := hd8
      obtain ⟨rb, db⟩ := rl7.ban sm8 na ka ha
      have nH : H a = none := (sm6.trans e7).free na
      have nD : a ≠ D := fun z => by rw [z, e7 _ _ hD6] at na; cases na
      refine ⟨⟨fun b => W6.B b ∨ b = a, W6.O, W6.S⟩, fun k => if k = out.length then some a else bs k, ⟨?_, hW6.2⟩, hbs.put nH ka nD (fun k z => ?_), (fun k b q => ?_), rb, ?_, ln⟩
      ·funext b
       show (W6.B b ∨ b = a) = _
       rw [hW6.1]
       refine propext ⟨fun z => ?_, fun z => ?_⟩
       ·rcases z with (z | ⟨k, z⟩) | z
        ·exact .inl z
        ·exact .inr ⟨k, by show (if k = out.length then some a else bs k) = some b; rw [if_neg (zAT (hbs.ok k b z).1)]; exact z⟩
        ·exact .inr ⟨out.length, by show (if out.length = out.length then some a else bs out.length) = some b; rw [if_pos rfl, z]⟩
       ·rcases z with z | ⟨k, z⟩
        ·exact .inl (.inl z)
        ·have z : (if k = out.length then some a else bs k) = some b := z
         by_cases ek : k = out.length
         ·rw [if_pos ek] at z; cases z; exact .inr rfl
         ·rw [if_neg ek] at z; exact .inl (.inr ⟨k, z⟩)
      ·obtain ⟨o, hu⟩ := rl7.bt a (by rw [hW6.1]; exact .inr ⟨k, z⟩)
       rw [hu] at na; cases na
      ·have q : (if k = out.length then some a else bs k) = some b := q
       by_cases ek : k = out.length
       ·rw [if_pos ek] at q; cases q; exact ⟨_, ha⟩
       ·rw [if_neg ek] at q
        obtain ⟨us, z⟩ := hls6 k b q
        exact ⟨us, sm78 _ _ z⟩
      ·refine ao.snoc_own (hds7.map (B' := fun k => if k = out.length then some a else bs k) (fun ds vs z => db ds vs z) fun k b q => ⟨by show (if k = out.length then some a else bs k) = some b; rw [if_neg (zAT (hbs.ok k b q).1)]; exact q, fun _ z => sm8 _ _ z⟩) (by simp) ha (hds'.fewer fun t b z => ?_)
       rcases z with (z | z) | z | z
       ·exact .inl (.inl z)
       ·exact .inr z
       ·exact .inl (.inr (.inl z))
       ·exact .inl (.inr (.inr z))
    have BD8 : W8.B D := by rw [hW8.1]; exact .inl BD
    refine wpAny_mono (dJ (X := ax X sc ns xs C s H fp (aR X sc ns RR D C)) _ s8 _ H8 (.ref D) [v8] (.ref D) [u8] (fun _ H' => H' = L2.upd H8 D (.lst (vs ++ [v8]))) I8 rfl (.cons r8 .nil) ⟨D, vs, v8, rfl, rfl, hD8, by rw [hlen8]; omega, rfl⟩) (fun _ s9 ⟨v9, H9, I9, _, eH⟩ => ?_) (fun _ _ z => z)
    subst eH
    obtain ⟨t9, f9⟩ := keepT I9
    obtain ⟨rl9, dn9⟩ := rl8.mutB (vs' := vs ++ [v8]) BD8 hD8 hDf
    exact ⟨ds.length - (i + 1), by omega, i + 1, W8, σ6, ρ6, _, out ++ [e8], vs ++ [v8], bs8, rfl, hlt, I9.unpinned, t9, f9, aw, hW8, hbs8, (fun k b q => let ⟨us, z⟩ := hls8 k b q; ⟨us, by rw [aj (hbs8.ok k b q).2.2.2]; exact z⟩), hds8.map dn9 (fun k b q => ⟨q, fun us z => by rw [aj (hbs8.ok k b q).2.2.2]; exact z⟩), smH.ins hDf hD8 True.intro True.intro, rl9, cap6, q8, by rw [zAQ, zA6]; omega⟩
  ·have e : i = ds.length := by omega
   refine thn (T.done (ax X sc ns xs C s H fp (aR X sc ns RR D C)) rfl rfl rfl hc i [] s3 _ H3 _ I3 (statC fr3) st3 (ys (by omega))) fun rr s4 ⟨hr, I4⟩ => ?_
   subst hr
   subst e
   have Io : Inv X pins σ H3 s4 := I.call' I4.os I4.base I4.hok I4.bare hch
   obtain ⟨m, hm, _⟩ := I4.loc
   exact hRR D C s4 H3 m out bs Io sm3 hm I4.free (fun z => absurd I.lt (by rw [<- z]; exact zAi.mpr hCle)) (zAa I.sz hCle) (fun y c e z => by
    obtain ⟨v, q⟩ := I.cell y c e
    exact absurd q.lt (by rw [z]; exact zAi.mpr hCle)) (fun p hp z => absurd (zAC (I.pin p hp).1) (by rw [z]; exact zAi.mpr hCle))
    ⟨hDf, hKD, _, hD3, hbs, hls, hds3.map (fun _ _ z => z.fewer fun t a z => (by
     rcases z with z | z
     ·rcases (bad' t a).mpr (.inl z) with q | ⟨k, q⟩ | q
      ·exact .inl (by rw [hW2.1]; exact .inl q)
      ·cases q
      ·exact .inr (.inr ⟨q.1, by rw [hW2.2]; exact q.2⟩)
     ·rcases z with z | z
      ·exact .inl (by rw [hW2.1]; exact .inl (z ▸ BD0))
      ·exact .inl (by rw [hW2.1]; exact .inr z))) fun _ _ q => ⟨q, fun _ z => z⟩⟩ p3
 exact codeAny_compStart_list (loop _ rfl) (T.self _ 0 _ _ _ (T.keep 0 s.heap h₁ st (fun b hb o e => old b o e)) (loop _ rfl))
end
section
variable {X : Cx}
def Own.puts (W : Own) (n i : Nat) (D : Addr) (bs : Nat -> Option Addr) : Own := ⟨W.B, fun j => if j = i then some D else if j % n = i /\ n <= j then bs (j / n - 1) else W.O j, W.S⟩
theorem ia {n i k : Nat} (h : i < n) : vix n i k % n = i := by unfold vix; rw [Nat.mul_add_mod, zAX h]
theorem n9 {n i k : Nat} : n <= vix n i k := by unfold vix; rw [Nat.mul_add]; omega
theorem qY {n i k : Nat} (h : i < n) : vix n i k / n - 1 = k := by
 unfold vix
 rw [Nat.mul_add_div (by omega), Nat.div_eq_of_lt h]
 omega
theorem sP {n i j : Nat} (h : j % n = i) (hj : n <= j) (hn : 0 < n) : j = vix n i (j / n - 1) := by
 unfold vix
 have h1 := Nat.div_add_mod j n
 have h2 : 1 <= j / n := Nat.div_pos hj hn
 rw [show j / n - 1 + 1 = j / n by omega, <- h, h1]
theorem Own.puts_O {W : Own} {n i : Nat} {D : Addr} {bs : Nat -> Option Addr} (hi : i < n) {j : Nat} {a : Addr} (h : (W.puts n i D bs).O j = some a) : (j = i /\ a = D) ∨ (∃ k, j = vix n i k /\ bs k = some a) ∨ (j ≠ i /\ (∀ k, j ≠ vix n i k) /\ W.O j = some a) := by
 have h1 : (if j = i then some D else if j % n = i /\ n <= j then bs (j / n - 1) else W.O j) = some a := h
 by_cases e : j = i
 ·rw [if_pos e] at h1; cases h1; exact .inl ⟨e, rfl⟩
 ·rw [if_neg e] at h1
  by_cases e2 : j % n = i /\ n <= j
  ·rw [if_pos e2] at h1; exact .inr (.inl ⟨_, sP e2.1 e2.2 (by omega), h1⟩)
  ·rw [if_neg e2] at h1; exact .inr (.inr ⟨e, fun k z => e2 (by rw [z]; exact ⟨ia hi, n9⟩), h1⟩)
theorem Own.puts_v {W : Own} {n i : Nat} {D : Addr} {bs : Nat -> Option Addr} (hi : i < n) (k : Nat) : (W.puts n i D bs).O (vix n i k) = bs k := by
 show (if vix n i k = i then some D else if vix n i k % n = i /\ n <= vix n i k then bs (vix n i k / n - 1) else W.O (vix n i k)) = bs k
 rw [if_neg (bU hi), if_pos ⟨ia hi, n9⟩, qY hi]
theorem Own.puts_n {W : Own} {n i : Nat} {D : Addr} {bs : Nat -> Option Addr} {j : Nat} (h1 : j ≠ i) (h2 : j % n ≠ i ∨ j < n) : (W.puts n i D bs).O j = W.O j := by
 show (if j = i then some D else if j % n = i /\ n <= j then bs (j / n - 1) else W.O j) = _
 rw [if_neg h1, if_neg fun z => h2.elim (fun q => q z.1) fun q => by omega]
theorem Rel.puts {W : Own} {H H' : Hp} {σ : St} {ρ : Ro} {i : Nat} {D : Addr} {bs : Nat -> Option Addr} {out : List LI} {vs : List V} (r : Rel X W H σ ρ) (hi : i < σ.length) (sm : af H H') (nD : H D = none) (kD : X.K.lookup D = none) (hD : H' D = some (.lst vs))
  (hb : cD X.K H D out.length bs) (hl : ∀ k b, bs k = some b -> ∃ us, H' b = some (.lst us)) (hd : ao X.K (fun t b => W.bad t b ∨ b = D ∨ ∃ k, bs k = some b) H' bs 0 out vs) :
  Rel X (W.puts σ.length i D bs) H' (σ.set i (some (.ref D))) (ρ.set i (some (.ob (.ll out)))) /\ Fwd W H (W.puts σ.length i D bs) H' := by
 have bad' : ∀ t a, (W.puts σ.length i D bs).bad t a -> W.bad t a ∨ a = D ∨ ∃ k, bs k = some a := fun t a z => by
  rcases z with z | ⟨j, z⟩ | z
  ·exact .inl (.inl z)
  ·rcases Own.puts_O hi z with ⟨_, q⟩ | ⟨k, _, q⟩ | ⟨_, _, q⟩
   ·exact .inr (.inl q)
   ·exact .inr (.inr ⟨k, q⟩)
   ·exact .inl (.inr (.inl ⟨j, q⟩))
  ·exact .inl (.inr (.inr z))
 have new : ∀ a, (a = D ∨ ∃ k, bs k = some a) -> H a = none /\ X.K.lookup a = none := fun a z => by
  rcases z with z | ⟨k, z⟩
  ·subst z; exact ⟨nD, kD⟩
  ·exact ⟨(hb.ok k a z).2.1, (hb.ok k a z).2.2.1⟩
 have nb : ∀ {t : Bool} {a : Addr} {ws : List V}, SqG X.K H t a ws -> ¬ (a = D ∨ ∃ k, bs k = some a) := fun {t a ws} q z => by
  obtain ⟨n1, n2⟩ := new a z
  rcases q.1 with (q | ⟨o, q⟩) | ⟨o, its, n, q, _⟩
  ·rw [n1] at q; cases q
  ·rw [n1] at q; cases q
  ·rw [n2] at q; cases q
 have up : ∀ (d : PD.D) (v : V), Den X.K W.bad H d v -> Den X.K (W.puts σ.length i D bs).bad H' d v := Den.map (fun _ _ q => SqT.same sm q) (fun t a ws n q => ⟨fun z => (bad' t a z).elim n (nb q), q.same sm⟩) (fun a _ n q => sm.kp a _ q n.nt)
 have ups : ∀ (ds : List PD.D) (vs' : List V), ae X.K W.bad H ds vs' -> ae X.K (W.puts σ.length i D bs).bad H' ds vs' := ae.map (fun _ _ q => SqT.same sm q) (fun t a ws n q => ⟨fun z => (bad' t a z).elim n (nb q), q.same sm⟩) (fun a _ n q => sm.kp a _ q n.nt)
 have nO : ∀ j a, W.O j = some a -> ¬ (a = D ∨ ∃ k, bs k = some a) := fun j a q z => by
  obtain ⟨_, _, o, h3, _⟩ := r.kn j a q
  rw [(new a z).1] at h3; cases h3
 refine ⟨⟨fun j d h => ?_, fun j x h => ?_, fun j l a h1 h2 => ?_, fun j a h1 => ?_, fun j a h1 => ?_, fun a h => let ⟨_, q⟩ := r.bt a h; sm.ex q, fun a h => let ⟨_, q⟩ := r.st a h; sm.ex q, r.ent.trans sm, r.tab.same sm⟩, rfl, rfl, fun b o _ q n => sm.kp b o q n, fun j a h => ?_, sm.tb, sm.ok⟩
 ·have hji : j ≠ i := fun e => by
   subst e
   by_cases l : j < ρ.length
   ·rw [zAE l] at h; cases h
   ·rw [zAY (by rw [zAS]; omega)] at h; cases h
  rw [zAA (Ne.symm hji)] at h
  obtain ⟨w, h1, h2⟩ := r.val j d h
  exact ⟨w, by rw [zAA (Ne.symm hji)]; exact h1, up d w h2⟩
 ·rw [zAS]
  by_cases hji : j = i
  ·subst hji
   by_cases l : j < ρ.length
   ·rw [zAE l] at h
    cases h
    refine ⟨D, _, ?_, by rw [zAE hi], hD, .ll (hd.map (fun _ _ z => z.fewer bad') fun k b q => ⟨by rw [<- q]; exact Own.puts_v hi k, fun _ z => z⟩)⟩
    show (if j = j then some D else _) = some D
    rw [if_pos rfl]
   ·rw [zAY (by rw [zAS]; omega)] at h; cases h
  ·rw [zAA (Ne.symm hji)] at h
   obtain ⟨a, ws, h1, h2, h3, h4⟩ := r.own j x h
   have jl : j < σ.length := (zAD.mp h2).1
   refine ⟨a, ws, (Own.puts_n hji (.inr jl)).trans h1, by rw [zAA (Ne.symm hji)]; exact h2, sm.kp _ _ h3 h4.mut.nt, h4.map ups fun l b q => ⟨(Own.puts_n ?_ (.inl (by rw [ia jl]; exact hji))).trans q, fun _ z => sm _ _ z⟩⟩
   exact bU hi
 ·rcases Own.puts_O hi h1 with ⟨e1, q1⟩ | ⟨k1, e1, q1⟩ | ⟨_, _, q1⟩ <;> rcases Own.puts_O hi h2 with ⟨e2, q2⟩ | ⟨k2, e2, q2⟩ | ⟨_, _, q2⟩
  ·rw [e1, e2]
  ·exact absurd (q1 ▸ rfl) (q1 ▸ (hb.ok k2 a q2).2.2.2)
  ·exact (nO l a q2 (.inl q1)).elim
  ·exact absurd (q2 ▸ rfl) (q2 ▸ (hb.ok k1 a q1).2.2.2)
  ·rw [e1, e2, hb.inj k1 k2 a q1 q2]
  ·exact (nO l a q2 (.inr ⟨k1, q1⟩)).elim
  ·exact (nO j a q1 (.inl q2)).elim
  ·exact (nO j a q1 (.inr ⟨k2, q2⟩)).elim
  ·exact r.inj j l a q1 q2
 ·have fresh : (a = D ∨ ∃ k, bs k = some a) -> X.K.lookup a = none /\ (¬ W.B a /\ ¬ W.S a) := fun z => by
   obtain ⟨n1, n2⟩ := new a z
   exact ⟨n2, fun q => (by obtain ⟨o, y⟩ := r.bt _ q; rw [n1] at y; cases y), fun q => (by obtain ⟨o, y⟩ := r.st _ q; rw [n1] at y; cases y)⟩
  rcases Own.puts_O hi h1 with ⟨_, q⟩ | ⟨k, _, q⟩ | ⟨_, _, q⟩
  ·obtain ⟨f1, f2⟩ := fresh (.inl q)
   exact ⟨f1, f2, .lst vs, by rw [q]; exact hD, True.intro⟩
  ·obtain ⟨f1, f2⟩ := fresh (.inr ⟨k, q⟩)
   obtain ⟨us, hu⟩ := hl k a q
   exact ⟨f1, f2, .lst us, hu, True.intro⟩
  ·obtain ⟨a1, a2, ws, a3, a4⟩ := r.kn j a q
   exact ⟨a1, a2, ws, sm.kp _ _ a3 a4.nt, a4⟩
 ·rcases Own.puts_O hi h1 with ⟨_, q⟩ | ⟨k, _, q⟩ | ⟨_, _, q⟩
  ·exact r.ent.free (q ▸ nD)
  ·exact r.ent.free (hb.ok k a q).2.1
  ·exact r.ke j a q
 ·rcases Own.puts_O hi h with ⟨_, q⟩ | ⟨k, _, q⟩ | ⟨_, _, q⟩
  ·exact .inr (q ▸ nD)
  ·exact .inr (hb.ok k a q).2.1
  ·exact .inl ⟨j, q⟩
end
section
variable {X : Cx} {k : Nat} {ps : List Str} {sp : DSp} {x : Str} {p pos : Pos} {e : Expr} {es : List Expr} {t : DA}
def ja (sp : DSp) (t : DA) : DM := fun ρ Q => t ρ fun ds => sp (ay ds) (fun d => (∃ ys, d = .lst true ys /\ bX ys = true /\ Q (.own ys)) ∨ (gj d = true /\ Q (.val d))) fun _ => False
theorem qD (h : Has X.prog X.w X.K X.mg X.base x k ps sp) (hr : aH k X.A) (ha : PAD X (e :: es) t) (hg : Gl X x := by rfl) (hdb : (x == ("__debug__" : Str)) = false := by decide)
  (he : starEach (e :: es) X.env = (false, eval e X.env) :: starEach es X.env := by rfl) (hpl : (backTo pos (starEach es X.env)).any (·.1) = false := by rfl) : PEM X (.Call (.Name x p) (e :: es) [] pos) (ja sp t) := by
 obtain ⟨f, fd, F, hm, hk, hb⟩ := h
 intro pins s σ H W ρ Q I rr h
 refine wpAny_Call_Name_kw (ck I hg hm ?_ hdb)
 refine PySem.W.callWith_K (h₀ := X.base) I.ok.mod.kin hk (thn (ha pos pins s σ H W ρ _ I rr h) fun us s1 ⟨vs, H1, ds, I1, r, e1, hds, q⟩ => ⟨I1.kIn, ?_⟩) he hpl
 have rr1 := rr.same e1
 refine thn (jM (us := us) (ds := []) (dvs := []) (Q := fun v H' => af H1 H' /\ ∃ d, Den X.K (fun t a => W.bad false a ∨ (t = true /\ ∃ o, H1 a = some o)) H' d v /\ ((∃ ys, d = .lst true ys /\ bX ys = true /\ Q (.own ys)) ∨ (gj d = true /\ Q (.val d)))) F hr hb .nil mh I1 r
  ⟨W.bad false, ay ds, _, fun _ => False, rr1.tab, rr1.tracked false, by rw [zAk]; exact ae.av (fun _ _ => Own.bad_up) ds vs hds, q, fun d v H' e h1 h2 => ⟨e, d, h1, h2⟩, fun _ _ _ _ z => z.elim⟩) fun u s2 ⟨v, H2, I2, r2, e2, d, hd, qq⟩ => ?_
 rcases qq with ⟨ys, rfl, nl, qy⟩ | ⟨nl, qy⟩
 ·obtain ⟨a, ws, ev, np, sq, hw⟩ := hd.lstG_
  subst ev
  cases r2
  have hn : H1 a = none := by
   cases z : H1 a with
   | none => rfl
   | some o => exact absurd (.inr ⟨rfl, o, z⟩) np
  exact ⟨.ref a, H2, .own ys, I2, rfl, e1.trans e2, ⟨a, ws, rfl, e1.free hn, (sq.2 rfl).2, (sq.2 rfl).1, ae.nol ys ws nl hw⟩, qy⟩
 ·exact ⟨v, H2, .val d, I2, r2, e1.trans e2, Den.nol d v nl hd, qy⟩
theorem sJ {ds : List D} {Pv : Nat -> List LI -> Prop} {te : DM} {cap : Ro} (step : ∀ j d out, ds[j]? = some d -> Pv j out -> te (some (.val d) :: cap) (fun e => Pv (j + 1) (out ++ [e]))) :
  ∀ j d out ρ1, ds[j]? = some d -> Pv j out -> dS 1 cap ρ1 -> eF 0 d ρ1 fun ρ2 => dS 1 cap ρ2 /\ gP ρ2 fun b => if b = true then te ρ2 (fun e => Pv (j + 1) (out ++ [e])) else Pv (j + 1) out := by
 rintro j d out ρ1 hd hp ⟨r0, hl, rfl⟩
 match r0, hl with
 | [a], _ =>
  refine ⟨⟨[some (.val d)], rfl, rfl⟩, ?_⟩
  unfold gP
  dsimp only
  rw [if_pos rfl]
  exact step j d out hd hp
end
section
variable {X : Cx} {sc : Scope} {ns : List Str} {js : List Nat} {elt iter : Expr} {px pos : Pos} {te : DM} {wi : DA} {x : Str}
def gf (i : Nat) (wi : DA) (js : List Nat) (te : DM) : DS := fun E ρ => wi ρ fun ds => ds.length <= sizeLine /\ ∃ Pv : Nat -> List LI -> Prop, Pv 0 [] ∧
 (∀ j d out, ds[j]? = some d -> Pv j out -> te (some (.val d) :: js.map (aI ρ)) (fun e => Pv (j + 1) (out ++ [e]))) /\ ∀ out, Pv ds.length out -> E.nx (ρ.set i (some (.ob (.ll out))))
theorem lZ {y : Str} {py spos : Pos} (i : Nat) (hN : X.N.Nodup) (hc : X.calm = true) (S : CSc X.env.scope sc [x] ns) (hj : cU X.N ns js) (hi : PID X (.Name x px) iter wi)
  (he : ∀ (C : Addr) (s₂ : Shared) (H₂ : Hp) (fp : List Addr) (XE : Value -> Shared -> Prop), PEM (ax X sc ns [x] C s₂ H₂ fp XE) elt te) (hy : X.N[i]? = some y := by rfl) (hly : X.env.scope.names.lookup y = some .local := by rfl) (hclos : closureFor sc X.env = pure (bJ X.env ns) := by rfl) (hs : ∀ x, foldedSetIterable iter X.env x = pure x := by intro _; rfl)
  (hsw : swapsWith (.ListComp elt [⟨.Name x px, iter, [], 0⟩] sc pos) (some (.Name y py)) spos.line X.env = pure true := by rfl) :
  PSD X (.Assign [.Name y py] (.ListComp elt [⟨.Name x px, iter, [], 0⟩] sc pos) spos) (gf i wi js te) := by
 intro pins s σ H W ρ E I r h
 rw [exec_Assign_Name_used _ _ _ _ hsw]
 refine wpAny_bind (wpAny_standAt (wpAny_bind ?_))
 show wpAny _ X.A (do let _ ← comprehension (.ListComp elt [⟨.Name x px, iter, [], 0⟩] sc pos) sc X.env _ (newList []) false (eval iter X.env) (some (assign (.Name y py) X.env))) _ _ s
 refine wpAny_bind (wpAny_mono (wpAny_comprehension_free (use := some (assign (.Name y py) X.env)) (Q := fun _ s' => SPD X pins W H E .next s') rfl hs hclos S.kind S.names
  (thn (hi pins s σ H W ρ _ I r h) fun v s1 h1 => thn h1 fun itv s2 h2 => ?_)) (fun _ s' hq => wpAny_pure (wpAny_pure hq)) fun _ _ e => e)
 obtain ⟨it, fp, tn, J, H2, ds, e, I2, e2, T, st2, f2, yd, hz, Pv, p0, step, fin⟩ := h2
 subst e
 refine jX (RR := fun acc C => compPost (model X.prog X.w) X.A X.xe (some (assign (.Name y py) X.env)) (fun _ s' => SPD X pins W H E .next s') acc C) hc S hj (Ed := fun _ => False) (fun C s₂ H₂ fp XE _ => he C s₂ H₂ fp XE) (fun C s₂ H₂ fp XE _ => gK) (fun _ _ => bg.no) I2 (r.same e2) (fun C s₂ H₂ fp XE => gg S) T st2 f2 yd hz Pv p0 (sJ step) ?_
 intro D C s' H' m' out bs I' sm hns hCn hC1 hC2 hC3 hC4 ⟨hn, hk, vs, hD, hb, hl, hds⟩ pv
 obtain ⟨rp, fw⟩ := (r.same e2).puts (Inv.ilt I' hy) sm hn hk hD hb hl hds
 show wpAny _ X.A (assign (.Name y py) X.env (.ref D)) _ _ _
 refine wpAny_assign_Name (fJ (v := .ref D) I' hN hy (.inl hly) rfl (fun s3 I3 ⟨a, hsb, ha⟩ => ?_) (.inr hly))
 have hne : C ≠ a := by
  rcases ha with z | z
  ·rw [z]; exact hC1
  ·exact fun q => hC3 y a z q.symm
 refine ⟨m', hns.sameBut hsb hne, fun h' hsb' => ?_⟩
 exact ⟨_, _, H', I3.turned (t' := s3.toks) (fun b o hb e => (hsb'.2 b hb).trans e) hCn hC1 (.inr hC2) hC3 hC4, (Fwd.same e2).trans fw, _, rp, fin out pv⟩
end
end PD
namespace PD
open PySem PySem.Spec PyProof.Rows L2
section
variable {X : Cx}
theorem nJ {P : Program} {w : World} {H : Hp} {h : Heap} {a : Addr} {o : Obj} (e : h.get? a = some o) (c : o.cls = .type "dict") : aN P w H h a (.ext (PySem.W.KitAt a "dict")) :=
 ⟨⟨o, e, c⟩, ⟨o, e⟩, fun _ _ ⟨o', e1, e2⟩ k => ⟨o', k o' e1, e2⟩⟩
def lJ : DE := fun _ Q => Q .dic
theorem ky {dpos : Pos} : PED X (.Dict [] [] dpos) lJ := by
 intro pins s σ H W ρ Q I r q
 have hn := I.hok.fresh (zAH s.heap.objs.size)
 have I1 := I.laid (a := s.heap.objs.size) (o := .ext (PySem.W.KitAt s.heap.objs.size "dict")) (h' := s.heap.push { cls := .type "dict", data := .dict #[] }) (t' := s.toks) (fun _ _ q => zAB _ q) (zAH _) (nJ (zAJ _ rfl) rfl)
 refine wpAny_Dict_empty ?_
 exact ⟨.ref s.heap.objs.size, _, .dic, I1, rfl, af.upd hn, Den.dic aw, q⟩
def lK (t : Ro -> (List (D × D) -> Prop) -> Prop) : DE := fun ρ Q => t ρ fun ps => ∃ kvs : List (Key × D), ps = kvs.map (fun kv => (cG kv.1, kv.2)) /\ kvs.length <= 15 /\ (kvs.map (·.1)).Nodup /\ Q .dic
theorem qu {dpos : Pos} {keys : List (Option Expr)} {values : List Expr} {t : Ro -> (List (D × D) -> Prop) -> Prop} (h : PPD X dpos keys values t) (hall : keys.all (·.isSome) = true := by rfl) (hl : keys.length = values.length := by rfl) (h0 : keys ≠ [] := by simp)
  (h15 : keys.length <= 15 := by decide) : PED X (.Dict keys values dpos) (lK t) := by
 intro pins s σ H W ρ Q I r hq
 have hn := I.hok.fresh (zAH s.heap.objs.size)
 have hkn := Inv.kfresh I
 have I1 := I.laid (a := s.heap.objs.size) (o := .dK []) (h' := s.heap.push { cls := .type "dict", data := .dict #[] }) (t' := s.toks) (fun _ _ q => zAB _ q) (zAH _) (o2 s.heap I.big)
 refine wpAny_Dict_walk (knd := bN X.prog X.w) hall hl h0 h15 (thn (h pins _ σ _ W ρ _ I1 (r.same (af.upd hn)) hq) fun ws s2 ⟨ps, H2, ds, I2, rel, sm, d1, d2, kvs, ek, lk, nd, q⟩ => ?_)
 subst ek
 have e := sm _ _ (aw (H := H) (a := s.heap.objs.size) (o := .dK []))
 have hk1 : ps.map (·.1) = (kvs.map (·.1)).map kV := fz (by
  have : (kvs.map fun kv => (cG kv.1, kv.2)).map (·.1) = (kvs.map (·.1)).map cG := by simp [List.map_map, Function.comp_def]
  rw [this] at d1
  exact d1)
 have ep := jH _ ps hk1
 generalize hkw : (kvs.map (·.1)).zip (ps.map (·.2)) = kws at ep
 rw [ep] at rel
 obtain ⟨rs, c, rk⟩ := gv (P := X.prog) (w := X.w) rel
 obtain ⟨z, hd, vs0, r0, dd⟩ := sU I2.hok e
 cases r0
 refine ⟨rs, c, dd, fun h' dd' hsb => ?_⟩
 obtain ⟨q', es, ep', hq', hx, _⟩ := dd'
 have I3 := qt (ob := .ext (PySem.W.KitAt s.heap.objs.size "dict")) (t' := s2.toks + ws.length) I2 (by rw [e]; exact True.intro) hsb ⟨q', hq'⟩ (nJ hq' hx.1)
 exact ⟨.ref s.heap.objs.size, _, .dic, I3, rfl, ((af.upd hn).trans sm).ins hn e True.intro True.intro, Den.dic aw, q⟩
end
section
variable {X : Cx} {pos : Pos}
theorem Rel.setN {W : Own} {H : Hp} {σ : St} {ρ : Ro} (r : Rel X W H σ ρ) {iw : Nat} (hl : iw < σ.length) (v : V) : Rel X (W.drop iw) H (σ.set iw (some v)) (ρ.set iw none) := by
 have hO : ∀ j a, (W.drop iw).O j = some a -> j ≠ iw /\ W.O j = some a := fun j a h => by
  have h' : (if j = iw then none else W.O j) = some a := h
  by_cases e : j = iw
  ·rw [if_pos e] at h'; cases h'
  ·rw [if_neg e] at h'; exact ⟨e, h'⟩
 have ne : ∀ {j : Nat} {z : Sl}, (ρ.set iw none)[j]? = some (some z) -> j ≠ iw /\ ρ[j]? = some (some z) := fun {j z} h => by
  have e : j ≠ iw := fun e => by
   subst e
   by_cases l : j < ρ.length
   ·rw [zAE l] at h; cases h
   ·rw [zAY (by rw [zAS]; omega)] at h; cases h
  rw [zAA (Ne.symm e)] at h
  exact ⟨e, h⟩
 refine ⟨fun j d h => ?_, fun j x h => ?_, fun j l a h1 h2 => r.inj j l a (hO j a h1).2 (hO l a h2).2, fun j a h => r.kn j a (hO j a h).2, fun j a h => r.ke j a (hO j a h).2, r.bt, r.st, r.ent, r.tab⟩
 ·obtain ⟨e, h⟩ := ne h
  obtain ⟨w, h1, h2⟩ := r.val j d h
  exact ⟨w, by rw [zAA (Ne.symm e)]; exact h1, h2.fewer fun _ _ z => Own.drop_bad z⟩
 ·obtain ⟨e, h⟩ := ne h
  obtain ⟨a, o, h1, h2, h3, h4⟩ := r.own j x h
  rw [zAS]
  refine ⟨a, o, ?_, by rw [zAA (Ne.symm e)]; exact h2, h3, h4.fewer (fun _ _ z => Own.drop_bad z) fun k b q => ?_⟩
  ·show (if j = iw then none else W.O j) = _
   rw [if_neg e]; exact h1
  ·show (if vix σ.length j k = iw then none else W.O (vix σ.length j k)) = _
   rw [if_neg (bU hl)]; exact q
def isO : LI -> Bool
 | .own _ => true
 | .val _ => false
def bE (n : Nat) (c : Int) : LI -> LI
 | .own ds => .own (ds.set n (.int c))
 | .val d => .val d
def gR (i iw : Nat) (tt : DT) (tk te : DE) : DS := fun E ρ => ∃ (xs : List LI) (n c : Int), ρ[i]? = some (some (.ob (.ll xs))) /\ iw < ρ.length ∧
 (∀ ys x, x ∈ xs -> tt ((ρ.set i (some (.val (.lst false ys)))).set iw (some (.val (bw x)))) fun b => b = isO x) /\ (∀ ys, te ((ρ.set i (some (.ob (.ll ys)))).set iw none) fun d => d = .int c) /\ (∀ ys, tk ((ρ.set i (some (.ob (.ll ys)))).set iw none) fun d => d = .int n) ∧
 0 <= n /\ (∀ ds, LI.own ds ∈ xs -> n < ds.length) /\ E.nx ((ρ.set i (some (.ob (.ll (xs.map (bE n.toNat c)))))).set iw none)
theorem mS {x w : Str} {px pw p1 p2 tp p3 : Pos} {test k e : Expr} {tt : DT} {tk te : DE} (i iw : Nat) (hne : i ≠ iw) (hp : PassesOwn (model X.prog X.w) X.A X.env X.xe) (hc : X.calm = true) (hN : X.N.Nodup) (ht : PTD X test tt) (hk : PED X k tk) (he : PED X e te) (hi : X.N[i]? = some x := by rfl) (hw : X.N[iw]? = some w := by rfl)
  (hv : Vis X.env.scope x := by first | exact Or.inl rfl | exact Or.inr (Or.inl rfl) | exact Or.inr (Or.inr rfl)) (hd : (x == ("__debug__" : Str)) = false := by decide) (hcd : (x == ("__classdict__" : Str)) = false := by decide)
  (hvw : Vis X.env.scope w := by first | exact Or.inl rfl | exact Or.inr (Or.inl rfl) | exact Or.inr (Or.inr rfl)) (hdw : (w == ("__debug__" : Str)) = false := by decide) (hcw : (w == ("__classdict__" : Str)) = false := by decide)
  (hx : Loc X.env.scope w := by first | exact Or.inl rfl | exact Or.inr rfl) (hf : X.fn w = true ∨ X.env.scope.names.lookup w = some .local := by first | exact .inl rfl | exact .inr rfl | assumption)
  (ha : ∀ v, assign (.Subscript (.Name w p2) k tp) X.env v = (do
   let ov ← holding [v] (eval (.Name w p2) X.env)
   let iv ← holding [v, ov] (eval k X.env)
   standAt tp
   holding [v, ov, iv] (setItem ov iv v)
   release [v, ov, iv] []) := by intro _; rfl)
  (hs1 : swapsWithSole [.Subscript (.Name w p2) k tp] e p3.line X.env = pure false := by rfl) (hw1 : swappedStores [.Subscript (.Name w p2) k tp] e X.env = pure none := by rfl)
  (h1 : (assignEach [.Subscript (.Name w p2) k tp] X.env).map (·.2) = [assign (.Subscript (.Name w p2) k tp) X.env] := by rfl)
  (hs : ∀ y, foldedSetIterable (.Name x px) X.env y = pure y := by intro _; rfl) : PSD X (.For (.Name w pw) (.Name x px) [.If test [.Assign [.Subscript (.Name w p2) k tp] e p3] [] p1] [] pos) (gR i iw tt tk te) := by
 refine PSD.of (sF hp hc (k8 (eI hi hv hd hcd)) (qS hN hw hx hf) (lg (tM ht.pt (lg (sE he.pe (sD (eI hw hvw hdw hcw) hk.pe set_list ha) hs1 hw1 h1)) qT)) hs) fun σ H W ρ E r hl h => ?_
 obtain ⟨xs, n, c, eo, hwl, htest, hte, htk, hn0, hlen, hfin⟩ := h
 have hlw : iw < σ.length := by rw [hl]; exact (zAD.mp hw).1
 have hli : i < σ.length := by rw [hl]; exact (zAD.mp hi).1
 have hρ : i < ρ.length := (zAD.mp eo).1
 obtain ⟨a, o, oa, sa, ha, ho⟩ := r.own i _ eo
 cases ho with
 | ll hds =>
 rename_i vs
 generalize hxj : (fun j => (xs.take j).map (bE n.toNat c) ++ xs.drop j) = xj
 have xjl : ∀ j, (xj j).length = xs.length := fun j => by rw [<- hxj]; simp; omega
 have x0 : xj 0 = xs := by rw [<- hxj]; simp
 have xn : xj xs.length = xs.map (bE n.toNat c) := by rw [<- hxj]; simp
 have xat : ∀ j x, xs[j]? = some x -> (xj j)[j]? = some x := fun j x q => by
  obtain ⟨l, _⟩ := zAD.mp q
  rw [<- hxj]
  show ((xs.take j).map (bE n.toNat c) ++ xs.drop j)[j]? = some x
  rw [zAM (by simp; omega)]
  simp [Nat.min_eq_left (Nat.le_of_lt l), q]
 have xs1 : ∀ j x, xs[j]? = some x -> (xj j).set j (bE n.toNat c x) = xj (j + 1) := fun j x q => by
  obtain ⟨l, e⟩ := zAD.mp q
  rw [<- hxj]
  show ((xs.take j).map (bE n.toNat c) ++ xs.drop j).set j _ = (xs.take (j + 1)).map (bE n.toNat c) ++ xs.drop (j + 1)
  have lj : ((xs.take j).map (bE n.toNat c)).length = j := by simp; omega
  rw [List.set_append_right _ _ (by omega), lj, Nat.sub_self, List.drop_eq_getElem_cons l, zA4, List.take_succ, q, Option.toList_some, zA2, List.map_singleton, List.append_assoc]
  rfl
 have ρi : ρ.set i (some (.ob (.ll xs))) = ρ := by
  apply List.ext_getElem?
  intro m
  by_cases e : m = i
  ·subst e; rw [zAE hρ, eo]
  ·rw [zAA (Ne.symm e)]
 refine ⟨.ref a, sa, a, rfl, ⟨vs, SqL.of ha⟩, fun j m σ' H' => m = xs.length - j /\ j <= xs.length /\ ∃ W', Fwd W H W' H' /\ σ'.length = σ.length /\ σ'[i]? = some (some (.ref a)) /\ Rel X W' H' σ' ((ρ.set i (some (.ob (.ll (xj j))))).set iw none), ⟨xs.length, rfl, zAZ _, W, Fwd.refl W H, rfl, sa, ?_⟩, ?_⟩
 ·rw [x0, ρi]
  exact r.forget iw
 rintro j m σ' H' ⟨em, hj, W', fw, sl, sa', r'⟩
 have eo' : ∀ ys : List LI, ((ρ.set i (some (.ob (.ll ys)))).set iw none)[i]? = some (some (.ob (.ll ys))) := fun ys => by rw [zAA (Ne.symm hne), zAE hρ]
 obtain ⟨a', o', oa', sa2, ha', ho'⟩ := r'.own i _ (eo' _)
 rw [sa'] at sa2
 cases sa2
 cases ho' with
 | ll hds' =>
 rename_i vs'
 have ln : vs'.length = xs.length := by rw [hds'.len, xjl]
 by_cases hlt : j < xs.length
 ·right
  have hxj' : xs[j]? = some xs[j] := by simp [hlt]
  generalize xs[j] = z at hxj'
  have zm : z ∈ xs := zAy hxj'
  obtain ⟨rs, up⟩ := r'.softL (eo' _)
  refine ⟨⟨vs', vs'[j]'(by rw [ln]; exact hlt), SqL.of ha', by simp⟩, fun σ'' H'' => ∃ W'', Fwd W H W'' H'' /\ σ''.length = σ.length /\ σ''[i]? = some (some (.ref a)) /\ Rel X W'' H'' σ'' ((ρ.set i (some (.ob (.ll (xj (j + 1)))))).set iw none), fun σ'' H'' q => ⟨xs.length - (j + 1), by omega, rfl, hlt, q⟩, fun y H3 yy => ?_⟩
  obtain ⟨e3, yy⟩ := yy
  subst e3
  have hy := yy vs' (SqL.of ha')
  show sL _ _ _ _ (σ'.set iw (some y)) H3
  have hden : Den X.K (W'.softL σ'.length i).bad H3 (bw z) y := by
   obtain ⟨v0, q1, q2⟩ := rs.val i _ (by rw [zAE (by rw [zAS, zAS]; exact hρ)])
   rw [sa'] at q1
   cases q1
   obtain ⟨b, ws, e1, _, sq, dd⟩ := q2.lst_
   cases e1
   obtain ⟨v1, g1, g2⟩ := dd.get (i := j) (d := bw z) (by rw [zAN, xat j z hxj']; rfl)
   have := yy ws sq
   rw [g1] at this
   cases this
   exact g2
  have rt := rs.put (i := iw) (by omega) hden
  have eρ : ((((ρ.set i (some (.ob (.ll (xj j))))).set iw none).set i (some (.val (.lst false ((xj j).map bw))))).set iw (some (.val (bw z)))) = (ρ.set i (some (.val (.lst false ((xj j).map bw))))).set iw (some (.val (bw z))) := by
   rw [List.set_comm _ _ (Ne.symm hne), List.set_set, List.set_set]
  rw [eρ] at rt
  refine ⟨_, _, _, rt, htest _ z zm, fun b H4 e4 eb => ?_⟩
  subst eb
  have r4 := (r'.same e4).setN (iw := iw) (by rw [sl]; exact hlw) y
  rw [List.set_set] at r4
  have f4 : Fwd W H (W'.drop iw) H4 := (fw.trans (Fwd.same e4)).trans (Fwd.drop W' H4 iw)
  have s4 : (σ'.set iw (some y))[i]? = some (some (.ref a)) := by rw [zAA (Ne.symm hne)]; exact sa'
  cases z with
  | val d =>
   show (if false = true then _ else _)
   rw [if_neg (by simp)]
   refine ⟨W'.drop iw, f4, by rw [zAS]; exact sl, s4, ?_⟩
   rw [<- xs1 j _ hxj', show bE n.toNat c (.val d) = .val d from rfl]
   have : (xj j).set j (.val d) = xj j := by
    apply List.ext_getElem?
    intro q
    by_cases e : q = j
    ·subst e; rw [zAE (by rw [xjl]; exact hlt), xat q _ hxj']
    ·rw [zAA (Ne.symm e)]
   rw [this]
   exact r4
  | own ds =>
   show (if true = true then _ else _)
   rw [if_pos rfl]
   obtain ⟨b, us, g1, g2, g3, g4⟩ := hds'.get (m := j) (xat j _ hxj')
   rw [hy] at g1
   cases g1
   refine ⟨_, _, _, r4, hte _, fun v5 H5 d5 e5 hd5 ed5 => ?_⟩
   subst ed5
   have z5 := hd5.int_
   subst z5
   refine ⟨.ref b, by rw [zAE (by omega)], ?_⟩
   refine ⟨_, _, _, r4.same e5, htk _, fun v6 H6 d6 e6 hd6 ed6 => ?_⟩
   subst ed6
   have z6 := hd6.int_
   subst z6
   have r6 := (r4.same e5).same e6
   have hb6 : H6 b = some (.lst us) := e6 _ _ (e5 _ _ (e4 _ _ g3))
   have nl : n < ds.length := hlen ds zm
   refine ⟨b, us, n, n.toNat, rfl, rfl, hb6, ?_, ?_⟩
   ·unfold ixN
    rw [if_pos hn0, g4.len, if_pos nl]
   ·have ob : (W'.drop iw).sub (σ'.set iw (some (.ref b))).length i j = some b := by
     rw [zAS]
     show (if vix σ'.length i j = iw then none else W'.O (vix σ'.length i j)) = _
     rw [if_neg (bU (by omega))]
     simpa using g2
    have dd : ae X.K (W'.drop iw).bad H6 (ds.set n.toNat (.int c)) (us.set n.toNat (.int c)) := ae.set (Den.int c) n.toNat (((g4.fewer fun _ _ z => Own.drop_bad z).same e4).same (e5.trans e6))
    obtain ⟨r7, f7⟩ := r6.mutIn (eo' _) (xat j _ hxj') ob hb6 dd
    refine ⟨W'.drop iw, (f4.trans (Fwd.same (e5.trans e6))).trans f7, by rw [zAS]; exact sl, s4, ?_⟩
    have q := xs1 j _ hxj'
    rw [show bE n.toNat c (.own ds) = .own (ds.set n.toNat (.int c)) from rfl] at q
    rw [q, List.set_comm _ _ (Ne.symm hne), List.set_set] at r7
    exact r7
 ·left
  have ej : j = xs.length := by omega
  subst ej
  refine ⟨⟨vs', SqL.of ha', by omega⟩, W', _, fw, r', ?_⟩
  rw [xn]
  exact hfin
end
end PD
namespace PD
open PySem PySem.Spec PyProof.Rows L2
section
variable {X : Cx} {pos : Pos}
def gd (i : Nat) (te : DE) : DS := fun E ρ => ∃ xs, ρ[i]? = some (some (.ob (.ll xs))) /\ te ρ fun d => xs.length < sizeLine /\ E.nx (ρ.set i (some (.ob (.ll (xs ++ [.val d])))))
theorem lY {x : Str} {e : Expr} {te : DE} {px apos cpos : Pos} (i : Nat) (he : PED X e te) (hi : X.N[i]? = some x := by rfl) (hv : Vis X.env.scope x := by first | exact Or.inl rfl | exact Or.inr (Or.inl rfl) | exact Or.inr (Or.inr rfl))
  (hd : (x == ("__debug__" : Str)) = false := by decide) (hcd : (x == ("__classdict__" : Str)) = false := by decide)
  (hbase : attributeBase (.Name x px) "append" X.env (eval (.Name x px) X.env) = eval (.Name x px) X.env := by rfl)
  (hfew : ((backTo cpos (starEach [e] X.env)).all (fun x => !x.1) && (backToKw cpos (keywordEach [] X.env)).all (fun x => x.1.isSome) && decide ([e].length + ([] : List Keyword).length + (if ([] : List Keyword).isEmpty then 0 else 1) < 30)) = true := by rfl)
  (hline : (apos.endLine == cpos.line) = true := by rfl) (hst : starEach [e] X.env = (false, eval e X.env) :: starEach [] X.env := by rfl) (hplain : (backTo cpos (starEach [] X.env)).any (·.1) = false := by rfl)
  (hs : swapsWith (.Call (.Attribute (.Name x px) "append" apos) [e] [] cpos) none pos.line X.env = pure false := by rfl) :
  PSD X (.Expr (.Call (.Attribute (.Name x px) "append" apos) [e] [] cpos) pos) (gd i te) := by
 have P0 := k9 (pos := pos) (qk PySem.F.plainAttrs_list PySem.F.slot_list_append PySem.F.type_list_append dJ (eI hi hv hd hcd) (bD he.pe dm hst) hbase hfew hline hst hplain) hs
 refine PSD.of P0 fun σ H W ρ E r hl h => ?_
 obtain ⟨xs, eo, h⟩ := h
 obtain ⟨a, o, oa, sa, ha, ho⟩ := r.own i _ eo
 cases ho with
 | ll hds =>
 rename_i vs
 refine ⟨.ref a, sa, .inl ⟨rfl, _, SqL.of ha⟩, W, ρ, _, r, h, fun v H' d e1 hd' q => ?_⟩
 obtain ⟨z, q⟩ := q
 have ha' := e1 _ _ ha
 have r' := r.same e1
 have hds' : ao X.K W.bad H' (W.sub σ.length i) 0 xs vs := hds.map (fun _ _ z => z.same e1) fun _ _ q => ⟨q, fun _ z => e1 _ _ z⟩
 refine ⟨a, vs, v, rfl, rfl, ha', by rw [hds'.len]; exact z, ?_⟩
 obtain ⟨r2, f2⟩ := r'.mutG (x' := .ll (xs ++ [.val d])) (o' := .lst (vs ++ [v])) eo oa sa ha' True.intro (.ll (hds'.snoc_val hd'))
 exact ⟨W, _, (Fwd.same e1).trans f2, r2, q⟩
end
end PD
namespace PD
open PySem PySem.Spec PyProof.Rows L2
section
variable {X : Cx} {e : Expr} {ta : DA}
def gT (i : Nat) (t : DA) : DA := fun ρ Q => ∃ xs, ρ[i]? = some (some (.ob (.ll xs))) /\ t (ρ.set i (some (.val (.lst false (xs.map bw))))) fun ys => cL ys = true /\ Q ys
theorem oZ (i : Nat) (h : PEF X e ta) : PEF X e (gT i ta) := by
 intro pins s σ H W ρ Q I r hw
 obtain ⟨xs, eo, hw⟩ := hw
 obtain ⟨r', up⟩ := r.softL eo
 exact thn (h pins s σ H _ _ _ I r' hw) fun u s1 ⟨b, vs, H', ys, e1, I1, sm, n, k, hb, hd, al, q⟩ => ⟨b, vs, H', ys, e1, I1, sm, n, k, hb, ae.hard (fun c z => z.elim (fun z => .inl (up c z)) .inr) ys vs al hd, q⟩
end
end PD
namespace LW
open PySem PySem.Spec PyProof.Rows L2 PD
seal PD.bA PD.PSD PD.PED PD.PTD PD.PWD PD.PAD PD.PID PD.PGD PD.iT PD.TsD PD.PEF PD.PKD PD.PPD PD.PDO PD.PFL PD.PPK PD.PEK
local macro_rules | `(tactic| walk_at "sc") => `(tactic| exact ⟨rfl, rfl, rfl, by decide +kernel, rfl, by decide +kernel, by decide +kernel⟩)
def top (i : Nat) : Stmt := PySem.Challenge.pw_halvecut_k11_dots_made.main.body.getD i (.Pass ⟨0, 0, 0, 0⟩)
abbrev eW : Stmt := top 7
abbrev d4 : Stmt := top 12
abbrev cx : Stmt := top 13
abbrev cM : Stmt := top 14
abbrev eZ : Stmt := top 15
abbrev eg : Stmt := top 17
abbrev cW : Stmt := top 18
abbrev dq : Stmt := top 19
abbrev fG : Stmt := top 20
abbrev d9 : Stmt := top 21
abbrev fH : Stmt := top 22
abbrev fF : Stmt := top 23
abbrev cX : Stmt := top 24
abbrev eY : Stmt := top 25
abbrev eX : Stmt := top 26
abbrev bY : Stmt := top 27
theorem j8 : aF ["thing"] ["thing"] (ak eW) := by walk_at "sc"
theorem jN : aF ["thing", "least", "most"] ["thing", "least", "most"] (ak d4) := by walk_at "sc"
theorem gn : aF ["thing"] ["thing"] (ak cx) := by walk_at "sc"
theorem jQ : aF ["rows"] ["rows"] (ak cM) := by walk_at "sc"
theorem kc : aF ["row"] ["row"] (ak eZ) := by walk_at "sc"
theorem jP : aF ["_law_found"] ["_law_found"] (ak eg) := by walk_at "sc"
theorem hJ : aF ["_law_script", "_law_k"] ["_law_script", "_law_k"] (ak cW) := by walk_at "sc"
theorem bH : aF ["_law_cell", "_law_many", "_law_found", "_law_number", "_law_k"] ["_law_cell", "_law_many"] (ak dq) := by walk_at "sc"
theorem mi : aF ["_law_number"] ["_law_number"] (ak fG) := by walk_at "sc"
theorem jO : aF ["_law_number"] ["_law_number"] (ak d9) := by walk_at "sc"
theorem fb : aF ["_law_cell", "_law_xs", "_law_row_here"] ["_law_cell"] (ak fH) := by walk_at "sc"
theorem aY : aF ["_law_number", "_law_row_here", "_law_some", "_law_x", "_law_y", "_law_painted", "_law_weight"] ["_law_number", "_law_row_here"] (ak fF) := by walk_at "sc"
theorem bO : aF ["_law_rows", "_law_caught", "error"] ["_law_rows"] (ak cX) := by walk_at "sc"
theorem bT : aF ["_law_found", "_law_rows", "_law_dot", "_law_row_here", "_law_here", "_law_there"] ["_law_found", "_law_rows"] (ak eY) := by walk_at "sc"
theorem j9 : aF ["_law_row_here"] ["_law_row_here"] (ak eX) := by walk_at "sc"
theorem bS : aF ["_law_script", "_law_first", "_law_cells", "_law_rows", "_law_handed", "_law_found", "_law_row_here", "_law_bad_here", "_law_at", "_law_many"] ["_law_script"] (ak bY) := by walk_at "sc"
structure Cls where
 PlaneError : Addr
 NoPlace : Addr
 NoDots : Addr
 NoMap : Addr
 TooMany : Addr
structure COk (K : PySem.W.Frag) (mg : Str -> Option Value) (κ : Cls) : Prop where
 mg_PlaneError : mg "PlaneError" = some (.ref κ.PlaneError)
 mg_NoPlace : mg "NoPlace" = some (.ref κ.NoPlace)
 mg_NoDots : mg "NoDots" = some (.ref κ.NoDots)
 mg_NoMap : mg "NoMap" = some (.ref κ.NoMap)
 mg_TooMany : mg "TooMany" = some (.ref κ.TooMany)
 gi_MOST_DOTS : ∃ t, mg "MOST_DOTS" = some (.int 30 t)
 gi_MOST_COORDINATE : ∃ t, mg "MOST_COORDINATE" = some (.int 999999999999 t)
 gi_MOST_WEIGHT : ∃ t, mg "MOST_WEIGHT" = some (.int 999999999 t)
 exc_NoDots : PySem.W.excIn K κ.NoDots mj "ValueError.__new__" = true
 xk_NoDots : PX.b9 K κ.NoDots
 kit_NoDots_PlaneError : PySem.W.kitOne K (.ref κ.NoDots) (.ref κ.PlaneError) = some true
 kit_NoDots_NoPlace : PySem.W.kitOne K (.ref κ.NoDots) (.ref κ.NoPlace) = some false
 kit_NoDots_NoDots : PySem.W.kitOne K (.ref κ.NoDots) (.ref κ.NoDots) = some true
 kit_NoDots_NoMap : PySem.W.kitOne K (.ref κ.NoDots) (.ref κ.NoMap) = some false
 kit_NoDots_TooMany : PySem.W.kitOne K (.ref κ.NoDots) (.ref κ.TooMany) = some false
 kit_NoDots_ValueError : PySem.W.kitOne K (.ref κ.NoDots) (.type "ValueError") = some true
 exm_NoDots_PlaneError : PySem.W.exmOne K (.ref κ.NoDots) (.ref κ.PlaneError) = some true
 exm_NoDots_NoDots : PySem.W.exmOne K (.ref κ.NoDots) (.ref κ.NoDots) = some true
abbrev Dt := Int × Int × Int × Int
def dtD (p : Dt) : D := .tup [.int p.1, .int p.2.1, .int p.2.2.1, .int p.2.2.2]
theorem qB {p q : Dt} (h : dtD p = dtD q) : p = q := by
 unfold dtD at h
 simp only [D.tup.injEq, zAP, D.int.injEq, and_true] at h
 obtain ⟨h1, h2, h3, h4⟩ := h
 exact Prod.ext h1 (Prod.ext h2 (Prod.ext h3 h4))
theorem map_inj {α : Type} {f : α -> D} (hf : ∀ {p q}, f p = f q -> p = q) : ∀ {ps qs : List α}, ps.map f = qs.map f -> ps = qs
 | [], [], _ => rfl
 | [], _ :: _, h => by simp at h
 | _ :: _, [], h => by simp at h
 | p :: ps, q :: qs, h => by
  simp only [zAK, zAP] at h
  rw [hf h.1, map_inj hf h.2]
theorem qC {ps qs : List Dt} (h : ps.map dtD = qs.map dtD) : ps = qs := map_inj qB h
theorem fK (p : Dt) : av (dtD p) = dtD p := by unfold dtD; simp only [cm, bc, bb, bx]
theorem fX (ps : List Dt) : ay (ps.map dtD) = ps.map dtD := fi dtD fK ps
structure GD (p : Dt) : Prop where
 x : Bd 60 p.1
 y : Bd 60 p.2.1
 c0 : 0 <= p.2.2.1
 c2 : p.2.2.1 <= 2
def rn {α : Type} (xs : List α) (lo hi : Option Int) : List α := (xs.drop (HT.sIx xs.length 0 lo)).take (HT.sIx xs.length xs.length hi - HT.sIx xs.length 0 lo)
theorem gO {α : Type} (f : α -> D) (xs : List α) (lo hi : Option Int) : PD.cutD (xs.map f) lo hi = (rn xs lo hi).map f := by
 unfold PD.cutD rn
 rw [zAF, List.map_take, List.map_drop]
theorem getInt {xs : List Int} {j : Nat} {d : D} (h : (xs.map D.int)[j]? = some d) : ∃ n : Int, d = .int n /\ n ∈ xs /\ j < xs.length := by
 rw [zAN] at h
 cases e : xs[j]? with
 | none => rw [e] at h; cases h
 | some n =>
  rw [e] at h
  cases h
  exact ⟨n, rfl, zAy e, (zAD.mp e).1⟩
theorem fm {a b : Int} (hb : 0 < b) : 0 <= a.fmod b /\ a.fmod b < b := ⟨Int.fmod_nonneg_of_pos a hb, Int.fmod_lt_of_pos a hb⟩
theorem p12 : ((10 : Int) ^ (12 : Int).toNat) = 1000000000000 := by decide
theorem p9 : ((10 : Int) ^ (9 : Int).toNat) = 1000000000 := by decide
theorem i8 : lB 10 12 := ⟨by decide, by decide, by decide⟩
theorem cp9 : lB 10 9 := ⟨by decide, by decide, by decide⟩
abbrev M6 := Int × Int × Int × Int × Int × Int
def m6D (m : M6) : D := .tup [.int m.1, .int m.2.1, .int m.2.2.1, .int m.2.2.2.1, .int m.2.2.2.2.1, .int m.2.2.2.2.2]
theorem jU (m : M6) : av (m6D m) = m6D m := by unfold m6D; simp only [cm, bc, bb, bx]
def isI : D -> Bool
 | .int _ => true
 | _ => false
def isB : D -> Bool
 | .bl _ => true
 | _ => false
theorem tj (d : D) : isT "int" d = (isI d || isB d) := by
 unfold isT
 cases d <;> simp only [tyD, isI, isB] <;> decide
theorem tf (d : D) : isT "bool" d = isB d := by
 unfold isT
 cases d <;> simp only [tyD, isI, isB] <;> decide
def within (d : D) (l m : Int) : Bool := match d with
 | .int i => decide (l <= i) && decide (i <= m)
 | _ => false
abbrev crd (d : D) : Bool := within d (-999999999999) 999999999999
theorem cR : ∀ ds : List D, ay ds = ds.map av
 | [] => by rw [ay]; rfl
 | d :: r => by rw [ay, cR r]; rfl
theorem qK (d : D) : isI (av d) = isI d := by cases d <;> (rw [av] <;> rfl)
theorem fk (d : D) (l m : Int) : within (av d) l m = within d l m := by cases d <;> (rw [av] <;> rfl)
structure MB (m : M6) : Prop where
 a : Bd 41 m.1
 b : Bd 41 m.2.1
 c : Bd 41 m.2.2.1
 d : Bd 41 m.2.2.2.1
 e : Bd 41 m.2.2.2.2.1
 f : Bd 41 m.2.2.2.2.2
 n : m.1 * m.2.2.2.1 ≠ m.2.1 * m.2.2.1
theorem kE (t : Bool) (ys : List D) (R : List D -> Prop) : (∃ d k xs, [D.lst t ys] = [d] /\ bj d = some (k, xs) /\ R xs) = R ys := by
 apply propext
 constructor
 ·rintro ⟨d, k, xs, e, h, q⟩
  cases e
  cases h
  exact q
 ·intro q
  exact ⟨_, _, _, rfl, rfl, q⟩
theorem aL {s1 s2 : DS} {E : dE} {ρ : Ro} (P : Ro -> Prop) (h2 : ∀ ρ', P ρ' -> s2 E ρ') (h1 : ∀ K : Ro -> Prop, (∀ ρ', P ρ' -> K ρ') -> s1 { E with nx := K } ρ) : lR s1 s2 E ρ := h1 _ h2
def c9 : List D -> Bool
 | [a, b, c, e] => (crd a && crd b) && (within c 0 2 && within e 1 999999999)
 | _ => false
def aO : D -> Bool
 | .tup ds => c9 ds
 | .lst _ ds => c9 ds
 | _ => false
def dj : D -> List D
 | .tup ds => ds
 | .lst _ ds => ds
 | _ => []
def cg : D -> Bool
 | .lst _ ds => decide (30 < ds.length) || !(ds.all aO)
 | _ => true
abbrev Rw := Bool × Dt
def ba (p : Dt) : List D := [.int p.1, .int p.2.1, .int p.2.2.1, .int p.2.2.2]
def rwD (t : Bool) (r : Rw) : D := if r.1 = true then .lst t (ba r.2) else .tup (ba r.2)
def dI (p : Dt) : Prop := c9 (ba p) = true
theorem rN (d : D) : (isT "tuple" d || isT "list" d) = match d with | .tup _ => true | .lst _ _ => true | _ => false := by
 unfold isT
 cases d <;> simp only [tyD] <;> decide +kernel
theorem mv {x1 x2 x3 x4 : Bool} {A1 A2 A3 A4 B : Prop} (h : (((x1 && x2) && (x3 && x4)) = true /\ B) ∨ (((x1 && x2) && (x3 && x4)) = false /\ A1 /\ A2 /\ A3 /\ A4)) : if x1 = false then A1 else if x2 = false then A2 else if x3 = false then A3 else if x4 = false then A4 else B := by
 cases x1 <;> cases x2 <;> cases x3 <;> cases x4 <;> simp at h ⊢ <;> first | exact h | exact h.1 | exact h.2.1 | exact h.2.2.1 | exact h.2.2.2
theorem dH {ds : List D} (h : ¬ ds.length = 4) : c9 ds = false := by
 match ds with
 | [] => rfl
 | [_] => rfl
 | [_, _] => rfl
 | [_, _, _] => rfl
 | [_, _, _, _] => exact absurd rfl h
 | _ :: _ :: _ :: _ :: _ :: _ => rfl
theorem l0 {ds : List D} (h : ds.length = 4) : ∃ a b c e, ds = [a, b, c, e] := by
 match ds, h with
 | [a, b, c, e], _ => exact ⟨a, b, c, e, rfl⟩
theorem nc : ∀ ds : List D, c9 (ay ds) = c9 ds := fun ds => by
 by_cases l : ds.length = 4
 ·obtain ⟨a, b, c, e, rfl⟩ := l0 l
  rw [cR]
  simp only [zAK, zAw, c9, fk]
 ·rw [dH l, dH (by rw [cR, zAF]; exact l)]
theorem fC (d : D) : aO (av d) = aO d := by
 cases d <;> (rw [av]) <;> first | rfl | exact nc _
theorem dX (d : D) : cg (av d) = cg d := by
 cases d with
 | lst t ds =>
  rw [av]
  show (decide (30 < (ay ds).length) || !((ay ds).all aO)) = _
  rw [cR, zAF, List.all_map]
  have : (aO ∘ av) = aO := funext fC
  rw [this]
  rfl
 | _ => rw [av] <;> rfl
theorem oi : ∀ rs : List Rw, List.zipWith (fun x y => D.tup [x, y]) ((rs.map (·.2)).map dtD) (rs.map (rwD false)) = rs.map fun r => .tup [dtD r.2, rwD false r]
 | [] => rfl
 | r :: rs => by
  rw [zAK, zAK, zAK, List.zipWith_cons_cons, oi rs, zAK]
theorem sI (r : Rw) : bj (rwD false r) = some (r.1, ba r.2) := by
 obtain ⟨b, p⟩ := r
 cases b <;> rfl
theorem sX (g1 g2 g3 g4 : DG) (r : Rw) (ρ : Ro) (Q : Ro -> Prop) : bW 4 (aW g1 (aW g2 (aW g3 (aW g4 dG)))) (rwD false r) ρ Q = g1 (.int r.2.1) ρ fun ρ1 => g2 (.int r.2.2.1) ρ1 fun ρ2 => g3 (.int r.2.2.2.1) ρ2 fun ρ3 => g4 (.int r.2.2.2.2) ρ3 Q := by
 obtain ⟨b, p⟩ := r
 cases b
 ·show bW 4 _ (.tup (ba p)) ρ Q = _
  unfold ba
  rw [o4]
 ·show bW 4 _ (.lst false (ba p)) ρ Q = _
  unfold ba
  rw [gdN 4 _ _ _ rfl]
  simp only [gdc, gdn]
def liR (r : Rw) : LI := if r.1 = true then .own (ba r.2) else .val (.tup (ba r.2))
theorem fh (t : Bool) (r : Rw) : av (rwD t r) = rwD false r := by
 obtain ⟨b, p⟩ := r
 cases b <;> (unfold rwD ba; simp [cm, dQ, bc, bb, bx])
theorem cS (t : Bool) : ∀ rs : List Rw, ay (rs.map (rwD t)) = rs.map (rwD false)
 | [] => bb
 | r :: rs => by rw [zAK, bc, fh, cS t rs, zAK]
theorem qX (r : Rw) : bw (liR r) = rwD false r := by
 obtain ⟨b, p⟩ := r
 cases b <;> rfl
theorem jS (rs : List Rw) : (rs.map liR).map bw = rs.map (rwD false) := by
 rw [List.map_map]
 exact List.map_congr_left fun r _ => qX r
theorem qJ (t : Bool) (r : Rw) : aO (rwD t r) = c9 (ba r.2) := by
 obtain ⟨b, p⟩ := r
 cases b <;> rfl
theorem o6 (t : Bool) (r : Rw) : D.tup (dj (av (rwD t r))) = dtD r.2 := by
 rw [fh]
 obtain ⟨b, p⟩ := r
 cases b <;> rfl
theorem iF (t : Bool) (rs : List Rw) : (rs.map (rwD t)).map (fun d => D.tup (dj (av d))) = (rs.map (·.2)).map dtD := by
 rw [List.map_map, List.map_map]
 exact List.map_congr_left fun r _ => o6 t r
theorem mr {t : Bool} {rs : List Rw} (h : ∀ r ∈ rs, dI r.2) : (rs.map (rwD t)).all aO = true := by
 rw [List.all_map, zAt]
 intro r hr
 show aO (rwD t r) = true
 rw [qJ]
 exact h r hr
theorem kT : ∀ ps : List Dt, bX (ps.map dtD) = true
 | [] => rfl
 | p :: r => by
  rw [zAK, bX, kT r, Bool.and_true]
  rfl
theorem ki : ∀ ps : List Dt, cL (ps.map dtD) = true
 | [] => rfl
 | p :: r => by
  rw [zAK, cL, ki r, Bool.and_true]
  rfl
theorem p5 : ∀ rs : List Rw, di (rs.map (rwD false)) (rs.map (rwD true)) = true
 | [] => jo
 | r :: rs => by
  rw [zAK, zAK, iu, p5 rs, Bool.and_true]
  obtain ⟨b, p⟩ := r
  cases b
  ·exact jk _
  ·exact jj _ _ _
theorem nN (t : Bool) (r : Rw) : OkN 1 (rwD t r) := by
 have h : cV 0 (ba r.2) := .cons (.int _ _) (.cons (.int _ _) (.cons (.int _ _) (.cons (.int _ _) (.nil _))))
 unfold rwD
 split
 ·exact OkN.lst h
 ·exact OkN.tup h
theorem pM (ds : List D) : (PD.cutD ds none (some 29)).length <= 29 := by
 unfold PD.cutD
 have e1 : HT.sIx ds.length ds.length (some 29) = min 29 ds.length := HT.qW _ _ 29
 rw [e1, HT.pE, zAh]
 omega
theorem gN (ds : List D) (lo hi : Option Int) : (PD.cutD ds lo hi).length <= ds.length := by
 unfold PD.cutD
 rw [zAh, zA7]
 omega
theorem oB {ds : List D} (h : 30 < ds.length) : cg (.lst false (ay ds)) = true := by
 show (decide (30 < (ay ds).length) || _) = true
 rw [cR, zAF, decide_eq_true h, Bool.true_or]
theorem kl {ds : List D} {b : D} (hm : b ∈ ds) (h : aO b = false) : cg (.lst false (ay ds)) = true := by
 have e : ds.all aO = false := by
  rw [List.all_eq_false]
  exact ⟨b, hm, by rw [h]; simp⟩
 have := dX (.lst false ds)
 rw [dQ] at this
 rw [this]
 show (_ || !(ds.all aO)) = true
 rw [e]
 simp
theorem gL : ∀ ps : List Dt, ay (ps.map dtD) = ps.map dtD
 | [] => bb
 | p :: r => by
  rw [zAK, bc, gL r]
  unfold dtD
  simp [cm, bc, bb, bx]
theorem l5 (d : D) : isT "list" d = match d with | .lst _ _ => true | _ => false := by
 unfold isT
 cases d <;> simp only [tyD] <;> decide +kernel
def eh (κ : Cls) : DSp := fun ds Q Ed => ∃ (d : D), ds = [d] /\ (Q (.bl (isI d)))
theorem eL (κ : Cls) (d : D) (Q : D -> Prop) (Ed : Value -> Prop) : eh κ [d] Q Ed = (Q (.bl (isI d))) := by
 apply propext
 constructor
 ·rintro ⟨x0, e, q⟩
  simp only [T3, zAP, D.int.injEq, D.tup.injEq, D.lst.injEq, and_true, true_and] at e
  obtain rfl := e
  exact q
 ·intro q; exact ⟨_, rfl, q⟩
def cy (κ : Cls) : DSp := fun ds Q Ed => ∃ (d : D) (l : Int) (m : Int), ds = [d, .int l, .int m] /\ (Q (.bl (within d l m)))
theorem dM (κ : Cls) (d : D) (l : Int) (m : Int) (Q : D -> Prop) (Ed : Value -> Prop) : cy κ [d, .int l, .int m] Q Ed = (Q (.bl (within d l m))) := by
 apply propext
 constructor
 ·rintro ⟨x0, x1, x2, e, q⟩
  simp only [T3, zAP, D.int.injEq, D.tup.injEq, D.lst.injEq, and_true, true_and] at e
  obtain ⟨rfl, rfl, rfl⟩ := e
  exact q
 ·intro q; exact ⟨_, _, _, rfl, q⟩
def cc (κ : Cls) : DSp := fun ds Q Ed => ∃ (d : D), ds = [d] /\ (Q (.bl (crd d)))
theorem cB (κ : Cls) (d : D) (Q : D -> Prop) (Ed : Value -> Prop) : cc κ [d] Q Ed = (Q (.bl (crd d))) := by
 apply propext
 constructor
 ·rintro ⟨x0, e, q⟩
  simp only [T3, zAP, D.int.injEq, D.tup.injEq, D.lst.injEq, and_true, true_and] at e
  obtain rfl := e
  exact q
 ·intro q; exact ⟨_, rfl, q⟩
def et (κ : Cls) : DSp := fun ds Q Ed => ∃ (d : D), ds = [d] /\ ((aO d = true /\ Q (.tup (dj d))) ∨ (aO d = false /\ Ed (.ref κ.NoDots)))
theorem eN (κ : Cls) (d : D) (Q : D -> Prop) (Ed : Value -> Prop) : et κ [d] Q Ed = ((aO d = true /\ Q (.tup (dj d))) ∨ (aO d = false /\ Ed (.ref κ.NoDots))) := by
 apply propext
 constructor
 ·rintro ⟨x0, e, q⟩
  simp only [T3, zAP, D.int.injEq, D.tup.injEq, D.lst.injEq, and_true, true_and] at e
  obtain rfl := e
  exact q
 ·intro q; exact ⟨_, rfl, q⟩
def cz (κ : Cls) : DSp := fun ds Q Ed => ∃ (d : D), ds = [d] /\ ((∃ ds, d = .lst false ds /\ ds.length <= 30 /\ ds.all aO = true /\ Q (.lst true (ds.map fun d => .tup (dj (av d))))) ∨ (cg d = true /\ Ed (.ref κ.NoDots)))
theorem dP (κ : Cls) (d : D) (Q : D -> Prop) (Ed : Value -> Prop) : cz κ [d] Q Ed = ((∃ ds, d = .lst false ds /\ ds.length <= 30 /\ ds.all aO = true /\ Q (.lst true (ds.map fun d => .tup (dj (av d))))) ∨ (cg d = true /\ Ed (.ref κ.NoDots))) := by
 apply propext
 constructor
 ·rintro ⟨x0, e, q⟩
  simp only [T3, zAP, D.int.injEq, D.tup.injEq, D.lst.injEq, and_true, true_and] at e
  obtain rfl := e
  exact q
 ·intro q; exact ⟨_, rfl, q⟩
def dA (κ : Cls) : DSp := fun ds Q Ed => ∃ (a : Int), ds = [.int a] /\ (Q (.bl true))
theorem dO (κ : Cls) (a : Int) (Q : D -> Prop) (Ed : Value -> Prop) : dA κ [.int a] Q Ed = (Q (.bl true)) := by
 apply propext
 constructor
 ·rintro ⟨x0, e, q⟩
  simp only [T3, zAP, D.int.injEq, D.tup.injEq, D.lst.injEq, and_true, true_and] at e
  obtain rfl := e
  exact q
 ·intro q; exact ⟨_, rfl, q⟩
def cI (κ : Cls) : DSp := fun ds Q Ed => ∃ (ns : List Int) (k : Int), ds = [.lst false (ns.map D.int), .int k] /\ (0 <= k /\ ns.length <= 63 /\ ∀ v : Int, Q (.int v))
theorem cZ (κ : Cls) (ns : List Int) (k : Int) (Q : D -> Prop) (Ed : Value -> Prop) : cI κ [.lst false (ns.map D.int), .int k] Q Ed = (0 <= k /\ ns.length <= 63 /\ ∀ v : Int, Q (.int v)) := by
 apply propext
 constructor
 ·rintro ⟨x0, x1, e, q⟩
  simp only [T3, zAP, D.int.injEq, D.tup.injEq, D.lst.injEq, and_true, true_and] at e
  obtain ⟨e_ns, rfl⟩ := e
  have f_ns := j1 e_ns
  subst f_ns
  exact q
 ·intro q; exact ⟨_, _, rfl, q⟩
def b6 (κ : Cls) : DSp := fun ds Q Ed => ∃ (c : Int) (m : Int), ds = [.int c, .int m] /\ (0 <= m /\ m < 1000 /\ ∀ xs : List Int, xs.length = m.toNat -> (∀ x ∈ xs, 0 <= x /\ x < 2147483647) -> Q (.lst true (xs.map D.int)))
theorem dz (κ : Cls) (c : Int) (m : Int) (Q : D -> Prop) (Ed : Value -> Prop) : b6 κ [.int c, .int m] Q Ed = (0 <= m /\ m < 1000 /\ ∀ xs : List Int, xs.length = m.toNat -> (∀ x ∈ xs, 0 <= x /\ x < 2147483647) -> Q (.lst true (xs.map D.int))) := by
 apply propext
 constructor
 ·rintro ⟨x0, x1, e, q⟩
  simp only [T3, zAP, D.int.injEq, D.tup.injEq, D.lst.injEq, and_true, true_and] at e
  obtain ⟨rfl, rfl⟩ := e
  exact q
 ·intro q; exact ⟨_, _, rfl, q⟩
def fe (κ : Cls) : DSp := fun ds Q Ed => ∃ (n : Int), ds = [.int n] /\ (∀ v : Int, -999999999999 <= v -> v <= 999999999999 -> Q (.int v))
theorem ft (κ : Cls) (n : Int) (Q : D -> Prop) (Ed : Value -> Prop) : fe κ [.int n] Q Ed = (∀ v : Int, -999999999999 <= v -> v <= 999999999999 -> Q (.int v)) := by
 apply propext
 constructor
 ·rintro ⟨x0, e, q⟩
  simp only [T3, zAP, D.int.injEq, D.tup.injEq, D.lst.injEq, and_true, true_and] at e
  obtain rfl := e
  exact q
 ·intro q; exact ⟨_, rfl, q⟩
def dw (κ : Cls) : DSp := fun ds Q Ed => ∃ (n : Int), ds = [.int n] /\ (∀ v : Int, 1 <= v -> v <= 999999999 -> Q (.int v))
theorem dN (κ : Cls) (n : Int) (Q : D -> Prop) (Ed : Value -> Prop) : dw κ [.int n] Q Ed = (∀ v : Int, 1 <= v -> v <= 999999999 -> Q (.int v)) := by
 apply propext
 constructor
 ·rintro ⟨x0, e, q⟩
  simp only [T3, zAP, D.int.injEq, D.tup.injEq, D.lst.injEq, and_true, true_and] at e
  obtain rfl := e
  exact q
 ·intro q; exact ⟨_, rfl, q⟩
def fg (κ : Cls) : DSp := fun ds Q Ed => ∃ (c : Int), ds = [.int c] /\ (∀ r : Rw, dI r.2 -> Q (rwD true r))
theorem bZ (κ : Cls) (c : Int) (Q : D -> Prop) (Ed : Value -> Prop) : fg κ [.int c] Q Ed = (∀ r : Rw, dI r.2 -> Q (rwD true r)) := by
 apply propext
 constructor
 ·rintro ⟨x0, e, q⟩
  simp only [T3, zAP, D.int.injEq, D.tup.injEq, D.lst.injEq, and_true, true_and] at e
  obtain rfl := e
  exact q
 ·intro q; exact ⟨_, rfl, q⟩
def fc (κ : Cls) : DSp := fun ds Q Ed => ∃ (n : Int) (d : D), ds = [.int n, d] /\ (∃ r : Rw, d = rwD false r /\ dI r.2 /\ ∀ b : D, aO b = false -> Q b)
theorem fq (κ : Cls) (n : Int) (d : D) (Q : D -> Prop) (Ed : Value -> Prop) : fc κ [.int n, d] Q Ed = (∃ r : Rw, d = rwD false r /\ dI r.2 /\ ∀ b : D, aO b = false -> Q b) := by
 apply propext
 constructor
 ·rintro ⟨x0, x1, e, q⟩
  simp only [T3, zAP, D.int.injEq, D.tup.injEq, D.lst.injEq, and_true, true_and] at e
  obtain ⟨rfl, rfl⟩ := e
  exact q
 ·intro q; exact ⟨_, _, rfl, q⟩
def cJ (κ : Cls) : DSp := fun ds Q Ed => ∃ (d : D), ds = [d] /\ (cg d = true /\ Q (.bl true))
theorem c6 (κ : Cls) (d : D) (Q : D -> Prop) (Ed : Value -> Prop) : cJ κ [d] Q Ed = (cg d = true /\ Q (.bl true)) := by
 apply propext
 constructor
 ·rintro ⟨x0, e, q⟩
  simp only [T3, zAP, D.int.injEq, D.tup.injEq, D.lst.injEq, and_true, true_and] at e
  obtain rfl := e
  exact q
 ·intro q; exact ⟨_, rfl, q⟩
def cN (κ : Cls) : DSp := fun ds Q Ed => ∃ (ps : List Dt) (rows : D), ds = [.lst false (ps.map dtD), rows] /\ (∃ rs : List Rw, rows = .lst false (rs.map (rwD false)) /\ ps = rs.map (·.2) /\ ps.length <= 60 /\ Q (.bl true))
theorem bP (κ : Cls) (ps : List Dt) (rows : D) (Q : D -> Prop) (Ed : Value -> Prop) : cN κ [.lst false (ps.map dtD), rows] Q Ed = (∃ rs : List Rw, rows = .lst false (rs.map (rwD false)) /\ ps = rs.map (·.2) /\ ps.length <= 60 /\ Q (.bl true)) := by
 apply propext
 constructor
 ·rintro ⟨x0, x1, e, q⟩
  simp only [T3, zAP, D.int.injEq, D.tup.injEq, D.lst.injEq, and_true, true_and] at e
  obtain ⟨e_ps, rfl⟩ := e
  have f_ps := qC e_ps
  subst f_ps
  exact q
 ·intro q; exact ⟨_, _, rfl, q⟩
def el (κ : Cls) : DSp := fun ds Q Ed => ∃ (d : D), ds = [d] /\ ((∃ t ys, d = .lst t ys /\ Q (.lst true ys)) ∨ (∃ ys, d = .tup ys /\ Q (.tup ys)))
theorem eM (κ : Cls) (d : D) (Q : D -> Prop) (Ed : Value -> Prop) : el κ [d] Q Ed = ((∃ t ys, d = .lst t ys /\ Q (.lst true ys)) ∨ (∃ ys, d = .tup ys /\ Q (.tup ys))) := by
 apply propext
 constructor
 ·rintro ⟨x0, e, q⟩
  simp only [T3, zAP, D.int.injEq, D.tup.injEq, D.lst.injEq, and_true, true_and] at e
  obtain rfl := e
  exact q
 ·intro q; exact ⟨_, rfl, q⟩
section
variable {P : Program} {w : World} {K : PySem.W.Frag} {mg : Str -> Option Value} {base : Heap} {κ : Cls}
local macro_rules | `(tactic| walk_at "rd") => `(tactic| try simp only [lR, lM, lT, oQ, pP, oG, dOp, dB, rq, dOr, oO, lG, rA, lN, dIf, oK, dC, lH, oN, oS, oJ, iO, dCB, dIs, mK, mL, ql, qm, lh, jI, sG, pC, nA, jB, kW, jC, kZ, gW, ji, mT, nE, lL, oP, gQ, gS, kG, kH, iP, gP, m7, m9, m8, zAK, zAw, gd3, rM, o4, bx, jT, iJ, iK, iI, cm, dQ, bb, bc, fY, jK, jJ, p6, mU, kF, at0, at1, at2, at3, zAk, zAn, zBC, kP, kQ, nP, kM, iE, kL, iD, kK, gD, iB, iC, iA, iz, true_and, oI, lU, gx, my, lz, iy, false_and, and_false, false_or, or_false, exists_false, oF, pU, pT, lQ, lr, lq, lp, eF, oE, rB, gd2, zAv, Bool.true_eq_false, if_false, if_true, decide_eq_true_eq, Bool.not_eq_eq_eq_not, Bool.not_true, Bool.not_false, decide_eq_false_iff_not, ite_not, mm, mq, mn, nr, nu, k6, k7, mz, mV, rz, pN, mD, je, lX, pV, jc, mI, oM, oR, rC, lS, lP, eA, i9, lO, pR, mG, m5, m6, lx, ly, og, om, oh, oo, kh, iW, iX, oU, jb, mC, nF, rD, mF, mQ, pY, mJ, gU, mH, ku, mY, mZ, nh, ni, bw, qf, qg, rV, rW, zA4, zA3, km, mE, pS, pQ, mW, mX, qa, pO, mB, pW, kx, mR, pZ, pX, kr, eL, dM, cB, eN, dP, dO, cZ, dz, ft, dN, bZ, fq, c6, bP, eM, fX, fK, jU, at4, at5, kE, oH, gf, ja, gR, gd, lJ, lK, gT])
local macro_rules | `(tactic| walk_at "rx") => `(tactic| try simp only [lR, lM, lT, oQ, pP, oG, dOp, dB, rq, dOr, oO, lG, rA, lN, dIf, oK, dC, lH, oN, oS, oJ, iO, dCB, dIs, mK, mL, ql, qm, lh, jI, sG, pC, nA, jB, kW, jC, kZ, gW, ji, mT, nE, lL, oP, gQ, gS, kG, kH, gP, m7, m9, m8, zAK, zAw, gd3, rM, o4, bx, jT, iJ, iK, iI, cm, dQ, bb, bc, fY, jK, jJ, p6, mU, kF, at0, at1, at2, at3, zAk, zAn, zBC, kP, kQ, nP, kM, iE, kL, iD, kK, gD, iB, iC, iA, iz, true_and, oI, lU, gx, my, lz, iy, false_and, and_false, false_or, or_false, exists_false, pU, pT, lQ, lr, lq, lp, eF, oE, rB, gd2, zAv, Bool.true_eq_false, if_false, if_true, decide_eq_true_eq, Bool.not_eq_eq_eq_not, Bool.not_true, Bool.not_false, decide_eq_false_iff_not, ite_not, mm, mq, mn, nr, nu, k6, k7, mz, mV, rz, pN, mD, je, lX, pV, jc, mI, oM, oR, rC, lS, lP, eA, i9, lO, pR, mG, m5, m6, lx, ly, og, om, oh, oo, kh, iW, iX, oU, jb, mC, nF, rD, mF, mQ, pY, mJ, gU, mH, ku, mY, mZ, nh, ni, bw, qf, qg, rV, rW, zA4, zA3, km, mE, pS, pQ, mW, mX, qa, pO, mB, pW, kx, mR, pZ, pX, kr, eL, dM, cB, eN, dP, dO, cZ, dz, ft, dN, bZ, fq, c6, bP, eM, fX, fK, jU, at4, at5, kE, oH, gf, ja, gR, gd, lJ, lK, gT])
theorem j4 {f : Addr} {fd : FuncData} (F : aD K "is_whole" "is_whole" eW f fd) (C : COk K mg κ)   (z_bool : mg "bool" = none) (z_int : mg "int" = none) (z_isinstance : mg "isinstance" = none) : aE P w K mg base (CX1 P w) 1 f fd ["thing"] (aM K (eh κ)) := by
 refine aD.okN F j8 (fun ds Q E h => by obtain ⟨_, rfl, _⟩ := h; rfl) fun cdv A outer s H E hr => ⟨_, (au (aB (eB (bo (by rfl) z_isinstance (by rfl) z_int boot_int (.inl rfl) (dv 0)) (fx (fv (bo (by rfl) z_isinstance (by rfl) z_bool boot_bool (.inr (.inl rfl)) (dv 0))))))), ?_⟩
 rintro ds Q Ed ⟨d, rfl, h⟩
 have e0 : aK ["thing"] [d] = ([some (.val (d))] : Ro) := rfl
 rw [e0]; clear e0
 walk_at "rd"
 rw [tj, tf]
 cases d <;> exact h
theorem jD {f : Addr} {fd : FuncData} (F : aD K "is_within" "is_within" d4 f fd) (C : COk K mg κ)  (h_is_whole : Has P w K mg base "is_whole" 1 ["thing"] (eh κ))  : aE P w K mg base (CX1 P w) 2 f fd ["thing", "least", "most"] (aM K (cy κ)) := by
 refine aD.okN F jN (fun ds Q E h => by obtain ⟨_, _, _, rfl, _⟩ := h; rfl) fun cdv A outer s H E hr => ⟨_, (au (aB (eB (az h_is_whole (hr.mono (by decide)) (aa (dv 0) ai)) (fx (oX qi qi (dv 1) (dv 0) (dv 2)))))), ?_⟩
 rintro ds Q Ed ⟨d, l, m, rfl, h⟩
 have e0 : aK ["thing", "least", "most"] [d, .int l, .int m] = ([some (.val (d)), some (.val (.int l)), some (.val (.int m))] : Ro) := rfl
 rw [e0]; clear e0
 walk_at "rd"
 rw [qK]
 cases d with
 | int i =>
  walk_at "rd"
  have e : within (.int i) l m = (decide (l <= i) && decide (i <= m)) := rfl
  rw [e] at h
  rw [if_pos (show isI (.int i) = true from rfl)]
  by_cases z : l <= i
  ·rw [if_pos z]
   rw [decide_eq_true z, Bool.true_and] at h
   exact h
  ·rw [if_neg z]
   rw [decide_eq_false z, Bool.false_and] at h
   exact h
 | non => exact h
 | bl b => exact h
 | str x => exact h
 | tup ds => exact h
 | lst t ds => exact h
 | exc c => exact h
 | obj C ns ds => exact h
 | dic => exact h
theorem gk {f : Addr} {fd : FuncData} (F : aD K "is_coordinate" "is_coordinate" cx f fd) (C : COk K mg κ)  (h_is_within : Has P w K mg base "is_within" 2 ["thing", "least", "most"] (cy κ))  : aE P w K mg base (CX1 P w) 3 f fd ["thing"] (aM K (cc κ)) := by
 refine aD.okN F gn (fun ds Q E h => by obtain ⟨_, rfl, _⟩ := h; rfl) fun cdv A outer s H E hr => ⟨_, (au (aB (az h_is_within (hr.mono (by decide)) (aa (dv 0) (aa (jd (eP C.gi_MOST_COORDINATE)) (aa (eP C.gi_MOST_COORDINATE) ai)))))), ?_⟩
 rintro ds Q Ed ⟨d, rfl, h⟩
 have e0 : aK ["thing"] [d] = ([some (.val (d))] : Ro) := rfl
 rw [e0]; clear e0
 walk_at "rd"
 rw [fk]
 exact h
theorem j7 {f : Addr} {fd : FuncData} (F : aD K "made_dot" "made_dot" eZ f fd) (C : COk K mg κ)  (h_is_coordinate : Has P w K mg base "is_coordinate" 3 ["thing"] (cc κ)) (h_is_within : Has P w K mg base "is_within" 2 ["thing", "least", "most"] (cy κ)) (z_isinstance : mg "isinstance" = none) (z_len : mg "len" = none) (z_list : mg "list" = none) (z_tuple : mg "tuple" = none) : aE P w K mg base (CX1 P w) 4 f fd ["row"] (aM K (et κ)) := by
 refine aD.okX F kc (fun ds Q E h => by obtain ⟨_, rfl, _⟩ := h; rfl) fun cdv A outer s H E Ed hr pm px hx => ⟨_, (aq (aV (c8 (aZ (aS (lW (by rfl) z_isinstance (by rfl) z_tuple boot_tuple (.inr (.inr (.inl rfl))) (by rfl) z_list boot_list (.inr (.inr (.inr (.inl rfl)))) (dv 0)))) (cP (bC jA (bL cO (by rfl) z_len boot_len (aa (dv 0) ai)) ah))).pt (au (cF pm (by rfl) C.mg_NoDots C.exc_NoDots rfl (aa bQ ai))) aG) (aq (aV (c8 (aZ (aS (az h_is_coordinate (hr.mono (by decide)) (aa (bq (dv 0) ah) ai)))) (cP (aZ (aS (az h_is_coordinate (hr.mono (by decide)) (aa (bq (dv 0) ah) ai)))))).pt (au (cF pm (by rfl) C.mg_NoDots C.exc_NoDots rfl (aa bQ ai))) aG) (aq (aV (aZ (aS (az h_is_within (hr.mono (by decide)) (aa (bq (dv 0) ah) (aa ah (aa ah ai)))))) (au (cF pm (by rfl) C.mg_NoDots C.exc_NoDots rfl (aa bQ ai))) aG) (aq (aV (aZ (aS (az h_is_within (hr.mono (by decide)) (aa (bq (dv 0) ah) (aa ah (aa (eP C.gi_MOST_WEIGHT) ai)))))) (au (cF pm (by rfl) C.mg_NoDots C.exc_NoDots rfl (aa bQ ai))) aG) (au (aB (bR (aa (bq (dv 0) ah) (aa (bq (dv 0) ah) (aa (bq (dv 0) ah) (aa (bq (dv 0) ah) ai))))))))))), ?_⟩
 rintro ds Q ⟨d, rfl, h⟩
 have e0 : aK ["row"] [d] = ([some (.val (d))] : Ro) := rfl
 rw [e0]; clear e0
 walk_at "rd"
 rw [rN]
 simp only [fk]
 have one : ∀ s : Str, [D.str s].length <= sizeLine := fun s => sz1 _
 have bad : aO d = false -> Ed (.ref κ.NoDots) := fun e => by
  rcases h with ⟨z, _⟩ | ⟨_, h⟩
  ·rw [e] at z; cases z
  ·exact h
 cases d with
 | tup ds =>
  rw [if_neg (by simp)]
  refine ⟨ds, .inr rfl, ?_⟩
  by_cases l : ds.length = 4
  ·rw [if_pos (by omega)]
   obtain ⟨a, b, c, e, rfl⟩ := l0 l
   walk_at "rd"
   refine mv ?_
   rcases h with ⟨z, h⟩ | ⟨z, h⟩
   ·exact .inl ⟨z, sz4 _ _ _ _, h⟩
   ·exact .inr ⟨z, ⟨one _, h⟩, ⟨one _, h⟩, ⟨one _, h⟩, ⟨one _, h⟩⟩
  ·rw [if_neg (by omega)]
   exact ⟨one _, bad (dH l)⟩
 | lst t ds =>
  rw [if_neg (by simp)]
  refine ⟨ds, .inl ⟨t, rfl⟩, ?_⟩
  by_cases l : ds.length = 4
  ·rw [if_pos (by omega)]
   obtain ⟨a, b, c, e, rfl⟩ := l0 l
   walk_at "rd"
   refine mv ?_
   rcases h with ⟨z, h⟩ | ⟨z, h⟩
   ·exact .inl ⟨z, sz4 _ _ _ _, h⟩
   ·exact .inr ⟨z, ⟨one _, h⟩, ⟨one _, h⟩, ⟨one _, h⟩, ⟨one _, h⟩⟩
  ·rw [if_neg (by omega)]
   exact ⟨one _, bad (dH l)⟩
 | non => rw [if_pos rfl]; exact ⟨one _, bad rfl⟩
 | bl b => rw [if_pos rfl]; exact ⟨one _, bad rfl⟩
 | int i => rw [if_pos rfl]; exact ⟨one _, bad rfl⟩
 | str x => rw [if_pos rfl]; exact ⟨one _, bad rfl⟩
 | exc c => rw [if_pos rfl]; exact ⟨one _, bad rfl⟩
 | obj C ns ds => rw [if_pos rfl]; exact ⟨one _, bad rfl⟩
 | dic => rw [if_pos rfl]; exact ⟨one _, bad rfl⟩
theorem jG {f : Addr} {fd : FuncData} (F : aD K "made_dots" "made_dots" cM f fd) (C : COk K mg κ)  (h_made_dot : Has P w K mg base "made_dot" 4 ["row"] (et κ)) (z_isinstance : mg "isinstance" = none) (z_len : mg "len" = none) (z_list : mg "list" = none) : aE P w K mg base (CX1 P w) 5 f fd ["rows"] (aM K (cz κ)) := by
 refine aD.okX F jQ (fun ds Q E h => by obtain ⟨_, rfl, _⟩ := h; rfl) fun cdv A outer s H E Ed hr pm px hx => ⟨_, (aq (aV (aZ (aS (bo (by rfl) z_isinstance (by rfl) z_list boot_list (.inr (.inr (.inr (.inl rfl)))) (dv 0)))) (au (cF pm (by rfl) C.mg_NoDots C.exc_NoDots rfl (aa bQ ai))) aG) (aq (aV (bC tE (bL cO (by rfl) z_len boot_len (aa (dv 0) ai)) (eP C.gi_MOST_DOTS)) (au (cF pm (by rfl) C.mg_NoDots C.exc_NoDots rfl (aa bQ ai))) aG) (au (aB (oY hx (by rfl) (by exact fN (osc := ak cM) (xs := ["row"]) (ns := []) (by decide +kernel)) cU.nil (fT (dv 0)) (fun _ _ _ _ _ px => gK) (fun _ _ _ _ _ px => (oW px h_made_dot (hr.mono (by decide)) (aa (dv 0) ai)))))))), ?_⟩
 rintro ds Q ⟨d, rfl, h⟩
 have e0 : aK ["rows"] [d] = ([some (.val (d))] : Ro) := rfl
 rw [e0]; clear e0
 walk_at "rx"
 rw [l5]
 have one : ∀ s : Str, [D.str s].length <= sizeLine := fun s => sz1 _
 have bad : (∀ ds, d ≠ .lst false ds) -> Ed (.ref κ.NoDots) := fun e => by
  rcases h with ⟨ds, z, _⟩ | ⟨_, h⟩
  ·exact absurd z (e ds)
  ·exact h
 cases d with
 | lst t ds =>
  rw [if_neg (by simp)]
  refine ⟨ds, .inl ⟨t, rfl⟩, ?_⟩
  by_cases l : 30 < ds.length
  ·rw [if_pos (by omega)]
   refine ⟨one _, ?_⟩
   rcases h with ⟨ds', z, l2, _⟩ | ⟨_, h⟩
   ·cases z
    omega
   ·exact h
  ·rw [if_neg (by omega)]
   refine PD.mw ds id aO (fun d => .tup (dj (av d))) (fun R q => ?_) (by rw [sizeLine_eq]; omega) (fun p hp hn K hk => ?_) (fun p hp hn K => ?_) (fun hall => ?_)
   ·walk_at "rd"
    rw [List.map_id] at q
    exact q
   ·walk_at "rd"
    exact .inl ⟨by rw [id, fC]; exact hn, hk⟩
   ·walk_at "rd"
    refine .inr ⟨by rw [id, fC]; exact hn, ?_⟩
    rcases h with ⟨ds', z, _, ha, _⟩ | ⟨_, h⟩
    ·cases z
     rw [zAt] at ha
     rw [ha p hp] at hn
     cases hn
    ·exact h
   ·rcases h with ⟨ds', z, _, _, h⟩ | ⟨z, _⟩
    ·cases z
     exact h
    ·exfalso
     have z : (decide (30 < ds.length) || !(ds.all aO)) = true := z
     rw [hall, decide_eq_false l] at z
     cases z
 | tup ds => rw [if_pos rfl]; exact ⟨one _, bad fun _ z => by cases z⟩
 | non => rw [if_pos rfl]; exact ⟨one _, bad fun _ z => by cases z⟩
 | bl b => rw [if_pos rfl]; exact ⟨one _, bad fun _ z => by cases z⟩
 | int i => rw [if_pos rfl]; exact ⟨one _, bad fun _ z => by cases z⟩
 | str x => rw [if_pos rfl]; exact ⟨one _, bad fun _ z => by cases z⟩
 | exc c => rw [if_pos rfl]; exact ⟨one _, bad fun _ z => by cases z⟩
 | obj C ns ds => rw [if_pos rfl]; exact ⟨one _, bad fun _ z => by cases z⟩
 | dic => rw [if_pos rfl]; exact ⟨one _, bad fun _ z => by cases z⟩
theorem jF {f : Addr} {fd : FuncData} (F : aD K "_law_whole" "_law_whole" eg f fd) (C : COk K mg κ)   (z_bool : mg "bool" = none) (z_int : mg "int" = none) (z_isinstance : mg "isinstance" = none) : aE P w K mg base (CX1 P w) 1 f fd ["_law_found"] (aM K (dA κ)) := by
 refine aD.okN F jP (fun ds Q E h => by obtain ⟨_, rfl, _⟩ := h; rfl) fun cdv A outer s H E hr => ⟨_, (au (aB (eB (bo (by rfl) z_isinstance (by rfl) z_int boot_int (.inl rfl) (dv 0)) (fx (fv (bo (by rfl) z_isinstance (by rfl) z_bool boot_bool (.inr (.inl rfl)) (dv 0))))))), ?_⟩
 rintro ds Q Ed ⟨a, rfl, h⟩
 have e0 : aK ["_law_found"] [.int a] = ([some (.val (.int a))] : Ro) := rfl
 rw [e0]; clear e0
 walk_at "rd"
 exact h
theorem gZ {f : Addr} {fd : FuncData} (F : aD K "_law_cell_at" "_law_cell_at" cW f fd) (C : COk K mg κ)   (z_len : mg "len" = none) : aE P w K mg base (CX1 P w) 1 f fd ["_law_script", "_law_k"] (aM K (cI κ)) := by
 refine aD.okN F hJ (fun ds Q E h => by obtain ⟨_, _, rfl, _⟩ := h; rfl) fun cdv A outer s H E hr => ⟨_, (aq (aV (bC tF (dv 1) (bL cO (by rfl) z_len boot_len (aa (dv 0) ai))) (au (aB (bq (dv 0) (dv 1)))) aG) (au (aB ah))), ?_⟩
 rintro ds Q Ed ⟨ns, k, rfl, h⟩
 have e0 : aK ["_law_script", "_law_k"] [.lst false (ns.map D.int), .int k] = ([some (.val (.lst false (ns.map D.int))), some (.val (.int k))] : Ro) := rfl
 rw [e0]; clear e0
 obtain ⟨hk, hn, h⟩ := h
 walk_at "rd"
 by_cases hl : k < ((ns.map D.int).length : Int)
 ·rw [if_pos (by simpa using hl)]
  rw [zAF] at hl
  exact ⟨_, oA hk hl, h _⟩
 ·rw [if_neg (by simpa using hl)]
  exact h 0
theorem iM {f : Addr} {fd : FuncData} (F : aD K "_law_stream" "_law_stream" dq f fd) (C : COk K mg κ)   (z_range : mg "range" = none) : aE P w K mg base (CX1 P w) 1 f fd ["_law_cell", "_law_many"] (aM K (b6 κ)) := by
 refine aD.okN F bH (fun ds Q E h => by obtain ⟨_, _, rfl, _⟩ := h; rfl) fun cdv A outer s H E hr => ⟨_, (aq (rG 2 bH.nd ai) (aq (bf 3 bH.nd (ar aQ (ar aT (dv 0) ah) ah)) (aq (jg PassesOwn.never rfl (nj (by rfl) z_range (aa (dv 1) ai)) (bI 4 bH.nd) (aq (bf 3 bH.nd (ar aT (ar aQ (ar aQ (ar fE (dv 3) ah) (ar fE (dv 4) (dv 4))) ah) ah)) (au (ir 2 (ar cH (dv 3) ah))))) (gz 2 (au (aB (dv 2))))))), ?_⟩
 rintro ds Q Ed ⟨c, m, rfl, h⟩
 have e0 : aK ["_law_cell", "_law_many", "_law_found", "_law_number", "_law_k"] [.int c, .int m] = ([some (.val (.int c)), some (.val (.int m)), none, none, none] : Ro) := rfl
 rw [e0]; clear e0
 obtain ⟨h0, h1, h⟩ := h
 walk_at "rd"
 refine ⟨zAZ _, by decide, ⟨by omega, by omega⟩, fun j ρ => ∃ (xs : List Int) (n : Int) (v : Option Sl), ρ = [some (.val (.int c)), some (.val (.int m)), some (.own (xs.map D.int)), some (.val (.int n)), v] /\ xs.length = j /\ (∀ x ∈ xs, 0 <= x /\ x < 2147483647) /\ 0 <= n /\ n < 2147531918, ⟨[], _, none, rfl, rfl, by simp, ?_, ?_⟩, ?_, ?_⟩
 ·have := fm (a := c) (b := 2147483647) (by decide); omega
 ·have := fm (a := c) (b := 2147483647) (by decide); omega
 ·rintro j x ρ' hx ⟨xs, n, v, rfl, hlen, hb, n0, n1⟩
  obtain ⟨hj, rfl⟩ := nU hx
  have hm : j < 1000 := by
   have := qV (by decide) hj
   omega
  walk_at "rd"
  refine ⟨.inr (.inl (by unfold Bd; decide)), .inl (by unfold Bd; omega), by decide, CD.lit, by rw [zAF, sizeLine_eq]; omega, ?_⟩
  have hf := fm (a := n * 48271 + (0 + (j : Int) * 1) * (0 + (j : Int) * 1) + 11) (b := 2147483647) (by decide)
  generalize (n * 48271 + (0 + (j : Int) * 1) * (0 + (j : Int) * 1) + 11).fmod 2147483647 = y at hf ⊢
  refine ⟨xs ++ [y.fdiv 7], y, some (.val (.int (0 + (j : Int) * 1))), by simp, by simp [hlen], ?_, by omega, by omega⟩
  intro z hz
  rcases zAl.mp hz with q | q
  ·exact hb z q
  ·simp at q
   subst q
   have e := Int.fdiv_eq_ediv_of_nonneg y (show (0 : Int) <= 7 by decide)
   rw [e]
   omega
 ·rintro ρ' ⟨xs, n, v, rfl, hlen, hb, n0, n1⟩
  walk_at "rd"
  refine h xs ?_ hb
  rw [hlen, gm]
  unfold dn Builtin.Range.rangeSize
  rw [if_pos (by decide)]
  split <;> omega
theorem me {f : Addr} {fd : FuncData} (F : aD K "_law_far" "_law_far" fG f fd) (C : COk K mg κ)    : aE P w K mg base (CX1 P w) 1 f fd ["_law_number"] (aM K (fe κ)) := by
 refine aD.okN F mi (fun ds Q E h => by obtain ⟨_, rfl, _⟩ := h; rfl) fun cdv A outer s H E hr => ⟨_, (aq (aV (bC fD (ar aT (dv 0) ah) ah) (au (aB (ar cw (ar aT (ar cH (dv 0) ah) ah) ah))) aG) (aq (aV (bC fD (ar aT (dv 0) ah) ah) (au (aB (bq (aP (aa (ar cw (ar cu ah ah) ah) (aa (ar cw ah (ar cu ah ah)) ai))) (ar aT (ar cH (dv 0) ah) ah)))) aG) (au (aB (ar aQ (ar cw (ar aT (ar fE (dv 0) ah) (ar cw (ar fE ah (ar cu ah ah)) ah)) (ar cu ah ah)) ah))))), ?_⟩
 rintro ds Q Ed ⟨n, rfl, h⟩
 have e0 : aK ["_law_number"] [.int n] = ([some (.val (.int n))] : Ro) := rfl
 rw [e0]; clear e0
 walk_at "rd"
 rw [p12]
 have f19 := fm (a := n.fdiv 3) (b := 19) (by decide)
 have f2 := fm (a := n.fdiv 9) (b := 2) (by decide)
 have ff := fm (a := n * 982451653) (b := 2 * 1000000000000 - 1) (by decide)
 refine ⟨by decide, ?_⟩
 split
 ·exact ⟨CD.lit, by decide, h _ (by omega) (by omega)⟩
 refine ⟨by decide, ?_⟩
 split
 ·refine ⟨i8, i8, sz2 _ _, CD.lit, by decide, iZ f2.1 f2.2 fun d hd => ?_⟩
  simp only [zAU, zAo, or_false] at hd
  rcases hd with rfl | rfl
  ·exact h _ (by decide) (by decide)
  ·exact h _ (by decide) (by decide)
 ·exact ⟨.inr (.inl (by unfold Bd; decide)), i8, .inl (by unfold Bd; decide), by decide, i8, h _ (by omega) (by omega)⟩
theorem jE {f : Addr} {fd : FuncData} (F : aD K "_law_heavy" "_law_heavy" d9 f fd) (C : COk K mg κ)    : aE P w K mg base (CX1 P w) 1 f fd ["_law_number"] (aM K (dw κ)) := by
 refine aD.okN F jO (fun ds Q E h => by obtain ⟨_, rfl, _⟩ := h; rfl) fun cdv A outer s H E hr => ⟨_, (aq (aV (bC fD (ar aT (dv 0) ah) ah) (au (aB (ar aQ ah (ar aT (ar cH (dv 0) ah) ah)))) aG) (aq (aV (bC fD (ar aT (dv 0) ah) ah) (au (aB (ar cw (ar cu ah ah) ah))) aG) (au (aB (ar aQ ah (ar aT (ar fE (dv 0) ah) (ar cw (ar cu ah ah) ah))))))), ?_⟩
 rintro ds Q Ed ⟨n, rfl, h⟩
 have e0 : aK ["_law_number"] [.int n] = ([some (.val (.int n))] : Ro) := rfl
 rw [e0]; clear e0
 walk_at "rd"
 rw [p9]
 have f9 := fm (a := n.fdiv 3) (b := 9) (by decide)
 have ff := fm (a := n * 48271) (b := 1000000000 - 1) (by decide)
 refine ⟨by decide, ?_⟩
 split
 ·exact ⟨CD.lit, by decide, h _ (by omega) (by omega)⟩
 refine ⟨by decide, ?_⟩
 split
 ·exact ⟨cp9, h _ (by decide) (by decide)⟩
 ·exact ⟨.inr (.inl (by unfold Bd; decide)), cp9, by decide, h _ (by omega) (by omega)⟩
theorem mf {f : Addr} {fd : FuncData} (F : aD K "_law_row" "_law_row" fH f fd) (C : COk K mg κ)  (h_law_far : Has P w K mg base "_law_far" 1 ["_law_number"] (fe κ)) (h_law_heavy : Has P w K mg base "_law_heavy" 1 ["_law_number"] (dw κ)) (h_law_stream : Has P w K mg base "_law_stream" 1 ["_law_cell", "_law_many"] (b6 κ)) (z_tuple : mg "tuple" = none) : aE P w K mg base (CX1 P w) 2 f fd ["_law_cell"] (aM K (fg κ)) := by
 refine aD.okN F fb (fun ds Q E h => by obtain ⟨_, rfl, _⟩ := h; rfl) fun cdv A outer s H E hr => ⟨_, (aq (bf 1 fb.nd (az h_law_stream (hr.mono (by decide)) (aa (dv 0) (aa ah ai)))) (aq (bf 2 fb.nd (aP (aa (az h_law_far (hr.mono (by decide)) (aa (bq (dv 1) ah) ai)) (aa (az h_law_far (hr.mono (by decide)) (aa (bq (dv 1) ah) ai)) (aa (ar aT (bq (dv 1) ah) ah) (aa (az h_law_heavy (hr.mono (by decide)) (aa (bq (dv 1) ah) ai)) ai)))))) (aq (aV (bC fD (ar aT (bq (dv 1) ah) ah) ah) (au (aB (ik i5 (by rfl) z_tuple boot_tuple (aa (dv 2) ai)))) aG) (au (aB (dv 2)))))), ?_⟩
 rintro ds Q Ed ⟨c, rfl, h⟩
 have e0 : aK ["_law_cell", "_law_xs", "_law_row_here"] [.int c] = ([some (.val (.int c)), none, none] : Ro) := rfl
 rw [e0]; clear e0
 walk_at "rd"
 refine ⟨by decide, by decide, fun xs hl hb => ?_⟩
 obtain ⟨x, y, z, u, w, rfl⟩ := PD.l6 (show xs.length = 5 from hl)
 walk_at "rd"
 intro v1 a1 b1 v2 a2 b2
 have f3 := fm (a := z) (b := 3) (by decide)
 refine ⟨by decide, fun v4 a4 b4 => ⟨sz4 _ _ _ _, by decide, ?_⟩⟩
 have hg : dI (v1, v2, z.fmod 3, v4) := by
  show (((decide (-999999999999 <= v1) && decide (v1 <= 999999999999)) && (decide (-999999999999 <= v2) && decide (v2 <= 999999999999))) && ((decide (0 <= z.fmod 3) && decide (z.fmod 3 <= 2)) && (decide (1 <= v4) && decide (v4 <= 999999999)))) = true
  simp only [zAW, decide_eq_true_eq]
  omega
 split
 ·exact h (false, v1, v2, z.fmod 3, v4) hg
 ·exact h (true, v1, v2, z.fmod 3, v4) hg
theorem md {f : Addr} {fd : FuncData} (F : aD K "_law_bad" "_law_bad" fF f fd) (C : COk K mg κ)    : aE P w K mg base (CX1 P w) 1 f fd ["_law_number", "_law_row_here"] (aM K (fc κ)) := by
 refine aD.okN F aY (fun ds Q E h => by obtain ⟨_, _, rfl, _⟩ := h; rfl) fun cdv A outer s H E hr => ⟨_, (aq (rF (dv 1) (jr (n := 4) rfl (bM (bI 3 aY.nd) (bM (bI 4 aY.nd) (bM (bI 5 aY.nd) (bM (bI 6 aY.nd) gY)))))) (aq (bf 2 aY.nd (aP (aa (aP (aa (dv 3) (aa (dv 4) (aa (dv 5) ai)))) (aa (aP (aa (dv 3) (aa (dv 4) (aa (dv 5) (aa (dv 6) (aa ah ai)))))) (aa (aP ai) (aa dh (aa ah (aa bQ ai)))))))) (aq (bf 2 aY.nd (ar aQ (dv 2) (aP (aa (bR (aa (ar cu ah ah) (aa (dv 4) (aa (dv 5) (aa (dv 6) ai))))) (aa (bR (aa (dv 3) (aa (ar cw ah (ar cu ah ah)) (aa (dv 5) (aa (dv 6) ai))))) ai))))) (aq (bf 2 aY.nd (ar aQ (dv 2) (aP (aa (aP (aa (dv 3) (aa (dv 4) (aa ah (aa (dv 6) ai))))) (aa (bR (aa (dv 3) (aa (dv 4) (aa (jd ah) (aa (dv 6) ai))))) (aa (aP (aa (dv 3) (aa (dv 4) (aa (dv 5) (aa ah ai))))) (aa (bR (aa (dv 3) (aa (dv 4) (aa (dv 5) (aa (jd ah) ai))))) ai))))))) (aq (bf 2 aY.nd (ar aQ (dv 2) (aP (aa (aP (aa (dv 3) (aa (dv 4) (aa (dv 5) (aa (ar cu ah ah) ai))))) (aa (bR (aa bK (aa (dv 4) (aa (dv 5) (aa (dv 6) ai))))) (aa (aP (aa (dv 3) (aa dh (aa (dv 5) (aa (dv 6) ai))))) ai)))))) (aq (bf 2 aY.nd (ar aQ (dv 2) (aP (aa (bR (aa (dv 3) (aa (dv 4) (aa bK (aa (dv 6) ai))))) (aa (bR (aa (dv 3) (aa (dv 4) (aa (dv 5) (aa bK ai))))) (aa (aP (aa bQ (aa (dv 4) (aa (dv 5) (aa (dv 6) ai))))) ai)))))) (au (aB (bq (ar aQ (dv 2) (aP (aa (bR (aa (dv 3) (aa (dv 4) (aa bQ (aa (dv 6) ai))))) (aa (bR (aa (dv 3) (aa (dv 4) (aa dh (aa (dv 6) ai))))) (aa ky (aa (qu (fQ ah ah (fQ ah ah (fQ ah ah (fQ ah ah rE))))) ai)))))) (ar aT (dv 0) ah)))))))))), ?_⟩
 rintro ds Q Ed ⟨n, d, rfl, h⟩
 have e0 : aK ["_law_number", "_law_row_here", "_law_some", "_law_x", "_law_y", "_law_painted", "_law_weight"] [.int n, d] = ([some (.val (.int n)), some (.val (d)), none, none, none, none, none] : Ro) := rfl
 rw [e0]; clear e0
 obtain ⟨r, rfl, hg, h⟩ := h
 walk_at "rd"
 rw [sX]
 walk_at "rd"
 rw [p12, p9]
 have sz : ∀ (l : List D), l.length <= 100 -> l.length <= sizeLine := fun l hl => by rw [sizeLine_eq]; omega
 have sz2 : ∀ (l l' : List D), l.length + l'.length <= 100 -> l.length + l'.length <= sizeLine := fun l l' hl => by rw [sizeLine_eq]; omega
 have f22 := fm (a := n) (b := 22) (by decide)
 repeat' (first | apply And.intro | (refine Exists.intro ([(.inl 0, .int 1), (.inl 1, .int 1), (.inl 2, .int 1), (.inl 3, .int 1)] : List (Key × D)) ⟨rfl, by decide, by decide, ?_⟩))
 all_goals first
  | exact i8
  | exact cp9
  | exact sz _ (by simp)
  | exact sz2 _ _ (by simp)
  | decide
  | (refine iZ f22.1 (by simpa using f22.2) fun d hd => h d ?_)
  | skip
 simp only [zAn, zBC, zAU, zAo, or_false] at hd
 rcases hd with rfl | rfl | rfl | rfl | rfl | rfl | rfl | rfl | rfl | rfl | rfl | rfl | rfl | rfl | rfl | rfl | rfl | rfl | rfl | rfl | rfl | rfl
 all_goals first
  | rfl
  | simp [aO, c9, within]
theorem hG {f : Addr} {fd : FuncData} (F : aD K "_law_refused" "_law_refused" cX f fd) (C : COk K mg κ)  (h_made_dots : Has P w K mg base "made_dots" 5 ["rows"] (cz κ)) (z_ValueError : mg "ValueError" = none) (z_isinstance : mg "isinstance" = none) : aE P w K mg base (CX1 P w) 6 f fd ["_law_rows"] (aM K (cJ κ)) := by
 refine aD.okN F bO (fun ds Q E h => by obtain ⟨_, rfl, _⟩ := h; rfl) fun cdv A outer s H E hr => ⟨_, (aq (bf 1 bO.nd dh) (aq (qA 2 h_made_dots (hr.mono (by decide)) bO.nd C.mg_PlaneError (aa (dv 0) ai) (fun _ => (au (bf 1 bO.nd (dv 2))))) (aq (aV (c8 (bC r9 (dv 1) dh) (c8 (aZ (aS (cn (by rfl) z_isinstance (eG (v := .ref κ.NoDots) (by rfl) C.mg_NoDots rfl) (fun u h => h) (dv 1)))) (cP (aZ (aS (cn (by rfl) z_isinstance (fV (v := .ty "ValueError") (by rfl) z_ValueError (by rfl) rfl) (fun u h => h) (dv 1))))))).pt (au (aB bK)) aG) (au (aB (eB (fv (cn (by rfl) z_isinstance (eG (v := .ref κ.NoMap) (by rfl) C.mg_NoMap rfl) (fun u h => h) (dv 1))) (eB (fv (cn (by rfl) z_isinstance (eG (v := .ref κ.TooMany) (by rfl) C.mg_TooMany rfl) (fun u h => h) (dv 1))) (fx (fv (cn (by rfl) z_isinstance (eG (v := .ref κ.NoPlace) (by rfl) C.mg_NoPlace rfl) (fun u h => h) (dv 1))))))))))), ?_⟩
 rintro ds Q Ed ⟨d, rfl, h⟩
 have e0 : aK ["_law_rows", "_law_caught", "error"] [d] = ([some (.val (d)), none, none] : Ro) := rfl
 rw [e0]; clear e0
 obtain ⟨hb, h⟩ := h
 walk_at "rx"
 refine .inr ⟨by rw [dX]; exact hb, κ.NoDots, rfl, C.xk_NoDots, C.exm_NoDots_PlaneError, ?_⟩
 simp only [kex C.kit_NoDots_NoPlace, kex C.kit_NoDots_ValueError, kex C.kit_NoDots_NoMap, kex C.kit_NoDots_NoDots, kex C.kit_NoDots_TooMany]
 walk_at "rd"
 exact h
theorem j6 {f : Addr} {fd : FuncData} (F : aD K "_law_good" "_law_good" eY f fd) (C : COk K mg κ)  (h_law_whole : Has P w K mg base "_law_whole" 1 ["_law_found"] (dA κ)) (z_isinstance : mg "isinstance" = none) (z_len : mg "len" = none) (z_list : mg "list" = none) (z_tuple : mg "tuple" = none) (z_zip : mg "zip" = none) : aE P w K mg base (CX1 P w) 2 f fd ["_law_found", "_law_rows"] (aM K (cN κ)) := by
 refine aD.okN F bT (fun ds Q E h => by obtain ⟨_, _, rfl, _⟩ := h; rfl) fun cdv A outer s H E hr => ⟨_, (aq (aV (c8 (aZ (aS (bo (by rfl) z_isinstance (by rfl) z_list boot_list (.inr (.inr (.inr (.inl rfl)))) (dv 0)))) (cP (bC jA (bL cO (by rfl) z_len boot_len (aa (dv 0) ai)) (bL cO (by rfl) z_len boot_len (aa (dv 1) ai))))).pt (au (aB bK)) aG) (aq (jg PassesOwn.never rfl (nk (by rfl) z_zip (aa (dv 0) (aa (dv 1) ai))) (jr (n := 2) rfl (bM (bI 2 bT.nd) (bM (bI 3 bT.nd) gY))) (aq (aV (c8 (aZ (aS (bo (by rfl) z_isinstance (by rfl) z_tuple boot_tuple (.inr (.inr (.inl rfl))) (dv 2)))) (cP (bC jA (bL cO (by rfl) z_len boot_len (aa (dv 2) ai)) ah))).pt (au (aB bK)) aG) (au (jg PassesOwn.never rfl (nk (by rfl) z_zip (aa (dv 2) (aa (dv 3) ai))) (jr (n := 2) rfl (bM (bI 4 bT.nd) (bM (bI 5 bT.nd) gY))) (au (aV (c8 (aZ (aS (az h_law_whole (hr.mono (by decide)) (aa (dv 4) ai)))) (cP (bC (qj (by exact hr.units)) (dv 4) (dv 5)))).pt (au (aB bK)) aG)))))) (au (aB bK)))), ?_⟩
 rintro ds Q Ed ⟨ps, rows, rfl, h⟩
 have e0 : aK ["_law_found", "_law_rows", "_law_dot", "_law_row_here", "_law_here", "_law_there"] [.lst false (ps.map dtD), rows] = ([some (.val (.lst false (ps.map dtD))), some (.val (rows)), none, none, none, none] : Ro) := rfl
 rw [e0]; clear e0
 obtain ⟨rs, rfl, rfl, hl, h⟩ := h
 walk_at "rx"
 rw [if_pos (by simp)]
 refine PD.jq rs (fun r => .tup [dtD r.2, rwD false r]) (fun _ ρ => ∃ v2 v3 v4 v5 : Option Sl, ρ = [some (.val (.lst false ((rs.map (·.2)).map dtD))), some (.val (.lst false (rs.map (rwD false)))), v2, v3, v4, v5]) (fun R q => ?_) ⟨none, none, none, none, rfl⟩ ?_ ?_
 ·walk_at "rd"
  rw [oi]
  exact q
 ·rintro k r ρ2 hk ⟨v2, v3, v4, v5, rfl⟩
  have e1 : dtD r.2 = .tup (ba r.2) := rfl
  rw [e1]
  walk_at "rx"
  rw [if_pos (by rfl)]
  refine PD.jq [r.2.1, r.2.2.1, r.2.2.2.1, r.2.2.2.2] (fun i => .tup [.int i, .int i]) (fun _ ρ => ∃ v4 v5 : Option Sl, ρ = [some (.val (.lst false ((rs.map (·.2)).map dtD))), some (.val (.lst false (rs.map (rwD false)))), some (.val (.tup (ba r.2))), some (.val (rwD false r)), v4, v5]) (fun R q => ?_) ⟨v4, v5, rfl⟩ ?_ ?_
  ·walk_at "rd"
   refine ⟨_, _, _, _, _, _, rfl, rfl, sI r, q⟩
  ·rintro j i ρ3 hj ⟨v4, v5, rfl⟩
   walk_at "rd"
   exact ⟨_, _, rfl⟩
  ·rintro ρ3 ⟨v4, v5, rfl⟩
   exact ⟨_, _, _, _, rfl⟩
 ·rintro ρ2 ⟨v2, v3, v4, v5, rfl⟩
  walk_at "rx"
  exact h
theorem j5 {f : Addr} {fd : FuncData} (F : aD K "_law_copy" "_law_copy" eX f fd) (C : COk K mg κ)   (z_isinstance : mg "isinstance" = none) (z_list : mg "list" = none) : aE P w K mg base (CX1 P w) 1 f fd ["_law_row_here"] (aM K (el κ)) := by
 refine aD.okN F j9 (fun ds Q E h => by obtain ⟨_, rfl, _⟩ := h; rfl) fun cdv A outer s H E hr => ⟨_, (aq (aV (aS (bo (by rfl) z_isinstance (by rfl) z_list boot_list (.inr (.inr (.inr (.inl rfl)))) (dv 0))) (au (aB ((qx (by rfl) z_list (dv 0))).ped)) aG) (au (aB (dv 0)))), ?_⟩
 rintro ds Q Ed ⟨d, rfl, h⟩
 have e0 : aK ["_law_row_here"] [d] = ([some (.val (d))] : Ro) := rfl
 rw [e0]; clear e0
 walk_at "rd"
 rw [l5]
 rcases h with ⟨t, ys, rfl, h⟩ | ⟨ys, rfl, h⟩
 ·rw [if_pos rfl]
  exact ⟨_, _, rfl, h⟩
 ·rw [if_neg (by simp)]
  exact h
theorem sh {f : Addr} {fd : FuncData} (F : aD K "law" "law" bY f fd) (C : COk K mg κ)  (h_law_bad : Has P w K mg base "_law_bad" 1 ["_law_number", "_law_row_here"] (fc κ)) (h_law_cell_at : Has P w K mg base "_law_cell_at" 1 ["_law_script", "_law_k"] (cI κ)) (h_law_copy : Has P w K mg base "_law_copy" 1 ["_law_row_here"] (el κ)) (h_law_good : Has P w K mg base "_law_good" 2 ["_law_found", "_law_rows"] (cN κ)) (h_law_refused : Has P w K mg base "_law_refused" 6 ["_law_rows"] (cJ κ)) (h_law_row : Has P w K mg base "_law_row" 2 ["_law_cell"] (fg κ)) (h_law_stream : Has P w K mg base "_law_stream" 1 ["_law_cell", "_law_many"] (b6 κ)) (h_made_dots : Has P w K mg base "made_dots" 5 ["rows"] (cz κ)) (z_isinstance : mg "isinstance" = none) (z_len : mg "len" = none) (z_list : mg "list" = none) (z_tuple : mg "tuple" = none) : aE P w K mg base (CX1 P w) 7 f fd ["_law_script"] (aM K gJ) := by
 refine aD.okN F bS (fun ds Q E h => by obtain ⟨ns, rfl, _⟩ := h; rfl) fun cdv A outer s H E hr => ⟨_, (aq (bf 1 bS.nd (az h_law_cell_at (hr.mono (by decide)) (aa (dv 0) (aa ah ai)))) (aq (bf 2 bS.nd (ar aQ ((eR (dv 0) (eE ah) (eE ah))).ped (az h_law_stream (hr.mono (by decide)) (aa (dv 1) (aa (ar aT (dv 1) ah) ai))))) (aq (gy 3 bS.nd (by rfl) (by exact fN (osc := ak bY) (xs := ["_law_cell"]) (ns := []) (by decide +kernel)) cU.nil (fT ((eR (dv 2) fP (eE ah))).ped) (fun _ _ _ _ _ => gK) (fun _ _ _ _ _ => (az h_law_row (hr.mono (by decide)) (aa (dv 0) ai)))) (aq (lZ 4 bS.nd (by rfl) (by exact fN (osc := ak bY) (xs := ["_law_row_here"]) (ns := []) (by decide +kernel)) cU.nil (fT (dv 3)) (fun _ _ _ _ _ => (qD h_law_copy (hr.mono (by decide)) (aa (dv 0) ai)))) (aq (qz 5 bS.nd (oZ 4 (qw h_made_dots (hr.mono (by decide)) (aa (dv 4) ai)))) (aq (aV (jh 4 (kB 5 (c8 (aZ (aS (az h_law_good (hr.mono (by decide)) (aa (dv 5) (aa (dv 3) ai))))) (cP (bC (qj (by exact hr.units)) (dv 4) (dv 3)))).pt)) (au (aB bK)) aG) (aq (mS 4 6 (by decide) PassesOwn.never rfl bS.nd (aS (bo (by rfl) z_isinstance (by rfl) z_list boot_list (.inr (.inr (.inr (.inl rfl)))) (dv 6))) (ar aT (dv 1) ah) ah) (aq (lY 4 dh) (aq (aV (jh 4 (kB 5 (c8 (aZ (aS (az h_law_good (hr.mono (by decide)) (aa (dv 5) (aa (dv 3) ai))))) (cP (aZ (aS (az h_law_refused (hr.mono (by decide)) (aa (dv 4) ai)))))).pt)) (au (aB bK)) aG) (aq (bf 7 bS.nd (az h_law_bad (hr.mono (by decide)) (aa (ar cH (dv 1) ah) (aa (az h_law_row (hr.mono (by decide)) (aa (dv 1) ai)) ai)))) (aq (bf 8 bS.nd (ar aT (ar cH (dv 1) ah) (ar aQ (bL cO (by rfl) z_len boot_len (aa (dv 3) ai)) ah))) (aq (aV (aZ (aS (az h_law_refused (hr.mono (by decide)) (aa (ar aQ (ar aQ ((eR (dv 3) fP (eE (dv 8)))).ped (aP (aa (dv 7) ai))) ((eR (dv 3) (eE (dv 8)) fP)).ped) ai)))) (au (aB bK)) aG) (aq (aV (aZ (aS (az h_law_refused (hr.mono (by decide)) (aa (bq (aP (aa (ik i5 (by rfl) z_tuple boot_tuple (aa (dv 3) ai)) (aa dh (aa ah (aa bQ (aa ky (aa bK ai))))))) (ar aT (ar cH (dv 1) ah) ah)) ai)))) (au (aB bK)) aG) (aq (gy 9 bS.nd (by rfl) (by exact fN (osc := ak bY) (xs := ["_law_number"]) (ns := []) (by decide +kernel)) cU.nil (fT (az h_law_stream (hr.mono (by decide)) (aa (dv 1) (aa (ar aQ (ar cw ah (bL cO (by rfl) z_len boot_len (aa (dv 3) ai))) (ar aT (dv 1) ah)) ai)))) (fun _ _ _ _ _ => gK) (fun _ _ _ _ _ => (az h_law_row (hr.mono (by decide)) (aa (dv 0) ai)))) (aq (aV (aZ (aS (az h_law_refused (hr.mono (by decide)) (aa (ar aQ (dv 3) (dv 9)) ai)))) (au (aB bK)) aG) (aq (ir 5 ah) (gz 5 (au (aB (eB (az h_law_good (hr.mono (by decide)) (aa (az h_made_dots (hr.mono (by decide)) (aa (dv 3) ai)) (aa (dv 3) ai))) (fx (az h_law_good (hr.mono (by decide)) (aa (az h_made_dots (hr.mono (by decide)) (aa (aP ai) ai)) (aa (aP ai) ai)))))))))))))))))))))))), ?_⟩
 rintro ds Q Ed ⟨ns, rfl, hl, h⟩
 have e0 : aK ["_law_script", "_law_first", "_law_cells", "_law_rows", "_law_handed", "_law_found", "_law_row_here", "_law_bad_here", "_law_at", "_law_many"] [.lst false (ns.map D.int)] = ([some (.val (.lst false (ns.map D.int))), none, none, none, none, none, none, none, none, none] : Ro) := rfl
 rw [e0]; clear e0
 refine aL (fun ρ => ∃ v : Int, ρ = [some (.val (.lst false (ns.map D.int))), some (.val (.int v)), none, none, none, none, none, none, none, none]) ?_ fun K hK => ?_
 ·rintro ρ' ⟨v, rfl⟩
  refine aL (fun ρ => ∃ cs : List Int, cs.length <= 900 /\ ρ = [some (.val (.lst false (ns.map D.int))), some (.val (.int v)), some (.val (.lst true (cs.map D.int))), none, none, none, none, none, none, none]) ?_ fun K hK => ?_
  ·rintro ρ' ⟨cs, cl, rfl⟩
   refine aL (fun ρ => ∃ rs : List Rw, rs.length <= 29 /\ (∀ r ∈ rs, dI r.2) /\ ρ = [some (.val (.lst false (ns.map D.int))), some (.val (.int v)), some (.val (.lst true (cs.map D.int))), some (.val (.lst true (rs.map (rwD true)))), none, none, none, none, none, none]) ?_ fun K hK => ?_
   ·rintro ρ' ⟨rs, rl, hg, rfl⟩
    refine aL (fun ρ => ρ = [some (.val (.lst false (ns.map D.int))), some (.val (.int v)), some (.val (.lst true (cs.map D.int))), some (.val (.lst true (rs.map (rwD true)))), some (.ob (.ll (rs.map liR))), none, none, none, none, none]) ?_ fun K hK => ?_
    ·rintro ρ' rfl
     refine aL (fun ρ => ρ = [some (.val (.lst false (ns.map D.int))), some (.val (.int v)), some (.val (.lst true (cs.map D.int))), some (.val (.lst true (rs.map (rwD true)))), some (.ob (.ll (rs.map liR))), some (.own ((rs.map (·.2)).map dtD)), none, none, none, none]) ?_ fun K hK => ?_
     ·rintro ρ' rfl
      refine aL (fun ρ => ρ = [some (.val (.lst false (ns.map D.int))), some (.val (.int v)), some (.val (.lst true (cs.map D.int))), some (.val (.lst true (rs.map (rwD true)))), some (.ob (.ll (rs.map liR))), some (.own ((rs.map (·.2)).map dtD)), none, none, none, none]) ?_ fun K hK => ?_
      ·rintro ρ' rfl
       have f4 := fm (a := v) (b := 4) (by decide)
       refine aL (fun ρ => ρ = [some (.val (.lst false (ns.map D.int))), some (.val (.int v)), some (.val (.lst true (cs.map D.int))), some (.val (.lst true (rs.map (rwD true)))), some (.ob (.ll ((rs.map liR).map (bE (v.fmod 4).toNat 7)))), some (.own ((rs.map (·.2)).map dtD)), none, none, none, none]) ?_ fun K hK => ?_
       ·rintro ρ' rfl
        refine aL (fun ρ => ρ = [some (.val (.lst false (ns.map D.int))), some (.val (.int v)), some (.val (.lst true (cs.map D.int))), some (.val (.lst true (rs.map (rwD true)))), some (.ob (.ll ((rs.map liR).map (bE (v.fmod 4).toNat 7) ++ [.val .non]))), some (.own ((rs.map (·.2)).map dtD)), none, none, none, none]) ?_ fun K hK => ?_
        ·rintro ρ' rfl
         refine aL (fun ρ => ρ = [some (.val (.lst false (ns.map D.int))), some (.val (.int v)), some (.val (.lst true (cs.map D.int))), some (.val (.lst true (rs.map (rwD true)))), some (.ob (.ll ((rs.map liR).map (bE (v.fmod 4).toNat 7) ++ [.val .non]))), some (.own ((rs.map (·.2)).map dtD)), none, none, none, none]) ?_ fun K hK => ?_
         ·rintro ρ' rfl
          refine aL (fun ρ => ∃ b : D, aO b = false /\ ρ = [some (.val (.lst false (ns.map D.int))), some (.val (.int v)), some (.val (.lst true (cs.map D.int))), some (.val (.lst true (rs.map (rwD true)))), some (.ob (.ll ((rs.map liR).map (bE (v.fmod 4).toNat 7) ++ [.val .non]))), some (.own ((rs.map (·.2)).map dtD)), none, some (.val b), none, none]) ?_ fun K hK => ?_
          ·rintro ρ' ⟨b, hb, rfl⟩
           refine aL (fun ρ => ∃ k : Int, 0 <= k /\ ρ = [some (.val (.lst false (ns.map D.int))), some (.val (.int v)), some (.val (.lst true (cs.map D.int))), some (.val (.lst true (rs.map (rwD true)))), some (.ob (.ll ((rs.map liR).map (bE (v.fmod 4).toNat 7) ++ [.val .non]))), some (.own ((rs.map (·.2)).map dtD)), none, some (.val b), some (.val (.int k)), none]) ?_ fun K hK => ?_
           ·rintro ρ' ⟨k, hk, rfl⟩
            refine aL (fun ρ => ρ = [some (.val (.lst false (ns.map D.int))), some (.val (.int v)), some (.val (.lst true (cs.map D.int))), some (.val (.lst true (rs.map (rwD true)))), some (.ob (.ll ((rs.map liR).map (bE (v.fmod 4).toNat 7) ++ [.val .non]))), some (.own ((rs.map (·.2)).map dtD)), none, some (.val b), some (.val (.int k)), none]) ?_ fun K hK => ?_
            ·rintro ρ' rfl
             refine aL (fun ρ => ρ = [some (.val (.lst false (ns.map D.int))), some (.val (.int v)), some (.val (.lst true (cs.map D.int))), some (.val (.lst true (rs.map (rwD true)))), some (.ob (.ll ((rs.map liR).map (bE (v.fmod 4).toNat 7) ++ [.val .non]))), some (.own ((rs.map (·.2)).map dtD)), none, some (.val b), some (.val (.int k)), none]) ?_ fun K hK => ?_
             ·rintro ρ' rfl
              refine aL (fun ρ => ∃ ms : List Rw, 30 < rs.length + ms.length /\ ms.length <= 40 /\ ρ = [some (.val (.lst false (ns.map D.int))), some (.val (.int v)), some (.val (.lst true (cs.map D.int))), some (.val (.lst true (rs.map (rwD true)))), some (.ob (.ll ((rs.map liR).map (bE (v.fmod 4).toNat 7) ++ [.val .non]))), some (.own ((rs.map (·.2)).map dtD)), none, some (.val b), some (.val (.int k)), some (.val (.lst true (ms.map (rwD true))))]) ?_ fun K hK => ?_
              ·rintro ρ' ⟨ms, ml, mu, rfl⟩
               refine aL (fun ρ => ρ = [some (.val (.lst false (ns.map D.int))), some (.val (.int v)), some (.val (.lst true (cs.map D.int))), some (.val (.lst true (rs.map (rwD true)))), some (.ob (.ll ((rs.map liR).map (bE (v.fmod 4).toNat 7) ++ [.val .non]))), some (.own ((rs.map (·.2)).map dtD)), none, some (.val b), some (.val (.int k)), some (.val (.lst true (ms.map (rwD true))))]) ?_ fun K hK => ?_
               ·rintro ρ' rfl
                refine aL (fun ρ => ρ = [some (.val (.lst false (ns.map D.int))), some (.val (.int v)), some (.val (.lst true (cs.map D.int))), some (.val (.lst true (rs.map (rwD true)))), some (.ob (.ll ((rs.map liR).map (bE (v.fmod 4).toNat 7) ++ [.val .non]))), some (.own ((rs.map (·.2)).map dtD ++ [.int 0])), none, some (.val b), some (.val (.int k)), some (.val (.lst true (ms.map (rwD true))))]) ?_ fun K hK => ?_
                ·rintro ρ' rfl
                 walk_at "rx"
                 rw [cS]
                 refine ⟨_, rfl, by rw [zAF]; omega, mr hg, ?_⟩
                 rw [iF, gL, bP]
                 refine ⟨rs, rfl, rfl, by rw [zAF]; omega, true, rfl, ?_⟩
                 rw [if_pos rfl]
                 refine ⟨zAZ _, [], rfl, by decide, rfl, zAZ _, ?_⟩
                 rw [zAw, bb]
                 show cN κ [.lst false ((([] : List Rw).map (·.2)).map dtD), .lst false []] Q _
                 rw [bP]
                 exact ⟨[], rfl, rfl, by simp, h⟩
                ·walk_at "rx"
                 exact ⟨by rw [zAF, zAF, sizeLine_eq]; omega, hK _ rfl⟩
               ·walk_at "rx"
                exact ⟨by rw [zAF, zAF, sizeLine_eq]; omega, oB (by rw [zAQ, zAF, zAF]; exact ml), hK _ rfl⟩
              ·walk_at "rd"
               have f3 := fm (a := v) (b := 3) (by decide)
               rw [zAF]
               refine ⟨by decide, by omega, by omega, fun xs xl xb => ?_⟩
               have xl' : xs.length = (31 - (rs.length : Int) + v.fmod 3).toNat := xl
               refine ⟨by rw [zAF, sizeLine_eq]; omega, fun j out => ∃ ms : List Rw, out = ms.map (rwD true) /\ ms.length = j, ⟨[], rfl, rfl⟩, ?_, ?_⟩
               ·rintro j d out hd ⟨ms, rfl, hq⟩
                obtain ⟨n, rfl, _, hj⟩ := getInt hd
                rw [bx, bZ]
                exact fun r hr => ⟨ms ++ [r], by rw [zA2]; rfl, by simp [hq]⟩
               ·rintro out ⟨ms, rfl, hq⟩
                rw [zAF] at hq
                exact hK _ ⟨ms, by omega, by omega, rfl⟩
             ·walk_at "rx"
              have f6 := fm (a := v.fdiv 21) (b := 6) (by decide)
              refine ⟨by rw [sizeLine_eq]; simp, CD.lit, by decide, iZ f6.1 (by simpa using f6.2) fun d hd => ⟨?_, hK _ rfl⟩⟩
              simp only [zAU, zAo, or_false] at hd
              rw [dX]
              rcases hd with rfl | rfl | rfl | rfl | rfl | rfl <;> rfl
            ·walk_at "rx"
             have l1 := gN (rs.map (rwD true)) none (some k)
             have l2 := gN (rs.map (rwD true)) (some k) none
             rw [zAF] at l1 l2
             refine ⟨sz1 _, ?_, ?_, kl (b := b) (by simp) hb, hK _ rfl⟩
             ·rw [sizeLine_eq]; simp; omega
             ·rw [sizeLine_eq]; simp; omega
           ·walk_at "rx"
            refine ⟨CD.lit, by omega, hK _ ⟨_, (fm (by omega)).1, rfl⟩⟩
          ·walk_at "rx"
           exact ⟨CD.lit, fun r hr => ⟨r, fh _ _, hr, fun b hb => hK _ ⟨b, hb, rfl⟩⟩⟩
         ·walk_at "rx"
          exact ⟨rs, by rw [cS], rfl, by rw [zAF]; omega, kl (b := .non) (by simp [bw]) rfl, hK _ rfl⟩
        ·walk_at "rx"
         exact ⟨by rw [zAF, zAF, sizeLine_eq]; omega, hK _ rfl⟩
       ·refine ⟨rs.map liR, v.fmod 4, 7, rfl, by show 6 < 10; decide, fun ys x hx => ?_, fun ys => ?_, fun ys => ?_, f4.1, fun ds hd => ?_, ?_⟩
        ·walk_at "rx"
         obtain ⟨r, _, rfl⟩ := List.mem_map.mp hx
         rw [l5]
         obtain ⟨b, p⟩ := r
         cases b <;> rfl
        ·walk_at "rx"
        ·walk_at "rx"
         exact ⟨by decide, trivial⟩
        ·obtain ⟨r, _, e⟩ := List.mem_map.mp hd
         unfold liR at e
         split at e
         ·cases e
          show v.fmod 4 < 4
          exact f4.2
         ·cases e
        ·exact hK _ rfl
      ·walk_at "rx"
       rw [jS]
       refine ⟨rs, by rw [cS], rfl, by rw [zAF]; omega, (OkN.map (nN false)).ok, (OkN.map (nN true)).ok, ?_⟩
       rw [if_neg (by rw [gX, p5]; simp)]
       exact hK _ rfl
     ·walk_at "rx"
      rw [jS, cS]
      refine ⟨_, rfl, by rw [zAF]; omega, mr hg, ?_⟩
      rw [iF]
      exact ⟨kT _, ki _, hK _ rfl⟩
    ·walk_at "rx"
     refine ⟨by rw [zAF, sizeLine_eq]; omega, fun j out => out = (rs.take j).map liR, rfl, ?_, ?_⟩
     ·rintro j d out hd rfl
      rw [zAN] at hd
      obtain ⟨r, hr, rfl⟩ := Option.map_eq_some_iff.mp hd
      dsimp only
      rw [List.take_succ, hr, Option.toList_some, zA2, List.map_singleton, fh]
      obtain ⟨b, p⟩ := r
      cases b
      ·exact .inr ⟨ba p, rfl, .inr ⟨rfl, rfl⟩⟩
      ·exact .inl ⟨false, ba p, rfl, .inl ⟨rfl, rfl⟩⟩
     ·rintro out rfl
      rw [zAF, List.take_length]
      exact hK _ rfl
   ·walk_at "rd"
    refine ⟨zAa (pM _) (by rw [sizeLine_eq]; omega), fun j out => ∃ rs : List Rw, out = rs.map (rwD true) /\ rs.length = j /\ ∀ r ∈ rs, dI r.2, ⟨[], rfl, rfl, by simp⟩, ?_, ?_⟩
    ·rintro j d out hd ⟨rs, rfl, hq, hg⟩
     rw [gO] at hd
     obtain ⟨n, rfl, _, hj⟩ := getInt hd
     rw [bx, bZ]
     refine fun r hr => ⟨rs ++ [r], by rw [zA2]; rfl, by simp [hq], fun z hz => ?_⟩
     rcases zAl.mp hz with q | q
     ·exact hg z q
     ·simp at q; subst q; exact hr
    ·rintro out ⟨rs, rfl, hq, hg⟩
     exact hK _ ⟨rs, by rw [hq]; exact pM _, hg, rfl⟩
  ·walk_at "rx"
   have f7 := fm (a := v) (b := 7) (by decide)
   refine ⟨by decide, f7.1, by omega, fun xs xl xb => ?_⟩
   have l1 := gN (ns.map D.int) (some 1) (some 30)
   rw [zAF] at l1
   refine ⟨by rw [zAF, sizeLine_eq]; omega, ?_⟩
   rw [gO, zAF] at l1
   rw [gO, <- zA2]
   exact hK _ ⟨_, by rw [zAQ]; omega, rfl⟩
 ·walk_at "rx"
  exact ⟨by decide, hl, fun v => hK _ ⟨v, rfl⟩⟩
end
theorem all_mk {l : PySem.W.OpenLaw} {w : World} {K : PySem.W.Frag} {h : Heap} {mg : Str -> Option Value} {fa f15 c_PlaneError c_NoPlace c_NoDots c_NoMap c_TooMany : Addr} (X : K.In h) (G : h.Ns mainGlobals mg) (hfa : mg "law" = some (.ref fa))
  {tk_MOST_DOTS tk_MOST_COORDINATE tk_MOST_WEIGHT : Tok}
  {od15 an15 : Option Addr} {sl15 : Array (Option Value)} {oc15 kV15 dc15 pm15 cd15 ct15 : Value}
  (e0 : FL K "is_whole" eW)
  (e1 : FL K "is_within" d4)
  (e2 : FL K "is_coordinate" cx)
  (e3 : FL K "made_dot" eZ)
  (e4 : FL K "made_dots" cM)
  (e5 : FL K "_law_whole" eg)
  (e6 : FL K "_law_cell_at" cW)
  (e7 : FL K "_law_stream" dq)
  (e8 : FL K "_law_far" fG)
  (e9 : FL K "_law_heavy" d9)
  (e10 : FL K "_law_row" fH)
  (e11 : FL K "_law_bad" fF)
  (e12 : FL K "_law_refused" cX)
  (e13 : FL K "_law_good" eY)
  (e14 : FL K "_law_copy" eX)
  (a15 : PySem.W.nsIn K mainGlobals "law" = some (some (.ref f15))) (l15 : K.lookup f15 = some ⟨oc15, od15, .func (PySem.W.fnOf "law" "law" (aU bY) (aJ bY) (ak bY) .none kV15 dc15 pm15 an15 cd15 ct15), sl15⟩) (c15 : PySem.W.codeIn K cd15 "law" = true) (k15 : PySem.W.keepIn K (.ref f15) = true)
  (mg_PlaneError : PySem.W.nsIn K mainGlobals "PlaneError" = some (some (.ref c_PlaneError)))
  (mg_NoPlace : PySem.W.nsIn K mainGlobals "NoPlace" = some (some (.ref c_NoPlace)))
  (mg_NoDots : PySem.W.nsIn K mainGlobals "NoDots" = some (some (.ref c_NoDots)))
  (mg_NoMap : PySem.W.nsIn K mainGlobals "NoMap" = some (some (.ref c_NoMap)))
  (mg_TooMany : PySem.W.nsIn K mainGlobals "TooMany" = some (some (.ref c_TooMany)))
  (gi_MOST_DOTS : PySem.W.nsIn K mainGlobals "MOST_DOTS" = some (some (.int (30) tk_MOST_DOTS)))
  (gi_MOST_COORDINATE : PySem.W.nsIn K mainGlobals "MOST_COORDINATE" = some (some (.int (999999999999) tk_MOST_COORDINATE)))
  (gi_MOST_WEIGHT : PySem.W.nsIn K mainGlobals "MOST_WEIGHT" = some (some (.int (999999999) tk_MOST_WEIGHT)))
  (exc_NoDots : PySem.W.excIn K c_NoDots mj "ValueError.__new__" = true)
  (xk_NoDots : PX.o3 K c_NoDots = true)
  (kit_NoDots_PlaneError : PySem.W.kitOne K (.ref c_NoDots) (.ref c_PlaneError) = some true)
  (kit_NoDots_NoPlace : PySem.W.kitOne K (.ref c_NoDots) (.ref c_NoPlace) = some false)
  (kit_NoDots_NoDots : PySem.W.kitOne K (.ref c_NoDots) (.ref c_NoDots) = some true)
  (kit_NoDots_NoMap : PySem.W.kitOne K (.ref c_NoDots) (.ref c_NoMap) = some false)
  (kit_NoDots_TooMany : PySem.W.kitOne K (.ref c_NoDots) (.ref c_TooMany) = some false)
  (kit_NoDots_ValueError : PySem.W.kitOne K (.ref c_NoDots) (.type "ValueError") = some true)
  (exm_NoDots_PlaneError : PySem.W.exmOne K (.ref c_NoDots) (.ref c_PlaneError) = some true)
  (exm_NoDots_NoDots : PySem.W.exmOne K (.ref c_NoDots) (.ref c_NoDots) = some true)
  (z_ValueError : PySem.W.nsIn K mainGlobals "ValueError" = some none) (z_bool : PySem.W.nsIn K mainGlobals "bool" = some none) (z_int : PySem.W.nsIn K mainGlobals "int" = some none) (z_isinstance : PySem.W.nsIn K mainGlobals "isinstance" = some none) (z_len : PySem.W.nsIn K mainGlobals "len" = some none) (z_list : PySem.W.nsIn K mainGlobals "list" = some none) (z_range : PySem.W.nsIn K mainGlobals "range" = some none) (z_tuple : PySem.W.nsIn K mainGlobals "tuple" = some none) (z_zip : PySem.W.nsIn K mainGlobals "zip" = some none) :
  ∃ fd : FuncData, (∀ (s : Shared) (v : Value), BindsTo s fd ⟨[v], []⟩ [("_law_script", v)]) /\ ∀ base : Heap, K.In base -> base.Ns mainGlobals mg -> aE l.prog w K mg base (CX1 l.prog w) 7 fa fd ["_law_script"] (aM K gJ) := by
 have e := hfa.symm.trans (PySem.W.mg_of X G a15)
 cases e
 have z_ValueError := PySem.W.mg_none_of X G z_ValueError
 have z_bool := PySem.W.mg_none_of X G z_bool
 have z_int := PySem.W.mg_none_of X G z_int
 have z_isinstance := PySem.W.mg_none_of X G z_isinstance
 have z_len := PySem.W.mg_none_of X G z_len
 have z_list := PySem.W.mg_none_of X G z_list
 have z_range := PySem.W.mg_none_of X G z_range
 have z_tuple := PySem.W.mg_none_of X G z_tuple
 have z_zip := PySem.W.mg_none_of X G z_zip
 have C : COk K mg ⟨c_PlaneError, c_NoPlace, c_NoDots, c_NoMap, c_TooMany⟩ := ⟨PySem.W.mg_of X G mg_PlaneError, PySem.W.mg_of X G mg_NoPlace, PySem.W.mg_of X G mg_NoDots, PySem.W.mg_of X G mg_NoMap, PySem.W.mg_of X G mg_TooMany, ⟨_, PySem.W.mg_of X G gi_MOST_DOTS⟩, ⟨_, PySem.W.mg_of X G gi_MOST_COORDINATE⟩, ⟨_, PySem.W.mg_of X G gi_MOST_WEIGHT⟩, exc_NoDots, PX.b9.of xk_NoDots, kit_NoDots_PlaneError, kit_NoDots_NoPlace, kit_NoDots_NoDots, kit_NoDots_NoMap, kit_NoDots_TooMany, kit_NoDots_ValueError, exm_NoDots_PlaneError, exm_NoDots_NoDots⟩
 refine ⟨PySem.W.fnOf "law" "law" (aU bY) (aJ bY) (ak bY) .none kV15 dc15 pm15 an15 cd15 ct15, fun s v => .of_eq rfl, fun base _ _ => ?_⟩
 have h_is_whole := e0.has l.prog w base X G fun F => j4 F C z_bool z_int z_isinstance
 have h_is_within := e1.has l.prog w base X G fun F => jD F C h_is_whole
 have h_is_coordinate := e2.has l.prog w base X G fun F => gk F C h_is_within
 have h_made_dot := e3.has l.prog w base X G fun F => j7 F C h_is_coordinate h_is_within z_isinstance z_len z_list z_tuple
 have h_made_dots := e4.has l.prog w base X G fun F => jG F C h_made_dot z_isinstance z_len z_list
 have h_law_whole := e5.has l.prog w base X G fun F => jF F C z_bool z_int z_isinstance
 have h_law_cell_at := e6.has l.prog w base X G fun F => gZ F C z_len
 have h_law_stream := e7.has l.prog w base X G fun F => iM F C z_range
 have h_law_far := e8.has l.prog w base X G fun F => me F C
 have h_law_heavy := e9.has l.prog w base X G fun F => jE F C
 have h_law_row := e10.has l.prog w base X G fun F => mf F C h_law_far h_law_heavy h_law_stream z_tuple
 have h_law_bad := e11.has l.prog w base X G fun F => md F C
 have h_law_refused := e12.has l.prog w base X G fun F => hG F C h_made_dots z_ValueError z_isinstance
 have h_law_good := e13.has l.prog w base X G fun F => j6 F C h_law_whole z_isinstance z_len z_list z_tuple z_zip
 have h_law_copy := e14.has l.prog w base X G fun F => j5 F C z_isinstance z_list
 exact sh (fR (st := bY) l15 c15 k15) C h_law_bad h_law_cell_at h_law_copy h_law_good h_law_refused h_law_row h_law_stream h_made_dots z_isinstance z_len z_list z_tuple
end LW
open PySem PySem.W PyProof.Rows
set_option maxRecDepth 100000 in
set_option maxHeartbeats 0 in
theorem PySem.Challenge.cw_halvecut_k11_dots_made_holds : PySem.Challenge.rw_halvecut_k11_dots_made.Holds := by
 w_on; o_law; k_head; (case hw => w_witness2)
 k_fill
 refine PD.walk (l := PySem.Challenge.rw_halvecut_k11_dots_made) (k := 7) (x := "_law_script") rfl rfl ⟨rfl, by decide, by decide⟩ (fun w h Y => PySem.W.kIn_of Y) (fun w => by kernel_rfl) ?F
 case F =>
  intro w mg fa h KX G hmg
  refine' LW.all_mk KX G hmg ?e0 ?e1 ?e2 ?e3 ?e4 ?e5 ?e6 ?e7 ?e8 ?e9 ?e10 ?e11 ?e12 ?e13 ?e14 ?a15 ?l15 ?c15 ?k15 ?mg_PlaneError ?mg_NoPlace ?mg_NoDots ?mg_NoMap ?mg_TooMany ?gi_MOST_DOTS ?gi_MOST_COORDINATE ?gi_MOST_WEIGHT ?exc_NoDots ?xk_NoDots ?kit_NoDots_PlaneError ?kit_NoDots_NoPlace ?kit_NoDots_NoDots ?kit_NoDots_NoMap ?kit_NoDots_TooMany ?kit_NoDots_ValueError ?exm_NoDots_PlaneError ?exm_NoDots_NoDots ?z_ValueError ?z_bool ?z_int ?z_isinstance ?z_len ?z_list ?z_range ?z_tuple ?z_zip
  all_goals try (refine' PD.FL.mk ?a ?l ?c ?k; (case a => k_is); (case l => k_is); (case c => k_is); (case k => k_is))
  (case a15 => k_is)
  (case l15 => k_is)
  (case c15 => k_is)
  (case k15 => k_is)
  (case mg_PlaneError => k_is)
  (case mg_NoPlace => k_is)
  (case mg_NoDots => k_is)
  (case mg_NoMap => k_is)
  (case mg_TooMany => k_is)
  (case gi_MOST_DOTS => k_is)
  (case gi_MOST_COORDINATE => k_is)
  (case gi_MOST_WEIGHT => k_is)
  (case exc_NoDots => kernel_rfl)
  (case xk_NoDots => kernel_rfl)
  (case kit_NoDots_PlaneError => kernel_rfl)
  (case kit_NoDots_NoPlace => kernel_rfl)
  (case kit_NoDots_NoDots => kernel_rfl)
  (case kit_NoDots_NoMap => kernel_rfl)
  (case kit_NoDots_TooMany => kernel_rfl)
  (case kit_NoDots_ValueError => kernel_rfl)
  (case exm_NoDots_PlaneError => kernel_rfl)
  (case exm_NoDots_NoDots => kernel_rfl)
  (case z_ValueError => k_is)
  (case z_bool => k_is)
  (case z_int => k_is)
  (case z_isinstance => k_is)
  (case z_len => k_is)
  (case z_list => k_is)
  (case z_range => k_is)
  (case z_tuple => k_is)
  (case z_zip => k_is)
