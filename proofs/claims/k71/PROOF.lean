import PyProof.Rows.All
import Wide.All
import OpenK.AllK
import Wide.FinOn
import Lean
import PyProof.EqAt
import PyProof.EqKinds
import PyProof.TupleCall
import PySem.Challenge.RW_halvecut_k71_papers_of_lines
set_option Elab.async false
set_option linter.all false
set_option maxRecDepth 100000
abbrev zAA := @PySem.Heap.get?_push_of_some
abbrev zAB := @List.cons.injEq
abbrev zAC := @PySem.Heap.lt_size
abbrev zAD := @PySem.Heap.get?_push_size
abbrev zAE := @Bool.false_ne_true
abbrev zAF := @List.map_cons
abbrev zAG := @Nat.le_refl
abbrev zAH := @Nat.lt_of_lt_of_le
abbrev zAI := @List.getElem?_eq_some_iff
abbrev zAJ := @List.length_map
abbrev zAK := @List.mem_cons_of_mem
abbrev zAL := @List.getElem?_set_ne
abbrev zAM := @List.mem_of_getElem?
abbrev zAN := @List.mem_cons
abbrev zAO := @List.mem_cons_self
abbrev zAP := @Nat.ne_of_lt
abbrev zAQ := @List.getElem?_map
abbrev zAR := @List.size_toArray
abbrev zAS := @List.mem_append_right
abbrev zAT := @Option.some.inj
abbrev zAU := @List.lookup_cons
abbrev zAV := @List.getElem?_append_right
abbrev zAW := @List.map_append
abbrev zAX := @List.getElem?_set_self
abbrev zAY := @List.not_mem_nil
abbrev zAZ := @Nat.zero_le
abbrev zAa := @Nat.le_trans
abbrev zAb := @Bool.false_eq_true
abbrev zAc := @Nat.lt_irrefl
abbrev zAd := @List.append_nil
abbrev zAe := @List.getElem?_append_left
abbrev zAf := @List.eq_nil_of_length_eq_zero
abbrev zAg := @List.length_append
abbrev zAh := @List.length_cons
abbrev zAi := @List.map_nil
abbrev zAj := @Nat.pow_succ
abbrev zAk := @Bool.and_eq_true
abbrev zAl := @List.getElem?_replicate
abbrev zAm := @PySem.Heap.size_push
abbrev zAn := @Nat.mod_eq_of_lt
abbrev zAo := @List.find?_cons
abbrev zAp := @List.getElem?_eq_none
abbrev zAq := @List.getElem?_eq_none_iff
abbrev zAr := @List.take_succ
abbrev zAs := @List.length_take
abbrev zAt := @Array.length_toList
abbrev zAu := @List.filterMap_cons
abbrev zAv := @PySem.Heap.IsTupleIter.typeIs
abbrev zAw := @Option.toList_some
abbrev zAx := @List.take_of_length_le
abbrev zAy := @Int.toNat_natCast
abbrev zAz := @List.map_map
abbrev zA0 := @List.all_eq_true
abbrev zA1 := @Int.fdiv_eq_ediv_of_nonneg
abbrev zA2 := @List.getD_eq_getElem?_getD
abbrev zA3 := @List.mem_append
abbrev zA4 := @Array.append_assoc
abbrev zA5 := @Bool.false_and
abbrev zA6 := @Bool.not_false
namespace L2
open PySem PySem.Spec PyProof.Rows
abbrev Key := Sum Int Str
def iH : Key -> Value -> Bool
 | .inl k, v => Value.isInt k v
 | .inr x, v => Value.isStrOf x v
def wk (w : World) : Key -> Int
 | .inl k => hashInt k
 | .inr x => hashStr w x
theorem bp : ∀ {k : Key} {v : Value}, iH k v = true -> (∃ i t, k = Sum.inl i /\ v = Value.int i t) ∨ (∃ x t, k = Sum.inr x /\ v = Value.str x t)
 | .inl i, v, h => by
  obtain ⟨t, e⟩ := Value.isInt_shape (k := i) (v := v) h
  exact .inl ⟨i, t, rfl, e⟩
 | .inr x, v, h => by
  obtain ⟨t, e⟩ := Value.isStrOf_shape (x := x) (v := v) h
  exact .inr ⟨x, t, rfl, e⟩
theorem qE (i : Int) (t : Tok) : iH (.inl i) (.int i t) = true := by simp [iH, Value.isInt]
theorem qF (x : Str) (t : Tok) : iH (.inr x) (.str x t) = true := by simp [iH, Value.isStrOf]
theorem uX (a b : Int) : decide ((Sum.inl a : Key) = Sum.inl b) = (a == b) := by
 by_cases e : a = b
 ·subst e; simp
 ·have h : ¬ (Sum.inl a : Key) = Sum.inl b := fun q => e (Sum.inl.inj q)
  rw [decide_eq_false h]
  exact (beq_eq_false_iff_ne.mpr e).symm
theorem u3 (a b : Str) : decide ((Sum.inr a : Key) = Sum.inr b) = decide (a = b) := by
 by_cases e : a = b
 ·subst e; simp
 ·have h : ¬ (Sum.inr a : Key) = Sum.inr b := fun q => e (Sum.inr.inj q)
  rw [decide_eq_false h, decide_eq_false e]
theorem uY (a : Int) (b : Str) : decide ((Sum.inl a : Key) = Sum.inr b) = false := decide_eq_false (fun q => nomatch q)
theorem uZ (a : Str) (b : Int) : decide ((Sum.inr a : Key) = Sum.inl b) = false := decide_eq_false (fun q => nomatch q)
def aQ (prog : Program) (w : World) : PySem.KeyKind prog w Key where
 is := iH
 hash := wk w
 inj := fun v a b ha hb => by
  rcases bp ha with ⟨i, t, rfl, rfl⟩ | ⟨x, t, rfl, rfl⟩
  ·rcases bp hb with ⟨j, u, rfl, e⟩ | ⟨y, u, rfl, e⟩
   ·injection e with e1 _; rw [e1]
   ·exact nomatch e
  ·rcases bp hb with ⟨j, u, rfl, e⟩ | ⟨y, u, rfl, e⟩
   ·exact nomatch e
   ·injection e with e1 _; rw [e1]
 byValue := fun k v h => by
  rcases bp h with ⟨i, t, rfl, rfl⟩ | ⟨x, t, rfl, rfl⟩ <;> rfl
 pyHash := fun hv h => by
  rcases bp hv with ⟨i, t, rfl, rfl⟩ | ⟨x, t, rfl, rfl⟩
  ·exact wpAny_pyHash_int h
  ·exact wpAny_pyHash_str h
 eqBool := fun hu hv h => by
  rcases bp hu with ⟨i, t, rfl, rfl⟩ | ⟨x, t, rfl, rfl⟩
  ·rcases bp hv with ⟨j, u, rfl, rfl⟩ | ⟨y, u, rfl, rfl⟩
   ·rw [uX] at h; exact wpAny_eqBool_int h
   ·rw [uY] at h; exact SeqAt.EqAt.int_str i t y u _ _ _ _ h
  ·rcases bp hv with ⟨j, u, rfl, rfl⟩ | ⟨y, u, rfl, rfl⟩
   ·rw [uZ] at h; exact SeqAt.EqAt.str_int x t j u _ _ _ _ h
   ·rw [u3] at h; exact wpAny_eqBool_str h
 «strs» := fun k x t v h => by
  rcases bp h with ⟨i, u, rfl, e⟩ | ⟨y, u, rfl, e⟩
  ·exact nomatch e
  ·injection e with e1 _
   subst e1
   cases v <;> rfl
theorem mL (prog : Program) (w : World) (i : Int) (t : Tok) : (aQ prog w).is (.inl i) (.int i t) = true := qE i t
theorem mM (prog : Program) (w : World) (x : Str) (t : Tok) : (aQ prog w).is (.inr x) (.str x t) = true := qF x t
end L2
namespace L2
open PySem PySem.Spec PyProof.Rows
inductive V where
 | non | bl (b : Bool) | int (i : Int) | str (x : Str) | byt (b : Array UInt8) | flt (b : UInt64) | ref (a : Addr) | ty (n : String)
 deriving DecidableEq
def RelV : V -> Value -> Prop
 | .non, u => u = Value.none
 | .bl b, u => u = Value.bool b
 | .int i, u => ∃ t, u = Value.int i t
 | .str x, u => ∃ t, u = Value.str x t
 | .byt b, u => ∃ t, u = Value.bytes b t
 | .flt b, u => ∃ t, u = Value.float b t
 | .ref a, u => u = Value.ref a
 | .ty n, u => u = Value.type n
abbrev Vals : List V -> List Value -> Prop := Paired RelV
theorem Vals.length {xs : List V} {us : List Value} (r : Vals xs us) : xs.length = us.length := Paired.length r
theorem Vals.get : ∀ {xs : List V} {us : List Value} {i : Nat} {x : V}, Vals xs us -> xs[i]? = some x -> ∃ u, us[i]? = some u /\ RelV x u
 | _, _, _, _, .nil, e => by simp at e
 | _, _, 0, _, .cons r _, e => by simp at e; subst e; exact ⟨_, rfl, r⟩
 | _, _, i + 1, x, .cons _ t, e => by
  obtain ⟨u, h1, h2⟩ := Vals.get (i := i) (x := x) t (by simpa using e)
  exact ⟨u, by simpa using h1, h2⟩
theorem Vals.append : ∀ {xs ys : List V} {us ws : List Value}, Vals xs us -> Vals ys ws -> Vals (xs ++ ys) (us ++ ws)
 | _, _, _, _, .nil, s => s
 | _, _, _, _, .cons r t, s => .cons r (Vals.append t s)
theorem Vals.take : ∀ {xs : List V} {us : List Value} (n : Nat), Vals xs us -> Vals (xs.take n) (us.take n)
 | _, _, 0, _ => .nil
 | _, _, _ + 1, .nil => .nil
 | _, _, n + 1, .cons r t => .cons r (Vals.take n t)
theorem Vals.drop : ∀ {xs : List V} {us : List Value} (n : Nat), Vals xs us -> Vals (xs.drop n) (us.drop n)
 | _, _, 0, r => r
 | _, _, _ + 1, .nil => .nil
 | _, _, n + 1, .cons _ t => Vals.drop n t
theorem Vals.none_of : ∀ {xs : List V} {us : List Value} {i : Nat}, Vals xs us -> xs[i]? = none -> us[i]? = none := fun {xs us i} r e => by
 have h1 := r.length
 have h2 : xs.length <= i := zAq.mp e
 exact zAq.mpr (by omega)
def cj : Option V -> Option Value -> Prop
 | some v, some u => RelV v u
 | none, none => True
 | _, _ => False
def KV {κ : Type} : List (κ × V) -> List (κ × Value) -> Prop := Paired fun (p : κ × V) (q : κ × Value) => p.1 = q.1 /\ RelV p.2 q.2
def kV : Key -> V
 | .inl i => .int i
 | .inr x => .str x
inductive HO where
 | lst (xs : List V)
 | tup (xs : List V)
 | dK (kvs : List (Key × V)) | dT (kvs : List (List Key × V))
 | set (S : Int -> Bool) (n : Nat)
 | ins (C dx : Addr) (fs : List (Str × V))
 | own (x : Addr)
 | xd (fs : List (Str × V))
 | met (f x : Addr)
 | rng (lo hi : Int)
 | frz (o : Obj) (u : HO)
 | tbl (ps : Array Value)
 | ext (φ : Heap -> Prop)
abbrev Hp := Addr -> Option HO
def upd (H : Hp) (a : Addr) (o : HO) : Hp := fun b => if b = a then some o else H b
theorem ax {H : Hp} {a : Addr} {o : HO} : upd H a o a = some o := by unfold upd; rw [if_pos rfl]
theorem aq {H : Hp} {a b : Addr} {o : HO} (h : b ≠ a) : upd H a o b = H b := by unfold upd; rw [if_neg h]
theorem fZ {H : Hp} {a : Addr} {o u : HO} : upd (upd H a o) a u = upd H a u := by
 funext b; unfold upd; split <;> rfl
theorem dn {H : Hp} {a b : Addr} {o u : HO} (h : H a = some o) (h' : H b = some u) (d : o ≠ u) : a ≠ b := by
 intro e; subst e; rw [h] at h'; exact d (zAT h')
theorem aM {H : Hp} {a b : Addr} {o : HO} (h : H a = some o) (h' : H b = none) : a ≠ b := by
 intro e; subst e; rw [h] at h'; cases h'
section
variable (P : Program) (w : World)
def aI (H : Hp) (h : Heap) (a : Addr) : HO -> Prop
 | .lst xs => xs.length <= sizeLine /\ ∃ (its : List Value) (n : Nat), Vals xs its /\ h.get? a = some { cls := .type "list", data := .seq its.toArray n }
 | .tup xs => xs.length <= sizeLine /\ ∃ its : List Value, Vals xs its /\ IsTup h a its.toArray
 | .dK kvs => kvs.length <= sizeLine /\ (a == sysModules) = false /\ ∃ vs, KV kvs vs /\ h.DictOf (aQ P w) a vs
 | .dT kvs => kvs.length <= sizeLine /\ (a == sysModules) = false /\ ∃ xs : List (List Key × Addr × Value),
   Paired (fun (p : List Key × V) (q : List Key × Addr × Value) => p.1 = q.1 /\ H q.2.1 = some (.tup (p.1.map kV)) /\ RelV p.2 q.2.2) kvs xs ∧
   ∃ o es ep, h.get? a = some o /\ o.ExactDict /\ o.data = .dict es ep /\ es.toList = xs.map (entryOfKey (tupleKind (aQ P w))) /\ (xs.map (·.1)).Nodup
 | .set S n => h.SetOf (intKind P w) a S n
 | .ins C dx fs => H dx = some (.own a) /\ fs.length <= 1000 /\ dx ≠ a /\ h.get? a = some (PySem.W.instObj C dx) ∧
   ∃ mA, h.Ns1 dx mA /\ (∀ f, cj (fs.lookup f) (mA f)) /\ PySem.Within mA (fs.map (·.1))
 | .own _ => ∃ o, h.get? a = some o
 | .xd fs => ∃ mA, h.Ns1 a mA /\ ∀ f, cj (fs.lookup f) (mA f)
 | .rng lo hi => ∃ t u v, h.get? a = some { cls := .type "range", data := .fields #[.int lo t, .int hi u, .int 1 v] }
 | .frz o u => h.get? a = some o /\ aI H h a u
 | .tbl ps => h.get? a = some { cls := .none, data := .fields ps }
 | .met f x => h.get? a = some (PySem.W.methodObj (.ref f) (.ref x))
 | .ext φ => φ h /\ (∃ o, h.get? a = some o) /\ ∀ h1 h2 : Heap, φ h1 -> (∀ o, h1.get? a = some o -> h2.get? a = some o) -> φ h2
def HOk (H : Hp) (h : Heap) : Prop := ∀ a o, H a = some o -> aI P w H h a o
end
section
variable {P : Program} {w : World} {H H' : Hp} {h h' : Heap} {a : Addr} {o : HO}
theorem aI.lt (x : aI P w H h a o) : a < h.objs.size := by
 cases o with
 | lst xs => obtain ⟨_, _, _, _, e⟩ := x; exact zAC e
 | tup xs => obtain ⟨_, _, _, p⟩ := x; exact p.lt
 | dK kvs => obtain ⟨_, _, _, _, o, _, _, e, _⟩ := x; exact zAC e
 | dT kvs => obtain ⟨_, _, _, _, o, _, _, e, _⟩ := x; exact zAC e
 | set S n => obtain ⟨o, _, _, _, e, _⟩ := x; exact zAC e
 | ins C dx fs => obtain ⟨_, _, _, e, _⟩ := x; exact zAC e
 | own y => obtain ⟨_, e⟩ := x; exact zAC e
 | xd fs => obtain ⟨_, ⟨_, _, _, e, _⟩, _⟩ := x; exact zAC e
 | rng lo hi => obtain ⟨_, _, _, e⟩ := x; exact zAC e
 | frz ob u => obtain ⟨e, _⟩ := x; exact zAC e
 | tbl ps => exact zAC (show h.get? a = some _ from x)
 | met f y => exact zAC (show h.get? a = some _ from x)
 | ext φ => obtain ⟨_, ⟨_, e⟩, _⟩ := x; exact zAC e
theorem Paired.mapP {α β : Type} {F G : α -> β -> Prop} : ∀ {l₁ : List α} {l₂ : List β}, Paired F l₁ l₂ -> (∀ a b, F a b -> G a b) -> Paired G l₁ l₂
 | _, _, .nil, _ => .nil
 | _, _, .cons r t, f => .cons (f _ _ r) (Paired.mapP t f)
theorem aI.stay (x : aI P w H h a o) (k : ∀ b u, (b = a ∨ H b = some (.own a)) -> h.get? b = some u -> h'.get? b = some u)
  (ho : ∀ b, H b = some (.own a) -> H' b = some (.own a)) (ht : ∀ b xs, H b = some (.tup xs) -> H' b = some (.tup xs)) : aI P w H' h' a o := by
 induction o with
 | lst xs => obtain ⟨z, its, n, r, e⟩ := x; exact ⟨z, its, n, r, k _ _ (.inl rfl) e⟩
 | tup xs => obtain ⟨z, its, r, ob, e, c⟩ := x; exact ⟨z, its, r, ob, k _ _ (.inl rfl) e, c⟩
 | dK kvs => obtain ⟨z, y, vs, r, ob, es, ep, e, c⟩ := x; exact ⟨z, y, vs, r, ob, es, ep, k _ _ (.inl rfl) e, c⟩
 | dT kvs =>
  obtain ⟨z, y, xs, r, ob, es, ep, e, c⟩ := x
  exact ⟨z, y, xs, Paired.mapP r fun p q z => ⟨z.1, ht _ _ z.2.1, z.2.2⟩, ob, es, ep, k _ _ (.inl rfl) e, c⟩
 | set S n => obtain ⟨ob, es, ep, t, e, c⟩ := x; exact ⟨ob, es, ep, t, k _ _ (.inl rfl) e, c⟩
 | ins C dx fs =>
  obtain ⟨d, z, ne, e, mA, ⟨od, es, ep, e2, c⟩, r⟩ := x
  exact ⟨ho _ d, z, ne, k _ _ (.inl rfl) e, mA, ⟨od, es, ep, k _ _ (.inr d) e2, c⟩, r⟩
 | own y => obtain ⟨ob, e⟩ := x; exact ⟨ob, k _ _ (.inl rfl) e⟩
 | xd fs => obtain ⟨mA, ⟨od, es, ep, e, c⟩, r⟩ := x; exact ⟨mA, ⟨od, es, ep, k _ _ (.inl rfl) e, c⟩, r⟩
 | rng lo hi => obtain ⟨t, u, v, e⟩ := x; exact ⟨t, u, v, k _ _ (.inl rfl) e⟩
 | frz ob u ih => obtain ⟨e, q⟩ := x; exact ⟨k _ _ (.inl rfl) e, ih q⟩
 | tbl ps =>
  have e : h.get? a = some { cls := .none, data := .fields ps } := x
  show h'.get? a = some { cls := .none, data := .fields ps }
  exact k a _ (.inl rfl) e
 | met f y =>
  have e : h.get? a = some (PySem.W.methodObj (.ref f) (.ref y)) := x
  show h'.get? a = some (PySem.W.methodObj (.ref f) (.ref y))
  exact k a _ (.inl rfl) e
 | ext φ => obtain ⟨p, ⟨o, e⟩, st⟩ := x; exact ⟨st _ _ p fun o q => k _ _ (.inl rfl) q, ⟨o, k _ _ (.inl rfl) e⟩, st⟩
theorem HOk.lt (x : HOk P w H h) (e : H a = some o) : a < h.objs.size := (x a o e).lt
theorem HOk.fresh (x : HOk P w H h) (e : h.objs.size <= a) : H a = none := by
 cases q : H a with
 | none => rfl
 | some u => exact absurd (zAH (x.lt q) e) (zAc _)
theorem HOk.kept (x : HOk P w H h) (k : ∀ b u, h.get? b = some u -> h'.get? b = some u) : HOk P w H h' := fun a o e =>
 (x a o e).stay (fun b u _ q => k b u q) (fun _ q => q) fun _ _ q => q
theorem HOk.laid (x : HOk P w H h) (k : ∀ b u, h.get? b = some u -> h'.get? b = some u) (hp : h.objs.size <= a) (new : aI P w (upd H a o) h' a o) : HOk P w (upd H a o) h' := fun b u e => by
 have hn := x.fresh hp
 by_cases hb : b = a
 ·subst hb; rw [ax] at e; cases e; exact new
 ·rw [aq hb] at e
  exact (x b u e).stay (fun c v _ q => k c v q) (fun c q => by rw [aq (aM q hn)]; exact q) fun c xs q => by rw [aq (aM q hn)]; exact q
end
def Rd (H : Hp) (a : Addr) (u : HO) : Prop := H a = some u ∨ ∃ o, H a = some (.frz o u)
theorem Rd.ok {P : Program} {w : World} {H : Hp} {h : Heap} {a : Addr} {u : HO} (r : Rd H a u) (x : HOk P w H h) : aI P w H h a u := by
 rcases r with r | ⟨o, r⟩
 ·exact x a u r
 ·obtain ⟨_, q⟩ := x a _ r
  exact q
def Mut : Option HO -> Prop
 | some (.lst _) => True
 | some (.dK _) => True
 | some (.dT _) => True
 | some (.set _ _) => True
 | some (.ins _ _ _) => True
 | some (.ext _) => True
 | _ => False
section
variable {P : Program} {w : World} {H : Hp} {h h' : Heap} {x e : Addr} {o' : HO}
theorem HOk.write (ok : HOk P w H h) (mu : Mut (H x)) (he : e = x ∨ H e = some (.own x)) (k : ∀ b u, b ≠ e -> h.get? b = some u -> h'.get? b = some u) (heo : ∃ u, h'.get? e = some u)
  (new : aI P w (upd H x o') h' x o') : HOk P w (upd H x o') h' := fun b u q => by
 have nown : ∀ c y, H c = some (.own y) -> c ≠ x := fun c y r z => by subst z; rw [r] at mu; exact mu
 have ntup : ∀ c xs, H c = some (.tup xs) -> c ≠ x := fun c xs r z => by subst z; rw [r] at mu; exact mu
 by_cases hb : b = x
 ·subst hb; rw [ax] at q; cases q; exact new
 ·rw [aq hb] at q
  by_cases hbe : b = e
  ·have q' : H b = some (.own x) := by
    rcases he with z | z
    ·exact absurd (hbe.trans z) hb
    ·rw [hbe]; exact z
   rw [q] at q'; cases q'
   obtain ⟨v, hv⟩ := heo
   exact ⟨v, by rw [hbe]; exact hv⟩
  ·refine (ok b u q).stay (fun c v hc r => k c v ?_ r) (fun c r => by rw [aq (nown c b r)]; exact r) fun c xs r => by rw [aq (ntup c xs r)]; exact r
   rcases hc with rfl | hc
   ·exact hbe
   ·rintro rfl
    rcases he with z | z
    ·exact nown c b hc z
    ·rw [hc] at z; cases z; exact hb rfl
end
structure Un (fs ex : List Addr) (H H' : Hp) (h h' : Heap) : Prop where
 keep : ∀ b o, h.get? b = some o -> H b = none -> b ∉ fs -> b ∉ ex -> h'.get? b = some o
 slot : ∀ b o, h.get? b = some o -> H b = none -> b ∈ fs -> b ∉ ex -> ∃ sl, h'.get? b = some { o with slots := sl }
 free : ∀ b o, h.get? b = some o -> H b = none -> b ∉ ex -> H' b = none
 there : ∀ b o, h.get? b = some o -> b ∉ ex -> ∃ o', h'.get? b = some o'
 tups : ∀ b xs, H b = some (.tup xs) -> H' b = some (.tup xs)
 frzs : ∀ b o u, H b = some (.frz o u) -> H' b = some (.frz o u)
 tbls : ∀ b ps, H b = some (.tbl ps) -> ∃ more, H' b = some (.tbl (ps ++ more))
section
variable {fs fs' ex ex' : List Addr} {H H1 H2 : Hp} {h h1 h2 h' : Heap} {a x e : Addr} {o : HO}
theorem Un.any (u : Un fs ex H H1 h h1) {b : Addr} {ob : Obj} (q : h.get? b = some ob) (n : H b = none) (hx : b ∉ ex) : ∃ sl, h1.get? b = some { ob with slots := sl } := by
 by_cases hb : b ∈ fs
 ·exact u.slot b ob q n hb hx
 ·exact ⟨ob.slots, u.keep b ob q n hb hx⟩
theorem Un.kept (k : ∀ b u, h.get? b = some u -> h'.get? b = some u) : Un fs ex H H h h' :=
 ⟨fun b ob q _ _ _ => k b ob q, fun b ob q _ _ _ => ⟨ob.slots, k b ob q⟩, fun _ _ _ n _ => n, fun b ob q _ => ⟨ob, k b ob q⟩, fun _ _ q => q, fun _ _ _ q => q, fun _ ps q => ⟨#[], by rw [q]; simp⟩⟩
theorem Un.refl : Un fs ex H H h h := Un.kept fun _ _ q => q
theorem Un.laid (k : ∀ b u, h.get? b = some u -> h'.get? b = some u) (hp : h.objs.size <= a) (hn : H a = none) : Un fs ex H (upd H a o) h h' where
 keep := fun b u q _ _ _ => k b u q
 slot := fun b u q _ _ _ => ⟨u.slots, k b u q⟩
 free := fun b u q n _ => by rw [aq (zAP (zAH (zAC q) hp))]; exact n
 there := fun b u q _ => ⟨u, k b u q⟩
 tups := fun b xs q => by rw [aq (aM q hn)]; exact q
 frzs := fun b u xs q => by rw [aq (aM q hn)]; exact q
 tbls := fun b ps q => ⟨#[], by rw [aq (aM q hn), q]; simp⟩
theorem Un.write (mu : Mut (H x)) (he : e = x ∨ H e = some (.own x)) (k : ∀ b u, b ≠ e -> h.get? b = some u -> h'.get? b = some u) (heo : ∃ u, h'.get? e = some u) : Un fs ex H (upd H x o) h h' := by
 have hx : ∀ b, H b = none -> b ≠ x := fun b n z => by subst z; rw [n] at mu; exact mu
 have hb : ∀ b, H b = none -> b ≠ e := fun b n z => by
  subst z
  rcases he with r | r
  ·exact hx b n r
  ·rw [n] at r; cases r
 have hm : ∀ b u, H b = some u -> ¬ Mut (some u) -> b ≠ x := fun b u q nm z => by subst z; rw [q] at mu; exact nm mu
 refine ⟨fun b u q n _ _ => k b u (hb b n) q, fun b u q n _ _ => ⟨u.slots, k b u (hb b n) q⟩, fun b u q n _ => by rw [aq (hx b n)]; exact n, fun b u q _ => ?_,
  fun b xs q => by rw [aq (hm b _ q fun z => z)]; exact q, fun b u xs q => by rw [aq (hm b _ q fun z => z)]; exact q, fun b ps q => ⟨#[], by rw [aq (hm b _ q fun z => z), q]; simp⟩⟩
 by_cases hbe : b = e
 ·subst hbe; exact heo
 ·exact ⟨u, k b u hbe q⟩
end
def trk (h : Heap) (H : Hp) : List Addr := (List.range h.objs.size).filter fun a => (H a).isSome
def gn (h : Heap) (H : Hp) : Heap := PySem.W.hideAll h (trk h H)
theorem qn (h : Heap) (H : Hp) : (gn h H).objs.size = h.objs.size := PySem.W.hideAll_size _ _
theorem rV {h : Heap} {H : Hp} {b : Addr} {o : Obj} (e : h.get? b = some o) (n : H b = none) : (gn h H).get? b = some o :=
 PySem.W.hideAll_get _ e fun hm => by
  have q : (H b).isSome = true := (List.mem_filter.mp hm).2
  rw [n] at q; simp at q
theorem ua {h : Heap} {H : Hp} {b : Addr} {o : Obj} (e : (gn h H).get? b = some o) : h.get? b = some o /\ H b = none := by
 have e' : h.get? b = some o := PySem.W.of_hideAll (trk h H) e
 refine ⟨e', ?_⟩
 cases q : H b with
 | none => rfl
 | some x =>
  have hm : b ∈ trk h H := List.mem_filter.mpr ⟨List.mem_range.mpr (zAC e'), by simp [q]⟩
  have z : (gn h H).get? b = none := PySem.W.hideAll_none (trk h H) hm
  rw [z] at e; cases e
def tL (g h : Heap) (L : Addr) : List (Addr × Obj) := (List.range h.objs.size).filterMap fun a => if a = L ∨ (g.get? a).isSome = true then none else (h.get? a).map fun o => (a, o)
def rest (g h : Heap) (L d : Addr) : List (Addr × Obj) := (tL g h L).filter fun p => decide (p.1 ≠ d)
end L2
namespace L2
open PySem PySem.Spec PyProof.Rows
structure Mod (K : PySem.W.Frag) (mg : Str -> Option Value) (base : Heap) : Prop where
 kin : K.In base
 glob : base.Ns mainGlobals mg
 blt : ∃ mb, base.Ns builtinsNs mb /\ ∀ x : Str, x ≠ "__name__" -> mb x = bootBuiltins x
 nolimit : base.NoLimit
structure Cx where
 prog : Program
 w : World
 K : PySem.W.Frag
 mg : Str -> Option Value
 base : Heap
 A : Around
 N : List Str
 s₀ : Shared
 H₀ : Hp
 env : Env
 outer : List Env
 stack : List Env
 ex : List Addr
 fn : Str -> Bool
 calm : Bool
 pn : List (Addr × Obj)
 xe : Value -> Shared -> Prop
def frs (l : List Env) : List Addr := l.filterMap (·.frame)
abbrev Cx.fs (X : Cx) : List Addr := frs X.outer
def Vis (sc : Scope) (x : Str) : Prop := sc.names.lookup x = some .local ∨ sc.names.lookup x = some .cell ∨ sc.names.lookup x = some .free
def Loc (sc : Scope) (x : Str) : Prop := sc.names.lookup x = some .local ∨ sc.names.lookup x = some .cell
def Look (env : Env) (h : Heap) (m : Str -> Option Value) (x : Str) (u : Value) : Prop :=
 (env.kindOf x = some .local /\ m x = some u) ∨ ((env.kindOf x = some .cell ∨ env.kindOf x = some .free) /\ ∃ c, env.cells.lookup x = some c /\ h.IsCell c (some u))
structure Cx.Ok (X : Cx) : Prop where
 mod : Mod X.K X.mg X.base
 kind : X.env.scope.kind = .function
 glob : X.env.globals = mainGlobals
 blt : X.env.builtins = builtinsNs
 above : X.s₀.heap.objs.size <= X.env.locals
 inj : ∀ x y c, X.env.cells.lookup x = some c -> X.env.cells.lookup y = some c -> x = y
 has : ∀ x, (X.env.kindOf x = some .cell ∨ X.env.kindOf x = some .free) -> ∃ c, X.env.cells.lookup x = some c
 cab : ∀ x c, X.fn x = true -> X.env.cells.lookup x = some c -> X.s₀.heap.objs.size <= c
 hd : X.calm = true -> X.A.handled = none
 frames : X.A.frames = some X.stack
 stk : X.stack = X.outer ∨ (X.stack = X.env :: X.outer /\ X.env.frame = some X.env.locals)
 exf : ∀ b ∈ X.ex, b ≠ X.env.locals /\ ∀ x c, X.env.cells.lookup x = some c -> c ≠ b
 bs : ∀ b o, X.base.get? b = some o -> X.s₀.heap.get? b = some o /\ X.H₀ b = none
 bsz : X.base.objs.size <= X.s₀.heap.objs.size
 noex : ∀ b o, X.base.get? b = some o -> b ∉ X.ex
 exfs : ∀ b ∈ X.ex, b ∉ X.fs
 funs : X.s₀.heap.FunFrames X.base X.outer
 frf : ∀ b ∈ X.fs, X.H₀ b = none
structure Inv (X : Cx) (pins : List (Addr × Obj)) (σ : List (Option V)) (H : Hp) (s : Shared) : Prop where
 ok : X.Ok
 os : s.os = X.s₀.os
 bare : AllBare s.gens
 base : Un X.fs X.ex X.H₀ H X.s₀.heap s.heap
 loc : ∃ m, s.heap.Ns X.env.locals m /\ ∀ (i : Nat) (x : Str) (v : V), X.N[i]? = some x -> σ[i]? = some (some v) -> Vis X.env.scope x -> ∃ u, RelV v u /\ Look X.env s.heap m x u
 cell : ∀ x c, X.env.cells.lookup x = some c -> ∃ v, s.heap.IsCell c v
 free : H X.env.locals = none
 freeC : ∀ x c, X.env.cells.lookup x = some c -> H c = none
 pin : ∀ p ∈ X.pn ++ pins, s.heap.get? p.1 = some p.2 /\ H p.1 = none /\ p.1 ≠ X.env.locals /\ p.1 ∉ X.fs /\ ∀ v, p.2.data ≠ .cell v
 hok : HOk X.prog X.w H s.heap
 len : σ.length = X.N.length
section
variable {X : Cx} {pins : List (Addr × Obj)} {σ : List (Option V)} {H H' : Hp} {s : Shared} {h' : Heap}
theorem Cx.Ok.nofr (ok : X.Ok) {b : Addr} {o : Obj} (e : X.base.get? b = some o) : b ∉ X.fs := fun hb => by
 have := (ok.funs.mem hb).1
 rw [e] at this; cases this
theorem Inv.bs (I : Inv X pins σ H s) : ∀ b o, X.base.get? b = some o -> s.heap.get? b = some o /\ H b = none := fun b o e =>
 ⟨I.base.keep b o (I.ok.bs b o e).1 (I.ok.bs b o e).2 (I.ok.nofr e) (I.ok.noex b o e), I.base.free b o (I.ok.bs b o e).1 (I.ok.bs b o e).2 (I.ok.noex b o e)⟩
theorem Inv.bk (I : Inv X pins σ H s) : ∀ b o, X.base.get? b = some o -> s.heap.get? b = some o := fun b o e => (I.bs b o e).1
theorem Inv.mod (I : Inv X pins σ H s) : Mod X.K X.mg X.base := I.ok.mod
theorem Inv.kIn (I : Inv X pins σ H s) : X.K.In s.heap := I.ok.mod.kin.keeps I.bk
theorem Inv.lt (I : Inv X pins σ H s) : X.env.locals < s.heap.objs.size := let ⟨_, hn, _⟩ := I.loc; hn.lt
theorem Inv.sz (I : Inv X pins σ H s) : X.s₀.heap.objs.size <= s.heap.objs.size := zAa I.ok.above (Nat.le_of_lt I.lt)
theorem Inv.nofs (I : Inv X pins σ H s) {a : Addr} (h : s.heap.objs.size <= a) : a ∉ X.fs := fun hb => by
 obtain ⟨_, o, ho, _⟩ := I.ok.funs.mem hb
 exact absurd (zAH (zAC ho) (zAa I.sz h)) (zAc _)
theorem Inv.cne (I : Inv X pins σ H s) : ∀ x c, X.env.cells.lookup x = some c -> c ≠ X.env.locals := fun x c e z => by
 obtain ⟨v, o, ho, hd⟩ := I.cell x c e
 obtain ⟨m, ⟨o', es, ep, ho', hd', _⟩, _⟩ := I.loc
 rw [z, ho'] at ho; cases ho; rw [hd'] at hd; cases hd
theorem Inv.funs (I : Inv X pins σ H s) : s.heap.FunFrames X.base X.outer := by
 have all : ∀ (l : List Env), (∀ b ∈ frs l, b ∈ X.fs) -> X.s₀.heap.FunFrames X.base l -> s.heap.FunFrames X.base l := by
  intro l
  induction l with
  | nil => intro _ _; trivial
  | cons env r ih =>
   intro hs hl
   obtain ⟨hk, ⟨L, o, hf, hn, ho, hd⟩, hr⟩ := hl
   have hL : L ∈ X.fs := hs L (by unfold frs; rw [zAu, hf]; exact zAO)
   obtain ⟨sl, e⟩ := I.base.slot L o ho (I.ok.frf L hL) hL fun z => I.ok.exfs L z hL
   exact ⟨hk, ⟨L, _, hf, hn, e, hd⟩, ih (fun b hb => hs b (by unfold frs; rw [zAu, hf]; exact zAK _ hb)) hr⟩
 exact all X.outer (fun _ hb => hb) I.ok.funs
theorem Inv.stack (I : Inv X pins σ H s) : s.heap.FunFrames X.base X.stack := by
 rcases I.ok.stk with e | ⟨e, hf⟩
 ·rw [e]; exact I.funs
 ·rw [e]
  obtain ⟨m, hn, _⟩ := I.loc
  refine .cons (by rw [I.ok.kind]; decide) hf hn ?_ I.funs
  exact Heap.get?_none_of_le (zAa I.ok.bsz I.ok.above)
theorem Inv.stkSub (I : Inv X pins σ H s) : ∀ b ∈ frs X.stack, b ∈ X.env.locals :: X.fs := fun b hb => by
 rcases I.ok.stk with e | ⟨e, hf⟩
 ·rw [e] at hb; exact zAK _ hb
 ·rw [e] at hb
  unfold frs at hb
  rw [zAu, hf] at hb
  exact hb
theorem Inv.stkFree (I : Inv X pins σ H s) : ∀ b ∈ frs X.stack, H b = none := fun b hb => by
 rcases zAN.mp (I.stkSub b hb) with e | hb
 ·rw [e]; exact I.free
 ·obtain ⟨_, o, ho, _⟩ := I.ok.funs.mem hb
  exact I.base.free b o ho (I.ok.frf b hb) fun z => I.ok.exfs b z hb
theorem Inv.step {g' : Array GenState} {t' : Nat} {d' : Drawn} {ch : List Addr} (I : Inv X pins σ H s)
  (hch : ∀ b ∈ ch, (b ∈ X.ex ∨ X.s₀.heap.objs.size <= b) /\ b ≠ X.env.locals /\ (∀ x c, X.env.cells.lookup x = some c -> c ≠ b) /\ ∀ p ∈ X.pn ++ pins, p.1 ≠ b)
  (keep : ∀ b o, b ≠ X.env.locals -> b ∉ X.fs -> b ∉ ch -> s.heap.get? b = some o -> H b = none -> h'.get? b = some o)
  (slot : ∀ b o, b ≠ X.env.locals -> b ∈ X.fs -> b ∉ ch -> s.heap.get? b = some o -> H b = none -> ∃ sl, h'.get? b = some { o with slots := sl }) (free : ∀ b o, b ∉ ch -> s.heap.get? b = some o -> H b = none -> H' b = none)
  (there : ∀ b o, b ∉ ch -> s.heap.get? b = some o -> ∃ o', h'.get? b = some o')
  (tups : ∀ b xs, H b = some (.tup xs) -> H' b = some (.tup xs)) (frzs : ∀ b o u, H b = some (.frz o u) -> H' b = some (.frz o u)) (tbls : ∀ b ps, H b = some (.tbl ps) -> ∃ more, H' b = some (.tbl (ps ++ more)))
  (ns : ∀ m, s.heap.Ns X.env.locals m -> h'.Ns X.env.locals m) (hok : HOk X.prog X.w H' h') (hg : AllBare g') :
  Inv X pins σ H' { s with heap := h', gens := g', drawn := d', toks := t' } := by
 have neL : ∀ b o, X.s₀.heap.get? b = some o -> b ≠ X.env.locals := fun b o e => zAP (zAH (zAC e) I.ok.above)
 have neC : ∀ b o, X.s₀.heap.get? b = some o -> b ∉ X.ex -> b ∉ ch := fun b o e hx hb => by
  rcases (hch b hb).1 with z | z
  ·exact hx z
  ·exact absurd (zAH (zAC e) z) (zAc _)
 have cellK : ∀ x c, X.env.cells.lookup x = some c -> ∀ v, s.heap.IsCell c v -> h'.IsCell c v := fun x c e v ⟨o, ho, hd⟩ => by
  have nch : c ∉ ch := fun z => (hch c z).2.2.1 x c e rfl
  by_cases hc : c ∈ X.fs
  ·obtain ⟨sl, q⟩ := slot c o (I.cne x c e) hc nch ho (I.freeC x c e)
   exact ⟨_, q, hd⟩
  ·exact ⟨o, keep c o (I.cne x c e) hc nch ho (I.freeC x c e), hd⟩
 refine ⟨I.ok, I.os, hg, ⟨fun b o e n hb hx => ?_, fun b o e n hb hx => ?_, fun b o e n hx => ?_, fun b o e hx => ?_, fun b xs e => tups b xs (I.base.tups b xs e), fun b o xs e => frzs b o xs (I.base.frzs b o xs e), fun b ps e => ?_⟩, ?_, fun x c e => ?_, ?_, fun x c e => ?_, fun p hp => ?_, hok, I.len⟩
 ·exact keep b o (neL b o e) hb (neC b o e hx) (I.base.keep b o e n hb hx) (I.base.free b o e n hx)
 ·obtain ⟨sl, e1⟩ := I.base.slot b o e n hb hx
  obtain ⟨sl', e2⟩ := slot b _ (neL b o e) hb (neC b o e hx) e1 (I.base.free b o e n hx)
  exact ⟨sl', e2⟩
 ·obtain ⟨o', e1⟩ := I.base.there b o e hx
  exact free b o' (neC b o e hx) e1 (I.base.free b o e n hx)
 ·obtain ⟨o', e1⟩ := I.base.there b o e hx
  exact there b o' (neC b o e hx) e1
 ·obtain ⟨m1, e1⟩ := I.base.tbls b ps e
  obtain ⟨m2, e2⟩ := tbls b _ e1
  exact ⟨m1 ++ m2, by rw [e2, zA4]⟩
 ·obtain ⟨m, hn, hl⟩ := I.loc
  refine ⟨m, ns m hn, fun i x v e1 e2 e3 => ?_⟩
  obtain ⟨u, r, l⟩ := hl i x v e1 e2 e3
  refine ⟨u, r, ?_⟩
  rcases l with l | ⟨k, c, e, z⟩
  ·exact .inl l
  ·exact .inr ⟨k, c, e, cellK x c e _ z⟩
 ·obtain ⟨v, z⟩ := I.cell x c e
  exact ⟨v, cellK x c e v z⟩
 ·obtain ⟨m, ⟨o, _, _, ho, _⟩, _⟩ := I.loc
  exact free _ o (fun z => (hch _ z).2.1 rfl) ho I.free
 ·obtain ⟨v, o, ho, hd⟩ := I.cell x c e
  exact free c o (fun z => (hch c z).2.2.1 x c e rfl) ho (I.freeC x c e)
 ·obtain ⟨e, n, ne, nf, d⟩ := I.pin p hp
  have nch : p.1 ∉ ch := fun z => (hch p.1 z).2.2.2 p hp rfl
  exact ⟨keep p.1 p.2 ne nf nch e n, free p.1 p.2 nch e n, ne, nf, d⟩
theorem Inv.un {t' : Nat} (I : Inv X pins σ H s) (u : Un X.fs [] H H' s.heap h') (hok : HOk X.prog X.w H' h') : Inv X pins σ H' { s with heap := h', toks := t' } := by
 obtain ⟨m, ⟨o, es, ep, ho, r⟩, _⟩ := id I.loc
 obtain ⟨sl, hL⟩ := u.any ho I.free (by simp)
 exact I.step (g' := s.gens) (d' := s.drawn) (ch := []) (fun _ z => nomatch z) (fun b o _ hb _ e n => u.keep b o e n hb (by simp)) (fun b o _ hb _ e n => u.slot b o e n hb (by simp)) (fun b o _ e n => u.free b o e n (by simp)) (fun b o _ e => u.there b o e (by simp)) u.tups u.frzs u.tbls (fun m' hm => by
  obtain ⟨o', es', ep', ho', r'⟩ := hm
  rw [ho] at ho'; cases ho'
  exact ⟨_, es', ep', hL, r'⟩) hok I.bare
theorem Inv.call {g' : Array GenState} {t' : Nat} {d' : Drawn} {ch : List Addr} (I : Inv X pins σ H s) (u : Un (frs X.stack) ch H H' s.heap h') (hok : HOk X.prog X.w H' h') (hg : AllBare g')
  (hch : ∀ b ∈ ch, (b ∈ X.ex ∨ X.s₀.heap.objs.size <= b) /\ b ≠ X.env.locals /\ (∀ x c, X.env.cells.lookup x = some c -> c ≠ b) /\ ∀ p ∈ X.pn ++ pins, p.1 ≠ b) :
  Inv X pins σ H' { s with heap := h', gens := g', drawn := d', toks := t' } := by
 obtain ⟨m, ⟨o, es, ep, ho, r⟩, _⟩ := id I.loc
 obtain ⟨sl, hL⟩ := u.any ho I.free fun z => (hch _ z).2.1 rfl
 exact I.step (ch := ch) hch (fun b o hL hb hc e n => u.keep b o e n (fun z => (zAN.mp (I.stkSub b z)).elim hL hb) hc) (fun b o _ _ hc e n => u.any e n hc) (fun b o hc e n => u.free b o e n hc) (fun b o hc e => u.there b o e hc) u.tups u.frzs u.tbls (fun m' hm => by
  obtain ⟨o', es', ep', ho', r'⟩ := hm
  rw [ho] at ho'; cases ho'
  exact ⟨_, es', ep', hL, r'⟩) hok hg
theorem Inv.turned {t' : Nat} {it : Addr} (I : Inv X pins σ H s) (k : ∀ b o, b ≠ it -> s.heap.get? b = some o -> h'.get? b = some o) (hn : H it = none) (hL : it ≠ X.env.locals)
  (h1 : it ∈ X.ex ∨ X.s₀.heap.objs.size <= it) (h2 : ∀ x c, X.env.cells.lookup x = some c -> c ≠ it) (h3 : ∀ p ∈ X.pn ++ pins, p.1 ≠ it) : Inv X pins σ H { s with heap := h', toks := t' } := by
 have nit : ∀ b u, H b = some u -> b ≠ it := fun b u e z => by rw [z, hn] at e; cases e
 refine I.step (g' := s.gens) (d' := s.drawn) (ch := [it]) (fun b hb => ?_) (fun b o _ _ hc e _ => k b o (fun z => hc (by simp [z])) e) (fun b o _ _ hc e _ => ⟨o.slots, k b o (fun z => hc (by simp [z])) e⟩) (fun _ _ _ _ n => n)
  (fun b o hc e => ⟨o, k b o (fun z => hc (by simp [z])) e⟩) (fun _ _ e => e) (fun _ _ _ e => e) (fun b ps e => ⟨#[], by rw [e]; simp⟩) (fun m hm => ?_) (fun b u e => ?_) I.bare
 ·have e : b = it := by simpa using hb
  subst e
  exact ⟨h1, hL, h2, h3⟩
 ·obtain ⟨o, es, ep, ho, r⟩ := hm
  exact ⟨o, es, ep, k _ o (Ne.symm hL) ho, r⟩
 ·refine (I.hok b u e).stay (fun c v hc q => k c v ?_ q) (fun _ q => q) fun _ _ q => q
  rcases hc with z | z
  ·rw [z]; exact nit b u e
  ·exact nit c _ z
theorem Inv.tok (I : Inv X pins σ H s) (t : Nat) : Inv X pins σ H { s with toks := t } := I.un (h' := s.heap) (t' := t) Un.refl I.hok
theorem Inv.kept {t' : Nat} (I : Inv X pins σ H s) (k : ∀ b u, s.heap.get? b = some u -> h'.get? b = some u) : Inv X pins σ H { s with heap := h', toks := t' } := I.un (Un.kept k) (I.hok.kept k)
theorem Inv.laid {a : Addr} {o : HO} {t' : Nat} (I : Inv X pins σ H s) (k : ∀ b u, s.heap.get? b = some u -> h'.get? b = some u) (hp : s.heap.objs.size <= a) (new : aI X.prog X.w (upd H a o) h' a o) :
  Inv X pins σ (upd H a o) { s with heap := h', toks := t' } := I.un (Un.laid k hp (I.hok.fresh hp)) (I.hok.laid k hp new)
theorem Inv.write {x e : Addr} {o : HO} {t' : Nat} (I : Inv X pins σ H s) (mu : Mut (H x)) (he : e = x ∨ H e = some (.own x)) (k : ∀ b u, b ≠ e -> s.heap.get? b = some u -> h'.get? b = some u) (heo : ∃ u, h'.get? e = some u)
  (new : aI X.prog X.w (upd H x o) h' x o) : Inv X pins σ (upd H x o) { s with heap := h', toks := t' } := I.un (Un.write mu he k heo) (I.hok.write mu he k heo new)
theorem Inv.pins_of {pins' : List (Addr × Obj)} (I : Inv X pins σ H s) (h : ∀ p ∈ pins', s.heap.get? p.1 = some p.2 /\ H p.1 = none /\ p.1 ≠ X.env.locals /\ p.1 ∉ X.fs /\ ∀ v, p.2.data ≠ .cell v) : Inv X pins' σ H s :=
 ⟨I.ok, I.os, I.bare, I.base, I.loc, I.cell, I.free, I.freeC, fun p hp => (zA3.mp hp).elim (fun z => I.pin p (List.mem_append_left _ z)) (h p), I.hok, I.len⟩
theorem lW {N : List Str} (hN : N.Nodup) {i j : Nat} {x : Str} (a : N[i]? = some x) (b : N[j]? = some x) : i = j := by
 obtain ⟨h1, e1⟩ := zAI.mp a
 obtain ⟨h2, e2⟩ := zAI.mp b
 exact (List.getElem_inj hN).mp (e1.trans e2.symm)
theorem ku {M : Model} {A : Around} {E : Value -> Shared -> Prop} {i : Nat} {x : Str} {v : V} {u : Value} {Q : Unit -> Shared -> Prop} (I : Inv X pins σ H s) (hN : X.N.Nodup) (hi : X.N[i]? = some x) (hx : Loc X.env.scope x) (r : RelV v u)
  (h : ∀ s', Inv X pins (σ.set i (some v)) H s' -> (∃ a, Heap.SameBut a s.heap s'.heap /\ (a = X.env.locals ∨ X.env.cells.lookup x = some a)) -> Q () s') (hf : X.fn x = true ∨ X.env.scope.names.lookup x = some .local := by first | exact .inl rfl | exact .inr rfl | assumption) : wpAny M A (storeName X.env x u) Q E s := by
 obtain ⟨m, hn, hl⟩ := id I.loc
 have hcls : (X.env.scope.kind == .class || (X.env.scope.kind == .module && X.env.locals != X.env.globals)) = false := by rw [I.ok.kind]; rfl
 have hiσ : i < σ.length := by rw [I.len]; exact (zAI.mp hi).1
 have cne := I.cne
 have tracked : ∀ {a : Addr} {h' : Heap}, (∃ o, s.heap.get? a = some o /\ H a = none) -> Heap.SameBut a s.heap h' -> HOk X.prog X.w H h' := fun {a h'} ha hs b ob e => by
  obtain ⟨_, _, hfree⟩ := ha
  refine (I.hok b ob e).stay (fun c w' hc q => (hs.2 c ?_).trans q) (fun _ q => q) fun _ _ q => q
  rintro rfl
  rcases hc with rfl | hc
  ·rw [hfree] at e; cases e
  ·rw [hfree] at hc; cases hc
 rcases hx with hk | hk
 ·refine wpAny_storeName_local hk hn (fun h' hn' hs => ?_) hcls
  obtain ⟨oL, _, _, hoL, _⟩ := id hn
  refine h _ ⟨I.ok, I.os, I.bare, ⟨fun b o e n hb hx => ?_, fun b o e n hb hx => ?_, I.base.free, fun b o e hx => ?_, I.base.tups, I.base.frzs, I.base.tbls⟩, ⟨_, hn', fun j y v' e1 e2 e3 => ?_⟩, fun y c e => ?_, I.free, I.freeC, fun p hp => ?_, tracked ⟨oL, hoL, I.free⟩ hs, by simpa using I.len⟩ ⟨_, hs, .inl rfl⟩
  ·exact (hs.2 b (zAP (zAH (zAC e) I.ok.above))).trans (I.base.keep b o e n hb hx)
  ·obtain ⟨sl, e1⟩ := I.base.slot b o e n hb hx
   exact ⟨sl, (hs.2 b (zAP (zAH (zAC e) I.ok.above))).trans e1⟩
  ·obtain ⟨o', e1⟩ := I.base.there b o e hx
   exact ⟨o', (hs.2 b (zAP (zAH (zAC e) I.ok.above))).trans e1⟩
  ·by_cases hj : j = i
   ·subst hj
    rw [hi] at e1; cases e1
    rw [zAX hiσ] at e2
    cases e2
    exact ⟨u, r, .inl ⟨hk, by simp⟩⟩
   ·rw [zAL (Ne.symm hj)] at e2
    obtain ⟨u', r', q⟩ := hl j y v' e1 e2 e3
    refine ⟨u', r', ?_⟩
    rcases q with ⟨k, e⟩ | ⟨k, c, e, z⟩
    ·refine .inl ⟨k, ?_⟩
     have : y ≠ x := fun e => hj (lW hN e1 (e ▸ hi))
     simp [this, e]
    ·exact .inr ⟨k, c, e, z.sameBut hs (cne y c e)⟩
  ·obtain ⟨w', z⟩ := I.cell y c e
   exact ⟨w', z.sameBut hs (cne y c e)⟩
  ·obtain ⟨e, n, ne, nf, d⟩ := I.pin p hp
   exact ⟨(hs.2 p.1 ne).trans e, n, ne, nf, d⟩
 ·have hfn : X.fn x = true := by
   rcases hf with z | z
   ·exact z
   ·rw [z] at hk; cases hk
  obtain ⟨c, hc⟩ := I.ok.has x (.inl hk)
  obtain ⟨w', z⟩ := I.cell x c hc
  refine wpAny_storeName_cell I.ok.kind hk hc z (fun h' hc' hs => ?_)
  obtain ⟨oc, hoc, hocd⟩ := id z
  refine h { s with heap := h' } ⟨I.ok, I.os, I.bare, ⟨fun b o e n hb hx => ?_, fun b o e n hb hx => ?_, I.base.free, fun b o e hx => ?_, I.base.tups, I.base.frzs, I.base.tbls⟩, ⟨m, hn.sameBut hs (Ne.symm (cne x c hc)), fun j y v' e1 e2 e3 => ?_⟩, fun y c' e => ?_, I.free, I.freeC, fun p hp => ?_, tracked ⟨oc, hoc, I.freeC x c hc⟩ hs, by simpa using I.len⟩ ⟨c, hs, .inr hc⟩
  ·exact (hs.2 b (zAP (zAH (zAC e) (I.ok.cab x c hfn hc)))).trans (I.base.keep b o e n hb hx)
  ·obtain ⟨sl, e1⟩ := I.base.slot b o e n hb hx
   exact ⟨sl, (hs.2 b (zAP (zAH (zAC e) (I.ok.cab x c hfn hc)))).trans e1⟩
  ·obtain ⟨o', e1⟩ := I.base.there b o e hx
   exact ⟨o', (hs.2 b (zAP (zAH (zAC e) (I.ok.cab x c hfn hc)))).trans e1⟩
  ·by_cases hj : j = i
   ·subst hj
    rw [hi] at e1; cases e1
    rw [zAX hiσ] at e2
    cases e2
    exact ⟨u, r, .inr ⟨.inl hk, c, hc, hc'⟩⟩
   ·rw [zAL (Ne.symm hj)] at e2
    obtain ⟨u', r', q⟩ := hl j y v' e1 e2 e3
    refine ⟨u', r', ?_⟩
    rcases q with q | ⟨k, c', e, z'⟩
    ·exact .inl q
    ·refine .inr ⟨k, c', e, z'.sameBut hs ?_⟩
     rintro rfl
     exact hj (lW hN e1 (I.ok.inj _ _ _ e hc ▸ hi))
  ·by_cases hcc : c' = c
   ·subst hcc; exact ⟨_, hc'⟩
   ·obtain ⟨w2, z2⟩ := I.cell y c' e
    exact ⟨w2, z2.sameBut hs hcc⟩
  ·obtain ⟨e, n, ne, nf, d⟩ := I.pin p hp
   refine ⟨(hs.2 p.1 ?_).trans e, n, ne, nf, d⟩
   intro q
   rw [q, hoc] at e
   have q' : oc = p.2 := zAT e
   exact d w' (by rw [<- q']; exact hocd)
theorem eY {M : Model} {A : Around} {E : Value -> Shared -> Prop} {i : Nat} {x : Str} {v : V} {u : Value} {Q : Unit -> Shared -> Prop} (I : Inv X pins σ H s) (hN : X.N.Nodup) (hi : X.N[i]? = some x) (hx : Loc X.env.scope x) (r : RelV v u)
  (h : ∀ s', Inv X pins (σ.set i (some v)) H s' -> Q () s') (hf : X.fn x = true ∨ X.env.scope.names.lookup x = some .local := by first | exact .inl rfl | exact .inr rfl | assumption) : wpAny M A (storeName X.env x u) Q E s :=
 ku I hN hi hx r (fun s' I' _ => h s' I') hf
theorem Inv.call' {s' : Shared} {ch : List Addr} (I : Inv X pins σ H s) (ho : s'.os = s.os) (u : Un (frs X.stack) ch H H' s.heap s'.heap) (hok : HOk X.prog X.w H' s'.heap) (hg : AllBare s'.gens)
  (hch : ∀ b ∈ ch, (b ∈ X.ex ∨ X.s₀.heap.objs.size <= b) /\ b ≠ X.env.locals /\ (∀ x c, X.env.cells.lookup x = some c -> c ≠ b) /\ ∀ p ∈ X.pn ++ pins, p.1 ≠ b) : Inv X pins σ H' s' := by
 obtain ⟨h', g', d', t', o'⟩ := s'
 have e : o' = s.os := ho
 subst e
 exact I.call (g' := g') (t' := t') (d' := d') u hok hg hch
end
abbrev XK := Value -> Option Addr -> Hp -> Prop
abbrev St := List (Option V)
abbrev VK := V -> Hp -> Prop
abbrev TE := St -> Hp -> VK -> Prop
abbrev TT := St -> Hp -> (Bool -> Hp -> Prop) -> Prop
abbrev TA := St -> Hp -> (List V -> Hp -> Prop) -> Prop
structure Ends where
 nx : St -> Hp -> Prop
 rt : VK
 bk : St -> Hp -> Prop := fun _ _ => False
 ct : St -> Hp -> Prop := fun _ _ => False
abbrev TS := Ends -> St -> Hp -> Prop
def EP (X : Cx) (pins : List (Addr × Obj)) (σ : St) (Q : VK) (u : Value) (s' : Shared) : Prop := ∃ v H', Inv X pins σ H' s' /\ RelV v u /\ Q v H'
def AP (X : Cx) (pins : List (Addr × Obj)) (σ : St) (Q : List V -> Hp -> Prop) (us : List Value) (s' : Shared) : Prop := ∃ vs H', Inv X pins σ H' s' /\ Vals vs us /\ Q vs H'
def SP (X : Cx) (pins : List (Addr × Obj)) (D : Ends) (f : Flow) (s' : Shared) : Prop :=
 match f with
 | .next => ∃ σ' H', Inv X pins σ' H' s' /\ D.nx σ' H'
 | .brk => ∃ σ' H', Inv X pins σ' H' s' /\ D.bk σ' H'
 | .cont => ∃ σ' H', Inv X pins σ' H' s' /\ D.ct σ' H'
 | .ret u => ∃ v σ' H', Inv X pins σ' H' s' /\ RelV v u /\ D.rt v H'
def PE (X : Cx) (e : Expr) (t : TE) : Prop :=
 ∀ (pins : List (Addr × Obj)) (s : Shared) (σ : St) (H : Hp) (Q : VK), Inv X pins σ H s -> t σ H Q -> wpAny (model X.prog X.w) X.A (eval e X.env) (EP X pins σ Q) X.xe s
def PA (X : Cx) (es : List Expr) (t : TA) : Prop :=
 ∀ (pos : Pos) (pins : List (Addr × Obj)) (s : Shared) (σ : St) (H : Hp) (Q : List V -> Hp -> Prop), Inv X pins σ H s -> t σ H Q -> wpAny (model X.prog X.w) X.A (spliced (backTo pos (starEach es X.env))) (AP X pins σ Q) X.xe s
def PS (X : Cx) (st : Stmt) (t : TS) : Prop :=
 ∀ (pins : List (Addr × Obj)) (s : Shared) (σ : St) (H : Hp) (D : Ends), Inv X pins σ H s -> t D σ H -> wpAny (model X.prog X.w) X.A (exec st X.env) (SP X pins D) X.xe s
def PSs (X : Cx) (st : List Stmt) (t : TS) : Prop :=
 ∀ (pins : List (Addr × Obj)) (s : Shared) (σ : St) (H : Hp) (D : Ends), Inv X pins σ H s -> t D σ H -> wpAny (model X.prog X.w) X.A (execs st X.env) (SP X pins D) X.xe s
theorem thn {α : Type} {t : Sem α} {Q Q' : α -> Shared -> Prop} {M : Model} {A : Around} {E : Value -> Shared -> Prop} {s : Shared} (h : wpAny M A t Q E s) (hQ : ∀ a s, Q a s -> Q' a s) : wpAny M A t Q' E s := wpAny_mono h hQ fun _ _ x => x
end L2
namespace L2
open PySem PySem.Spec PyProof.Rows
section
variable {X : Cx}
def vx (i : Nat) : TE := fun σ H Q => ∃ v, σ[i]? = some (some v) /\ Q v H
def tC (v : V) : TE := fun _ H Q => Q v H
theorem dH {i : Nat} {x : Str} {pos : Pos} (hN : X.N[i]? = some x) (hv : Vis X.env.scope x) (hd : (x == ("__debug__" : Str)) = false := by decide) (hcd : (x == ("__classdict__" : Str)) = false := by decide) : PE X (.Name x pos) (vx i) := by
 intro pins s σ H Q I h
 obtain ⟨v, e, h⟩ := h
 obtain ⟨m, hn, hl⟩ := I.loc
 obtain ⟨u, r, l⟩ := hl i x v hN e hv
 have fin : EP X pins σ Q u s := ⟨v, H, I, r, h⟩
 rcases l with ⟨hk, hm⟩ | ⟨hk, c, hc, hcell⟩
 ·exact wpAny_Name (wpAny_loadName_local I.ok.kind hk hn hm fin) hd
 ·rcases hk with hk | hk
  ·exact wpAny_Name (wpAny_loadName_cell I.ok.kind hk hc hcell fin) hd
  ·exact wpAny_Name (wpAny_loadName_free I.ok.kind hk hc hcell fin hcd) hd
theorem vm {i j pos} : PE X (.Constant (.int i) j pos) (tC (.int i)) := fun _ _ _ H _ I h => wpAny_Constant_int ⟨.int i, H, I.tok _, ⟨_, rfl⟩, h⟩
theorem vP {b j pos} : PE X (.Constant (.bool b) j pos) (tC (.bl b)) := fun _ _ _ H _ I h => Constant_bool ⟨.bl b, H, I, rfl, h⟩
theorem vn {j pos} : PE X (.Constant .none j pos) (tC .non) := fun _ _ _ H _ I h => Constant_none ⟨.non, H, I, rfl, h⟩
def Gl (X : Cx) (x : Str) : Prop := X.env.kindOf x = some .globalImplicit
theorem iI {E : Value -> Shared -> Prop} {pins : List (Addr × Obj)} {s : Shared} {σ : St} {H : Hp} {x : Str} {u : Value} {pos : Pos} {Q : Value -> Shared -> Prop} (I : Inv X pins σ H s) (hg : Gl X x) (hm : X.mg x = some u) (h : Q u s)
  (hd : (x == ("__debug__" : Str)) = false := by decide) : wpAny (model X.prog X.w) X.A (eval (.Name x pos) X.env) Q E s :=
 Calls.Name_function_global I.ok.kind hg (Calls.loadGlobal_global (by rw [I.ok.glob]; exact I.mod.glob.keeps I.bk) hm h) hd
theorem dG {E : Value -> Shared -> Prop} {pins : List (Addr × Obj)} {s : Shared} {σ : St} {H : Hp} {x : Str} {u : Value} {pos : Pos} {Q : Value -> Shared -> Prop} (I : Inv X pins σ H s) (hg : Gl X x) (hm : X.mg x = none) (hv : bootBuiltins x = some u) (h : Q u s)
  (hn : x ≠ "__name__" := by decide) (hd : (x == ("__debug__" : Str)) = false := by decide) : wpAny (model X.prog X.w) X.A (eval (.Name x pos) X.env) Q E s := by
 obtain ⟨mb, h1, h2⟩ := I.mod.blt
 exact Calls.Name_function_global I.ok.kind hg (Calls.loadGlobal_builtin (by rw [I.ok.glob]; exact I.mod.glob.keeps I.bk) hm (by rw [I.ok.blt]; exact h1.keeps I.bk) ((h2 x hn).trans hv) h) hd
theorem iK {x : Str} {v : V} {u : Value} {pos : Pos} (hg : Gl X x) (hm : X.mg x = some u) (r : RelV v u) (hd : (x == ("__debug__" : Str)) = false := by decide) : PE X (.Name x pos) (tC v) :=
 fun _ _ _ H _ I h => iI I hg hm ⟨v, H, I, r, h⟩ hd
theorem jW {x : Str} {v : V} {u : Value} {pos : Pos} (hg : Gl X x) (hm : X.mg x = none) (hv : bootBuiltins x = some u) (r : RelV v u) (hn : x ≠ "__name__" := by decide) (hd : (x == ("__debug__" : Str)) = false := by decide) : PE X (.Name x pos) (tC v) :=
 fun _ _ _ H _ I h => dG I hg hm hv ⟨v, H, I, r, h⟩ hn hd
variable {a b : Expr} {ta tb : TE} {pos : Pos}
theorem lV (b : Expr) {op : CmpOp} (h : op ≠ .In) (h2 : op ≠ .NotIn) : behindInMarks op b = false := by
 have e1 : (op == CmpOp.In) = false := by cases op <;> first | rfl | exact absurd rfl h
 have e2 : (op == CmpOp.NotIn) = false := by cases op <;> first | rfl | exact absurd rfl h2
 cases b <;> simp [behindInMarks, e1, e2]
variable {tA tB' : TT} {rest : List Expr}
end
end L2
namespace L2
open PySem PySem.Spec PyProof.Rows
def SqL (K : PySem.W.Frag) (H : Hp) (a : Addr) (xs : List V) : Prop :=
 Rd H a (.lst xs) ∨
  ∃ (o : Obj) (its : Array Value) (n : Nat), K.lookup a = some o /\ o.cls = .type "list" /\ o.dict = none /\ o.data = .seq its n /\ its.size <= sizeLine /\ Vals xs its.toList
def SqT (K : PySem.W.Frag) (H : Hp) (a : Addr) (xs : List V) : Prop :=
 Rd H a (.tup xs) ∨
  ∃ (o : Obj) (its : Array Value) (n : Nat), K.lookup a = some o /\ o.cls = .type "tuple" /\ o.data = .seq its n /\ its.size <= sizeLine /\ Vals xs its.toList
def wc : Value -> Option V
 | .none => some .non
 | .bool b => some (.bl b)
 | .int i _ => some (.int i)
 | .str x _ => some (.str x)
 | .bytes b _ => some (.byt b)
 | .float b _ => some (.flt b)
 | .ref a => some (.ref a)
 | .type n => some (.ty n)
 | _ => none
theorem RelV.abs {x : V} {u : Value} (r : RelV x u) : wc u = some x := by
 cases x with
 | non => cases r; rfl
 | bl _ => cases r; rfl
 | int _ => obtain ⟨t, rfl⟩ := r; rfl
 | str _ => obtain ⟨t, rfl⟩ := r; rfl
 | byt _ => obtain ⟨t, rfl⟩ := r; rfl
 | flt _ => obtain ⟨t, rfl⟩ := r; rfl
 | ref _ => cases r; rfl
 | ty _ => cases r; rfl
theorem RelV.inj {x y : V} {u : Value} (r : RelV x u) (q : RelV y u) : x = y := zAT (r.abs.symm.trans q.abs)
theorem Vals.inj : ∀ {xs ys : List V} {us : List Value}, Vals xs us -> Vals ys us -> xs = ys
 | _, _, _, .nil, .nil => rfl
 | _, _, _, .cons r t, .cons r' t' => by rw [r.inj r', Vals.inj t t']
section
variable {X : Cx} {pins : List (Addr × Obj)} {σ : St} {H : Hp} {s : Shared} {a : Addr} {xs ys : List V}
theorem SqL.of {K : PySem.W.Frag} (h : H a = some (.lst xs)) : SqL K H a xs := .inl (.inl h)
theorem SqT.of {K : PySem.W.Frag} (h : H a = some (.tup xs)) : SqT K H a xs := .inl (.inl h)
theorem Inv.list (I : Inv X pins σ H s) (h : SqL X.K H a xs) : ∃ its : List Value, Vals xs its /\ PlainL s.heap a its.toArray /\ xs.length <= sizeLine := by
 rcases h with h | ⟨o, its, n, hk, hc, hd, hs, hz, r⟩
 ·obtain ⟨z, its, n, r, e⟩ := h.ok I.hok
  exact ⟨its, r, ⟨_, n, e, rfl, rfl, rfl⟩, z⟩
 ·refine ⟨its.toList, r, ⟨o, n, I.kIn a o hk, hc, hd, by simpa using hs⟩, ?_⟩
  have e := r.length
  simp only [zAt] at e
  omega
theorem Inv.tuple (I : Inv X pins σ H s) (h : SqT X.K H a xs) : ∃ its : List Value, Vals xs its /\ IsTup s.heap a its.toArray /\ xs.length <= sizeLine := by
 rcases h with h | ⟨o, its, n, hk, hc, hs, hz, r⟩
 ·obtain ⟨z, its, r, p⟩ := h.ok I.hok
  exact ⟨its, r, p, z⟩
 ·refine ⟨its.toList, r, ⟨o, I.kIn a o hk, hc, n, by simpa using hs⟩, ?_⟩
  have e := r.length
  simp only [zAt] at e
  omega
theorem Inv.list_inj (I : Inv X pins σ H s) (h : SqL X.K H a xs) (h' : SqL X.K H a ys) : xs = ys := by
 obtain ⟨its, r, ⟨o, n, e, _, _, d⟩, _⟩ := I.list h
 obtain ⟨its', r', ⟨o', n', e', _, _, d'⟩, _⟩ := I.list h'
 rw [e] at e'; cases e'
 rw [d] at d'
 injection d' with d1 _
 have : its = its' := by simpa using congrArg Array.toList d1
 subst this
 exact r.inj r'
theorem Inv.tuple_inj (I : Inv X pins σ H s) (h : SqT X.K H a xs) (h' : SqT X.K H a ys) : xs = ys := by
 obtain ⟨its, r, ⟨o, e, _, n, d⟩, _⟩ := I.tuple h
 obtain ⟨its', r', ⟨o', e', _, n', d'⟩, _⟩ := I.tuple h'
 rw [e] at e'; cases e'
 rw [d] at d'
 injection d' with d1 _
 have : its = its' := by simpa using congrArg Array.toList d1
 subst this
 exact r.inj r'
end
abbrev Cx.wish (X : Cx) (E : Value -> Shared -> Prop) : Cx := { X with xe := E }
abbrev Cx.nox (X : Cx) : Cx := X.wish fun _ _ => False
theorem Cx.Ok.wish {X : Cx} (ok : X.Ok) (E : Value -> Shared -> Prop) : (X.wish E).Ok :=
 ⟨ok.mod, ok.kind, ok.glob, ok.blt, ok.above, ok.inj, ok.has, ok.cab, ok.hd, ok.frames, ok.stk, ok.exf, ok.bs, ok.bsz, ok.noex, ok.exfs, ok.funs, ok.frf⟩
theorem Cx.Ok.unwish {X : Cx} {E : Value -> Shared -> Prop} (ok : (X.wish E).Ok) : X.Ok :=
 ⟨ok.mod, ok.kind, ok.glob, ok.blt, ok.above, ok.inj, ok.has, ok.cab, ok.hd, ok.frames, ok.stk, ok.exf, ok.bs, ok.bsz, ok.noex, ok.exfs, ok.funs, ok.frf⟩
section
variable {X : Cx} {pins : List (Addr × Obj)} {σ : St} {H : Hp} {s : Shared} {E : Value -> Shared -> Prop}
theorem Inv.wish (I : Inv X pins σ H s) (E : Value -> Shared -> Prop) : Inv (X.wish E) pins σ H s := ⟨I.ok.wish E, I.os, I.bare, I.base, I.loc, I.cell, I.free, I.freeC, I.pin, I.hok, I.len⟩
theorem Inv.unwish (I : Inv (X.wish E) pins σ H s) : Inv X pins σ H s := ⟨I.ok.unwish, I.os, I.bare, I.base, I.loc, I.cell, I.free, I.freeC, I.pin, I.hok, I.len⟩
end
section
variable {X : Cx} {st : Stmt} {rest : List Stmt} {t u : TS} {e : Expr} {te : TE} {pos : Pos}
def wC (t u : TS) : TS := fun D σ H => t { D with nx := u D } σ H
theorem i4 (h1 : PS X st t) (h2 : PSs X rest u) : PSs X (st :: rest) (wC t u) := by
 intro pins s σ H D I h
 refine wpAny_execs_cons (thn (h1 pins s σ H { D with nx := u D } I h) fun f s1 q => ?_)
 cases f with
 | next =>
  obtain ⟨σ', H', I', q⟩ := q
  exact h2 pins s1 σ' H' D I' q
 | ret v => exact q
 | brk => exact q
 | cont => exact q
theorem nI (h1 : PS X st t) : PSs X [st] t := by
 intro pins s σ H D I h
 refine wpAny_execs_cons (thn (h1 pins s σ H D I h) fun f s1 q => ?_)
 cases f with
 | next => exact wpAny_execs_nil q
 | ret v => exact q
 | brk => exact q
 | cont => exact q
theorem Inv.quiet {pins : List (Addr × Obj)} {σ : St} {H : Hp} {s : Shared} (I : Inv X pins σ H s) : interactive X.env = false := by simp [interactive, I.ok.kind]
def vW (te : TE) : TS := fun D σ H => te σ H fun _ H1 => D.nx σ H1
theorem uj (he : PE X e te) (hs : swapsWith e none pos.line X.env = pure false := by rfl) : PS X (.Expr e pos) (vW te) := by
 intro pins s σ H D I h
 exact wpAny_Expr_any (thn (he pins s σ H _ I h) fun v s1 ⟨x, H1, I1, r1, q1⟩ => ⟨σ, H1, I1, q1⟩) I.quiet hs
end
section
variable {X : Cx} {pos : Pos}
end
section
variable {X : Cx} {pos : Pos}
end
structure It where
 go : Nat -> Hp -> Prop
 yld : Nat -> Hp -> V -> Hp -> Prop
 stop : Nat -> Hp -> Prop
def cJ (X : Cx) (pins : List (Addr × Obj)) (H : Hp) (b : Addr) : Prop :=
 H b = none /\ b ≠ X.env.locals /\ b ∉ X.fs /\ (b ∈ X.ex ∨ X.s₀.heap.objs.size <= b) /\ (∀ x c, X.env.cells.lookup x = some c -> c ≠ b) /\ ∀ p ∈ X.pn ++ pins, p.1 ≠ b
theorem Inv.fpOk {X : Cx} {pins : List (Addr × Obj)} {σ : St} {H H' : Hp} {s : Shared} {b : Addr} (I : Inv X pins σ H s) (hb : s.heap.objs.size <= b) (hn : H' b = none) : cJ X pins H' b := by
 refine ⟨hn, Nat.ne_of_gt (zAH I.lt hb), I.nofs hb, .inr (zAa I.sz hb), fun x c e z => ?_, fun p hp z => ?_⟩
 ·obtain ⟨v, q⟩ := I.cell x c e
  exact absurd (zAH q.lt (by rw [z]; exact hb)) (zAc _)
 ·exact absurd (zAH (zAC (I.pin p hp).1) (by rw [z]; exact hb)) (zAc _)
structure Turn (P : Program) (w : World) (K : PySem.W.Frag) (tg : Expr) (J : It) (fp : List Addr) (it : Addr) (tn : Nat -> Heap -> Prop) : Prop where
 mem : it ∈ fp
 obj : ∀ i h, tn i h -> ∀ b ∈ fp, ∃ o, h.get? b = some o /\ ∀ v, o.data ≠ .cell v
 keep : ∀ i h h', tn i h -> (∀ b ∈ fp, ∀ o, h.get? b = some o -> h'.get? b = some o) -> tn i h'
 item : ∀ (X : Cx), X.prog = P -> X.w = w -> X.K = K -> X.calm = true -> ∀ (i : Nat) (pins : List (Addr × Obj)) (s : Shared) (σ : St) (H : Hp) (E : Value -> Shared -> Prop), Inv X pins σ H s -> (∀ b ∈ fp, cJ X pins H b) -> tn i s.heap -> J.go i H →
  wpAny (model P w) X.A (pyNext (.ref it)) (fun r s1 => ∃ u, r = some u ∧
   wpAny (model P w) X.A (letOwnedTupleGo tg (.ref it) u) (fun _ s2 => ∃ x H', Inv X pins σ H' s2 /\ RelV x u /\ J.yld i H x H' /\ tn (i + 1) s2.heap /\ ∀ b ∈ fp, H' b = none) E s1) E s
 done : ∀ (X : Cx), X.prog = P -> X.w = w -> X.K = K -> X.calm = true -> ∀ (i : Nat) (pins : List (Addr × Obj)) (s : Shared) (σ : St) (H : Hp) (E : Value -> Shared -> Prop), Inv X pins σ H s -> (∀ b ∈ fp, cJ X pins H b) -> tn i s.heap -> J.stop i H →
  wpAny (model P w) X.A (pyNext (.ref it)) (fun r s1 => r = none /\ Inv X pins σ H s1) E s
 self : ∀ (A : Around) (i : Nat) (s : Shared) (Q : Value -> Shared -> Prop) (E : Value -> Shared -> Prop), tn i s.heap -> Q (.ref it) s -> wpAny (model P w) A (pyIter (.ref it)) Q E s
abbrev TI := St -> Hp -> (It -> Hp -> Prop) -> Prop
def PIE (X : Cx) (pins : List (Addr × Obj)) (σ : St) (tg : Expr) (R : It -> Hp -> Prop) (itv : Value) (s2 : Shared) : Prop :=
 ∃ (it : Addr) (fp : List Addr) (tn : Nat -> Heap -> Prop) (J : It) (H' : Hp), itv = .ref it /\ Inv X pins σ H' s2 /\ Turn X.prog X.w X.K tg J fp it tn /\ tn 0 s2.heap /\ (∀ b ∈ fp, cJ X pins H' b) /\ R J H'
def PI (X : Cx) (tg iter : Expr) (wi : TI) : Prop :=
 ∀ (pins : List (Addr × Obj)) (s : Shared) (σ : St) (H : Hp) (R : It -> Hp -> Prop), Inv X pins σ H s -> wi σ H R →
  wpAny (model X.prog X.w) X.A (eval iter X.env) (fun v s1 => wpAny (model X.prog X.w) X.A (pyIter v) (PIE X pins σ tg R) X.xe s1) X.xe s
theorem tw {M : Model} {A : Around} {E : Value -> Shared -> Prop} {s : Shared} {tg : Expr} {it : Addr} {u : Value} {o : Obj} {n : String} {vs : Array Value} {Q : Unit -> Shared -> Prop} (ho : s.heap.get? it = some o) (hc : o.cls = .type n) (hd : o.data = .fields vs)
    (hn : ["enumerate", "zip", "dict_itemiterator", "dict_reverseitemiterator", "odict_iterator", "itertools.zip_longest", "itertools.pairwise"].contains n = false) (hQ : Q () s) : wpAny M A (letOwnedTupleGo tg (.ref it) u) Q E s := by
  unfold letOwnedTupleGo
  cases tg <;> first
    | exact wpAny_pure hQ
    | (cases u <;> first
        | exact wpAny_pure hQ
        | (refine wpAny_bind (wpAny_load ho ?_)
           rw [hc, hd]
           show wpAny M A (if (["enumerate", "zip", "dict_itemiterator", "dict_reverseitemiterator", "odict_iterator", "itertools.zip_longest", "itertools.pairwise"].contains n && vs[0]? == some (rawInt _)) = true then _ else _) Q E s
           rw [if_neg (by intro h; rw [hn, zA5] at h; cases h)]
           exact wpAny_pure hQ))
def Itl (K : PySem.W.Frag) (a : Addr) : It :=
 ⟨fun i H => ∃ xs x, SqL K H a xs /\ xs[i]? = some x, fun i H x H' => H' = H /\ ∀ xs, SqL K H a xs -> xs[i]? = some x, fun i H => ∃ xs, SqL K H a xs /\ xs.length <= i⟩
theorem qS {P : Program} {w : World} {K : PySem.W.Frag} {tg : Expr} (a it : Addr) : Turn P w K tg (Itl K a) [it] it (fun i h => h.IsListIter it a i) where
 mem := by simp
 obj := fun i h st b hb => by
  have e : b = it := by simpa using hb
  subst e
  obtain ⟨o, e, c, d⟩ := st
  exact ⟨o, e, fun v z => by rw [d] at z; cases z⟩
 keep := fun i h h' st k => st.at fun o e => k it (by simp) o e
 item := by
  intro X hP hw hK hc i pins s σ H E I hf st hg
  subst hP hw hK
  obtain ⟨xs, x, hq, hx⟩ := hg
  obtain ⟨its, rv, p, hz⟩ := I.list hq
  obtain ⟨u, hu, ru⟩ := rv.get hx
  obtain ⟨f0, f1, f2, f3, f4, f5⟩ := hf it (by simp)
  refine wpAny_pyNext_list_item st p.isList (x := u) (by simpa using hu) fun h' st' sb => ?_
  have I1 : Inv X pins σ H { s with heap := h' } := I.turned (t' := s.toks) (fun b o hb e => (sb.2 b hb).trans e) f0 f1 f3 f4 f5
  obtain ⟨o, e, c, d⟩ := id st'
  exact ⟨u, rfl, tw (s := { s with heap := h' }) e c d (by decide) ⟨x, H, I1, ru, ⟨rfl, fun ys hy => by rw [I.list_inj hy hq]; exact hx⟩, st', fun b hb => (hf b hb).1⟩⟩
 done := by
  intro X hP hw hK hc i pins s σ H E I hf st hg
  subst hP hw hK
  obtain ⟨xs, hq, hx⟩ := hg
  obtain ⟨its, rv, p, hz⟩ := I.list hq
  obtain ⟨f0, f1, f2, f3, f4, f5⟩ := hf it (by simp)
  have hl := rv.length
  exact wpAny_pyNext_list_end (I.ok.hd hc) st p.isList (by simp; omega) fun h' eb => ⟨rfl, I.turned (t' := s.toks) (fun b o hb e => eb b o hb e) f0 f1 f3 f4 f5⟩
 self := fun _ _ _ _ _ st h => wpAny_pyIter_listiter st h
end L2
namespace L2
open PySem PySem.Spec PyProof.Rows
section
variable {X : Cx} {tg : Expr}
def vF (K : PySem.W.Frag) (tl : TE) : TI := fun σ H R => tl σ H fun x H1 => ∃ a, x = .ref a /\ (∃ xs, SqL K H1 a xs) /\ R (Itl K a) H1
theorem uh {l : Expr} {tl : TE} (hl : PE X l tl) : PI X tg l (vF X.K tl) := by
 intro pins s σ H R I h
 refine thn (hl pins s σ H _ I h) fun v s1 ⟨x, H1, I1, r1, q1⟩ => ?_
 obtain ⟨a, e, ⟨xs, hq⟩, q⟩ := q1
 subst e
 cases r1
 obtain ⟨its, rv, p, hz⟩ := I1.list hq
 refine wpAny_pyIter_list p.isList ?_
 refine ⟨s1.heap.objs.size, [s1.heap.objs.size], _, _, H1, rfl, I1.kept (t' := s1.toks) fun b o e => zAA _ e, qS a _, ⟨_, zAD _ rfl, rfl, rfl⟩, fun b hb => ?_, q⟩
 have e : b = s1.heap.objs.size := by simpa using hb
 subst e
 exact I1.fpOk (zAG _) (I1.hok.fresh (zAG _))
def jw (fp : List Addr) (h : Heap) : List (Addr × Obj) := fp.filterMap fun b => (h.get? b).map fun o => (b, o)
theorem d8 {fp : List Addr} {h : Heap} {b : Addr} {o : Obj} (hb : b ∈ fp) (e : h.get? b = some o) : (b, o) ∈ jw fp h := List.mem_filterMap.mpr ⟨b, hb, by rw [e]; rfl⟩
theorem qK {fp : List Addr} {h : Heap} {p : Addr × Obj} (hp : p ∈ jw fp h) : p.1 ∈ fp /\ h.get? p.1 = some p.2 := by
 obtain ⟨b, hb, e⟩ := List.mem_filterMap.mp hp
 cases q : h.get? b with
 | none => rw [q] at e; cases e
 | some o =>
  rw [q] at e
  have e' : (b, o) = p := zAT e
  subst e'
  exact ⟨hb, q⟩
theorem Inv.pinned {pins : List (Addr × Obj)} {σ : St} {H : Hp} {s : Shared} {fp : List Addr} (I : Inv X pins σ H s) (hf : ∀ b ∈ fp, cJ X pins H b) (ho : ∀ b ∈ fp, ∃ o, s.heap.get? b = some o /\ ∀ v, o.data ≠ .cell v) : Inv X (pins ++ jw fp s.heap) σ H s :=
 I.pins_of fun p hp => (zA3.mp hp).elim (fun z => I.pin p (zAS _ z)) fun z => by
  obtain ⟨hb, e⟩ := qK z
  obtain ⟨f0, f1, f2, _⟩ := hf p.1 hb
  obtain ⟨o, e', d⟩ := ho p.1 hb
  rw [e] at e'; cases e'
  exact ⟨e, f0, f1, f2, d⟩
theorem Inv.unpinned {pins pl : List (Addr × Obj)} {σ : St} {H : Hp} {s : Shared} (I : Inv X (pins ++ pl) σ H s) : Inv X pins σ H s := I.pins_of fun p hp => I.pin p (zAS _ (List.mem_append_left _ hp))
end
end L2
namespace L2
open PySem PySem.Spec PyProof.Rows
abbrev R2 := V -> V -> Hp -> VK -> Prop
def OpR (X : Cx) (f : Value -> Value -> Sem Value) (r : R2) : Prop :=
 ∀ (pins : List (Addr × Obj)) (s : Shared) (σ : St) (H : Hp) (x y : V) (v u : Value) (Q : VK), Inv X pins σ H s -> RelV x v -> RelV y u -> r x y H Q →
  wpAny (model X.prog X.w) X.A (f v u) (EP X pins σ Q) X.xe s
def UnR (X : Cx) (f : Value -> Sem Value) (r : V -> Hp -> VK -> Prop) : Prop :=
 ∀ (pins : List (Addr × Obj)) (s : Shared) (σ : St) (H : Hp) (x : V) (v : Value) (Q : VK), Inv X pins σ H s -> RelV x v -> r x H Q →
  wpAny (model X.prog X.w) X.A (f v) (EP X pins σ Q) X.xe s
def iA (X : Cx) (f : Value) (r : List V -> Hp -> VK -> Prop) : Prop :=
 ∀ (pins : List (Addr × Obj)) (s : Shared) (σ : St) (H : Hp) (xs : List V) (us : List Value) (Q : VK), Inv X pins σ H s -> Vals xs us -> r xs H Q →
  wpAny (model X.prog X.w) X.A (call f us) (EP X pins σ Q) X.xe s
def rI (C : Int -> Int -> Prop) (g : Int -> Int -> V) : R2 := fun x y H Q => ∃ i j, x = .int i /\ y = .int j /\ C i j /\ Q (g i j) H
def rI0 (g : Int -> Int -> V) : R2 := fun x y H Q => ∃ i j, x = .int i /\ y = .int j /\ Q (g i j) H
def rU (g : Int -> V) : V -> Hp -> VK -> Prop := fun x H Q => ∃ i, x = .int i /\ Q (g i) H
section
variable {X : Cx} {a b c : Expr} {ta tb tc : TE} {pos : Pos}
theorem opI {f : Value -> Value -> Sem Value} {C : Int -> Int -> Prop} {g : Int -> Int -> Int}
  (rule : ∀ (i j : Int) (t u : Tok) (s : Shared) (Q : Value -> Shared -> Prop) (E : Value -> Shared -> Prop), C i j -> Q (.int (g i j) s.toks) { s with toks := s.toks + 1 } -> wpAny (model X.prog X.w) X.A (f (.int i t) (.int j u)) Q E s) :
  OpR X f (rI C fun i j => .int (g i j)) := by
 intro pins s σ H x y v u Q I rx ry h
 obtain ⟨i, j, rfl, rfl, hc, q⟩ := h
 obtain ⟨t, rfl⟩ := rx
 obtain ⟨t', rfl⟩ := ry
 exact rule i j t t' s _ _ hc ⟨.int (g i j), H, I.tok _, ⟨_, rfl⟩, q⟩
theorem ve {f : Value -> Value -> Sem Value} {g : Int -> Int -> Int}
  (rule : ∀ (i j : Int) (t u : Tok) (s : Shared) (Q : Value -> Shared -> Prop) (E : Value -> Shared -> Prop), Q (.int (g i j) s.toks) { s with toks := s.toks + 1 } -> wpAny (model X.prog X.w) X.A (f (.int i t) (.int j u)) Q E s) :
  OpR X f (rI0 fun i j => .int (g i j)) := by
 intro pins s σ H x y v u Q I rx ry h
 obtain ⟨i, j, rfl, rfl, q⟩ := h
 obtain ⟨t, rfl⟩ := rx
 obtain ⟨t', rfl⟩ := ry
 exact rule i j t t' s _ _ ⟨.int (g i j), H, I.tok _, ⟨_, rfl⟩, q⟩
theorem sr {f : Value -> Value -> Sem Value} {g : Int -> Int -> Bool}
  (rule : ∀ (i j : Int) (t u : Tok) (s : Shared) (Q : Value -> Shared -> Prop) (E : Value -> Shared -> Prop), Q (.bool (g i j)) s -> wpAny (model X.prog X.w) X.A (f (.int i t) (.int j u)) Q E s) :
  OpR X f (rI0 fun i j => .bl (g i j)) := by
 intro pins s σ H x y v u Q I rx ry h
 obtain ⟨i, j, rfl, rfl, q⟩ := h
 obtain ⟨t, rfl⟩ := rx
 obtain ⟨t', rfl⟩ := ry
 exact rule i j t t' s _ _ ⟨.bl (g i j), H, I, rfl, q⟩
def q9 (i j : Int) : Prop := 0 <= j /\ j <= 1000000 /\ i.natAbs < 2 ^ 64
theorem vf : OpR X (binaryOp .Add) (rI0 fun i j => .int (i + j)) := ve fun _ _ _ _ _ _ _ q => add_int q
theorem vi : OpR X (binaryOp .Sub) (rI0 fun i j => .int (i - j)) := ve fun _ _ _ _ _ _ _ q => sub_int q
theorem ud : OpR X (binaryOp .Mod) (rI (fun _ j => j ≠ 0) fun i j => .int (i.fmod j)) := opI fun _ _ _ _ _ _ _ hc q => mod_int' hc q
theorem vh : OpR X (binaryOp .Pow) (rI q9 fun i j => .int (i ^ j.toNat)) := opI fun _ _ _ _ _ _ _ hc q => pow_int_small hc.1 hc.2.1 hc.2.2 q
theorem unI {f : Value -> Sem Value} {g : Int -> Int}
  (rule : ∀ (i : Int) (t : Tok) (s : Shared) (Q : Value -> Shared -> Prop) (E : Value -> Shared -> Prop), Q (.int (g i) s.toks) { s with toks := s.toks + 1 } -> wpAny (model X.prog X.w) X.A (f (.int i t)) Q E s) :
  UnR X f (rU fun i => .int (g i)) := by
 intro pins s σ H x v Q I rx h
 obtain ⟨i, rfl, q⟩ := h
 obtain ⟨t, rfl⟩ := rx
 exact rule i t s _ _ ⟨.int (g i), H, I.tok _, ⟨_, rfl⟩, q⟩
theorem vz : UnR X (unaryOp .USub) (rU fun i => .int (-i)) := unI fun _ _ _ _ _ q => neg_int q
end
def my : V -> V -> Bool
 | .non, .non => true | .non, .int _ => true | .int _, .non => true | .non, .bl _ => true | .bl _, .non => true | .non, .str _ => true | .str _, .non => true
 | .int _, .int _ => true | .bl _, .bl _ => true | .str _, .str _ => true | .byt _, .byt _ => true
 | .int _, .str _ => true | .str _, .int _ => true | .bl _, .str _ => true | .str _, .bl _ => true
 | _, _ => false
def rEq : R2 := fun x y H Q => my x y = true /\ Q (.bl (decide (x = y))) H
def rNe : R2 := fun x y H Q => my x y = true /\ Q (.bl (!decide (x = y))) H
theorem iD {i j : Int} : decide (V.int i = V.int j) = (i == j) := by
 rw [Bool.eq_iff_iff]
 simp
theorem pT {i j : Bool} : decide (V.bl i = V.bl j) = (i == j) := by
 rw [Bool.eq_iff_iff]
 simp
theorem m7 {i j : Str} : decide (V.str i = V.str j) = (i == j) := by
 rw [Bool.eq_iff_iff]
 simp
theorem m6 {i j : Array UInt8} : decide (V.byt i = V.byt j) = (i.toList == j.toList) := by
 rw [Bool.eq_iff_iff]
 cases i
 cases j
 simp
section
variable {X : Cx} {a b c : Expr} {ta tb tc : TE} {pos : Pos}
theorem aH {pins : List (Addr × Obj)} {σ : St} {H : Hp} {s : Shared} {Q : VK} {k k' : Bool} (I : Inv X pins σ H s) (q : Q (.bl k) H) (e : k = k') : EP X pins σ Q (.bool k') s := by
 subst e
 exact ⟨.bl k, H, I, rfl, q⟩
theorem vK : OpR X (compareOp .Eq) rEq := by
 intro pins s σ H x y v u Q I rx ry h
 obtain ⟨hs, q⟩ := h
 cases x with
 | non =>
  cases rx
  cases y with
  | non => cases ry; exact PySem.EqNone.eq_none_none (aH I q (by simp))
  | bl j => cases ry; exact PySem.EqNone.eq_none_bool (aH I q (by simp))
  | int j => obtain ⟨t', rfl⟩ := ry; exact PySem.EqNone.eq_none_int (aH I q (by simp))
  | str j => obtain ⟨t', rfl⟩ := ry; exact PySem.EqNone.eq_none_str (aH I q (by simp))
  | _ => exact absurd (show false = true from hs) zAE
 | bl i =>
  cases rx
  cases y with
  | non => cases ry; exact PySem.EqNone.eq_bool_none (aH I q (by simp))
  | bl j => cases ry; exact eq_bool (aH I q pT)
  | str j => obtain ⟨t', rfl⟩ := ry; exact PySem.EqMixed.eq_bool_str (aH I q (by simp))
  | _ => exact absurd (show false = true from hs) zAE
 | int i =>
  obtain ⟨t, rfl⟩ := rx
  cases y with
  | non => cases ry; exact PySem.EqNone.eq_int_none (aH I q (by simp))
  | int j => obtain ⟨t', rfl⟩ := ry; exact eq_int (aH I q iD)
  | str j => obtain ⟨t', rfl⟩ := ry; exact PySem.EqMixed.eq_int_str (aH I q (by simp))
  | _ => exact absurd (show false = true from hs) zAE
 | str i =>
  obtain ⟨t, rfl⟩ := rx
  cases y with
  | non => cases ry; exact PySem.EqNone.eq_str_none (aH I q (by simp))
  | bl j => cases ry; exact PySem.EqMixed.eq_str_bool (aH I q (by simp))
  | int j => obtain ⟨t', rfl⟩ := ry; exact PySem.EqMixed.eq_str_int (aH I q (by simp))
  | str j => obtain ⟨t', rfl⟩ := ry; exact eq_str (aH I q m7)
  | _ => exact absurd (show false = true from hs) zAE
 | byt i =>
  obtain ⟨t, rfl⟩ := rx
  cases y with
  | byt j => obtain ⟨t', rfl⟩ := ry; exact PySem.W.eq_bytes (aH I q m6)
  | _ => exact absurd (show false = true from hs) zAE
 | _ => cases y <;> exact absurd (show false = true from hs) zAE
theorem vO : OpR X (compareOp .NotEq) rNe := by
 intro pins s σ H x y v u Q I rx ry h
 obtain ⟨hs, q⟩ := h
 cases x with
 | non =>
  cases rx
  cases y with
  | non => cases ry; exact PySem.EqNone.ne_none_none (aH I q (by simp))
  | bl j => cases ry; exact PySem.EqNone.ne_none_bool (aH I q (by simp))
  | int j => obtain ⟨t', rfl⟩ := ry; exact PySem.EqNone.ne_none_int (aH I q (by simp))
  | str j => obtain ⟨t', rfl⟩ := ry; exact PySem.EqNone.ne_none_str (aH I q (by simp))
  | _ => exact absurd (show false = true from hs) zAE
 | bl i =>
  cases rx
  cases y with
  | non => cases ry; exact PySem.EqNone.ne_bool_none (aH I q (by simp))
  | bl j => cases ry; exact ne_bool (aH I q (congrArg not pT))
  | str j => obtain ⟨t', rfl⟩ := ry; exact PySem.EqMixed.ne_bool_str (aH I q (by simp))
  | _ => exact absurd (show false = true from hs) zAE
 | int i =>
  obtain ⟨t, rfl⟩ := rx
  cases y with
  | non => cases ry; exact PySem.EqNone.ne_int_none (aH I q (by simp))
  | int j => obtain ⟨t', rfl⟩ := ry; exact ne_int (aH I q (congrArg not iD))
  | str j => obtain ⟨t', rfl⟩ := ry; exact PySem.EqMixed.ne_int_str (aH I q (by simp))
  | _ => exact absurd (show false = true from hs) zAE
 | str i =>
  obtain ⟨t, rfl⟩ := rx
  cases y with
  | non => cases ry; exact PySem.EqNone.ne_str_none (aH I q (by simp))
  | bl j => cases ry; exact PySem.EqMixed.ne_str_bool (aH I q (by simp))
  | int j => obtain ⟨t', rfl⟩ := ry; exact PySem.EqMixed.ne_str_int (aH I q (by simp))
  | str j => obtain ⟨t', rfl⟩ := ry; exact ne_str (aH I q (congrArg not m7))
  | _ => exact absurd (show false = true from hs) zAE
 | byt i =>
  obtain ⟨t, rfl⟩ := rx
  cases y with
  | byt j => obtain ⟨t', rfl⟩ := ry; exact PySem.W.ne_bytes (aH I q (congrArg not m6))
  | _ => exact absurd (show false = true from hs) zAE
 | _ => cases y <;> exact absurd (show false = true from hs) zAE
theorem vN : OpR X (compareOp .Lt) (rI0 fun i j => .bl (decide (i < j))) := sr fun _ _ _ _ _ _ _ q => lt_int q
theorem vM : OpR X (compareOp .LtE) (rI0 fun i j => .bl (decide (i <= j))) := sr fun _ _ _ _ _ _ _ q => le_int q
theorem vL : OpR X (compareOp .Gt) (rI0 fun i j => .bl (decide (j < i))) := sr fun _ _ _ _ _ _ _ q => gt_int q
theorem vg : OpR X (compareOp .Is) (fun x y H Q => y = .non /\ Q (.bl (decide (x = .non))) H) := by
 intro pins s σ H x y v u Q I rx ry h
 obtain ⟨rfl, q⟩ := h
 cases ry
 refine is_none_gen (aH I q ?_)
 cases x <;> first
  | (cases rx; rfl)
  | (obtain ⟨t, rfl⟩ := rx; rfl)
theorem lU : (sizeLine : Nat) < 2 ^ 63 := by rw [sizeLine_eq]; decide
theorem vals1 {x : V} {us : List Value} (r : Vals [x] us) : ∃ u, us = [u] /\ RelV x u := by
 cases r with
 | cons r1 r2 => cases r2; exact ⟨_, rfl, r1⟩
theorem vals2 {x y : V} {us : List Value} (r : Vals [x, y] us) : ∃ u w', us = [u, w'] /\ RelV x u /\ RelV y w' := by
 cases r with
 | cons r1 r2 =>
  cases r2 with
  | cons r3 r4 => cases r4; exact ⟨_, _, rfl, r1, r3⟩
theorem pz (hc : X.calm = true) : iA X (.builtin "max") (fun xs H Q => ∃ i j, xs = [.int i, .int j] /\ Q (.int (if j > i then j else i)) H) := by
 intro pins s σ H xs us Q I r h
 obtain ⟨i, j, rfl, q⟩ := h
 obtain ⟨u, w', rfl, ⟨t, rfl⟩, ⟨t', rfl⟩⟩ := vals2 r
 refine max_two_ints (I.ok.hd hc) fun h' tk k => ⟨_, H, I.kept k, ?_, q⟩
 by_cases hj : j > i
 ·rw [if_pos hj, if_pos hj]; exact ⟨_, rfl⟩
 ·rw [if_neg hj, if_neg hj]; exact ⟨_, rfl⟩
end
end L2
namespace L2
open PySem PySem.Spec PyProof.Rows
structure gQ (h : Heap) (x dx C : Addr) (mA : Str -> Option Value) : Prop where
 obj : h.get? x = some (PySem.W.instObj C dx)
 ns : h.Ns1 dx mA
 ne : dx ≠ x
theorem qG {h : Heap} {dx : Addr} {mA : Str -> Option Value} (n : h.Ns1 dx mA) : ∃ od, h.get? dx = some od /\ ∀ name, PySem.W.lookIn name od = some (mA name) := by
 obtain ⟨o, es, ep, ho, hd, hk, _, hm⟩ := n
 refine ⟨o, ho, fun name => ?_⟩
 have e := hm name
 unfold nsFind findBy at e
 rw [<- Array.find?_toList] at e
 unfold PySem.W.lookIn
 rw [hd]
 dsimp only
 split
 ·rename_i y q
  rw [q] at e
  exact congrArg some e
 ·rename_i q
  rw [q] at e
  have a : es.toList.any (·.refKey) = false := by
   rw [List.any_eq_false]
   intro y hy
   obtain ⟨z, t, hkey⟩ := hk y (Array.mem_toList_iff.mp hy)
   simp [DictEntry.refKey, hkey]
  have a' : ¬ es.toList.any (·.refKey) = true := by rw [a]; exact zAE
  rw [if_neg a']
  exact congrArg some e
theorem gQ.look {h : Heap} {x dx C : Addr} {mA : Str -> Option Value} (I : gQ h x dx C mA) : ∃ od, PySem.W.InstAt h x (PySem.W.instObj C dx) C (some od) /\ ∀ name, PySem.W.lookIn name od = some (mA name) :=
 let ⟨od, ho, hl⟩ := qG I.ns
 ⟨od, ⟨I.obj, rfl, rfl, ho⟩, hl⟩
section
variable {prog : Program} {w : World} {A : Around} {E : Value -> Shared -> Prop} {s : Shared} {K : PySem.W.Frag} {x dx C f : Addr} {mA : Str -> Option Value} {name : Str} {v : Value}
theorem get_map {expr : Bool} {Q : Value -> Shared -> Prop} (X : K.In s.heap) (I : gQ s.heap x dx C mA) (hg : PySem.W.plainGet K C name = true) (hh : PySem.W.hasDictIn K C = true)
  (ha : PySem.W.findIn K (.ref C) name = some none) (hv : mA name = some v) (hv' : PySem.W.handedIn v = true) (h : Q v { s with toks := s.toks + 1 }) :
  wpAny (model prog w) A (getAttr (.ref x) name expr) Q E s := by
 obtain ⟨od, J, hl⟩ := I.look
 exact PySem.W.get_value X J (PySem.W.plainGet_of hg).1 (PySem.W.findObj_own hh ha rfl (by rw [hl, hv])) hv' h
theorem rT {pl : Sem Bool} {Q : Value × List Value -> Shared -> Prop} (X : K.In s.heap) (I : gQ s.heap x dx C mA) (hg : PySem.W.plainGet K C name = true)
  (hf : PySem.W.findIn K (.ref C) name = some (some (.ref f))) (ht : PySem.W.isFn K (.ref f) = true) (hv : mA name = none) (h : Q (.ref f, [.ref x]) s) :
  wpAny (model prog w) A (getMethod (.ref x) name pl) Q E s := by
 obtain ⟨od, J, hl⟩ := I.look
 exact PySem.W.method_fn X J (PySem.W.plainGet_of hg).1 (PySem.W.plainGet_of hg).2 hf (beq_iff_eq.mp ht) (by show (PySem.W.lookIn name od).map (·.isSome) = some false; rw [hl, hv]; rfl) h
theorem ur {ns : List Str} {Q : Unit -> Shared -> Prop} (X : K.In s.heap) (I : gQ s.heap x dx C mA)
  (hs : PySem.W.findIn K (.ref C) "__setattr__" = some (some (.builtin "object.__setattr__"))) (hp : PySem.W.plainOver K C = true) (ht : PySem.W.takerIn K C name = some none) (hh : PySem.W.hasDictIn K C = true)
  (hw : PySem.Within mA ns) (hsz : ns.length <= sizeLine)
  (h : ∀ h', gQ h' x dx C (fun y => if y = name then some v else mA y) -> Heap.SameBut dx s.heap h' -> Q () { s with heap := h', toks := s.toks + 2 }) :
  wpAny (model prog w) A (setAttr (.ref x) name v) Q E s := by
 obtain ⟨od, J, hl⟩ := I.look
 refine PySem.W.set_plain X J hs (PySem.W.osa_open (s := { s with toks := s.toks + 1 }) (r := none) X J hp ht fun b => ?_)
 obtain ⟨cd, hc, hd'⟩ := PySem.W.any_some hh
 have hx : s.heap.get? x = some ⟨.ref C, some dx, .plain, #[]⟩ := I.obj
 refine wpAny_bind (wpAny_pure (wpAny_bind (wpAny_bind (wpAny_loadPart hx (wpAny_bind (PySem.W.Looks.here (s := { s with toks := s.toks + 1 }) (PySem.W.looks_clsIn X hc) ?_))))))
 rw [hd']
 refine wpAny_pure (a := some dx) (wpAny_bind (wpAny_pure (wpAny_bind ?_)))
 refine wpAny_nsSet1 (s := { s with toks := s.toks + 1 }) I.ns fun h' hn2 hs2 => ?_
 obtain ⟨oD, esD, epD, hoD, hdD, hcD⟩ := hn2.count (PySem.Within.cons name v hw)
 refine wpAny_bind (wpAny_lookBehind hoD (by rw [hdD]; exact pastItsLine_dict (zAa hcD (by rw [zAh]; omega))) ?_)
 exact wpAny_pure (h _ ⟨(hs2.2 _ (Ne.symm I.ne)).trans I.obj, hn2, I.ne⟩ hs2)
theorem sh {R : Result -> Shared -> Prop} {vs : List Value} {kw : List (Str × Value)} (X : K.In s.heap) (hm : PySem.W.makesIn K C = true)
  (hi : PySem.W.findIn K (.ref C) "__init__" = some (some (.ref f))) (hf : PySem.W.typeIn K (.ref f) = some (.type "function"))
  (h : codeAny (model prog w) (A.under (.builtin "type.__call__" ⟨.ref C :: vs, kw⟩)) (.call (.ref f) ⟨.ref (s.heap.objs.size + 1) :: vs, kw⟩) (PySem.W.InitBack (s.heap.objs.size + 1) R)
   { s with heap := (s.heap.push PySem.W.emptyDict).push (PySem.W.instObj C s.heap.objs.size) }) :
  codeAny (model prog w) A (.call (.ref C) ⟨vs, kw⟩) R s := by
 obtain ⟨hh, g, d, t, os⟩ := s
 exact PySem.W.make_core (PySem.W.makes_of X hm) (PySem.W.looks_findIn X hi) (fun self => PySem.W.bind_fn X self hf) (.inl rfl) h
theorem qH {R : Result -> Shared -> Prop} (X : K.In s.heap) (hm : PySem.W.makesIn K C = true)
  (hi : PySem.W.findIn K (.ref C) "__init__" = some (some (.builtin "object.__init__")))
  (hb : ∀ self, PySem.W.Looks (model prog w) s.heap (bindSpecial (.builtin "object.__init__") self) (.builtin "object.__init__", [self]))
  (h : codeAny (model prog w) (A.under (.builtin "type.__call__" ⟨[.ref C], []⟩)) (.call (.builtin "object.__init__") ⟨[.ref (s.heap.objs.size + 1)], []⟩) (PySem.W.InitBack (s.heap.objs.size + 1) R)
   { s with heap := (s.heap.push PySem.W.emptyDict).push (PySem.W.instObj C s.heap.objs.size) }) :
  codeAny (model prog w) A (.call (.ref C) ⟨[], []⟩) R s := by
 obtain ⟨hh, g, d, t, os⟩ := s
 exact PySem.W.make_core (PySem.W.makes_of X hm) (PySem.W.looks_findIn X hi) hb (.inr ⟨rfl, rfl⟩) h
end
def cz (f : Str) (v : V) : List (Str × V) -> List (Str × V)
 | [] => [(f, v)]
 | (g, x) :: r => if g = f then (g, v) :: r else (g, x) :: cz f v r
theorem iQ (f g : Str) (v : V) : ∀ fs : List (Str × V), (cz f v fs).lookup g = if g = f then some v else fs.lookup g
 | [] => by
  show List.lookup g [(f, v)] = _
  by_cases h : g = f
  ·have hb : (g == f) = true := beq_iff_eq.mpr h
   simp only [List.lookup, hb, if_pos h]
  ·have hb : (g == f) = false := beq_eq_false_iff_ne.mpr h
   simp only [List.lookup, hb, if_neg h]
 | (k, x) :: r => by
  have ih := iQ f g v r
  rw [show cz f v ((k, x) :: r) = (if k = f then (k, v) :: r else (k, x) :: cz f v r) from rfl]
  by_cases hk : k = f
  ·rw [if_pos hk]
   by_cases h : g = k
   ·have hb : (g == k) = true := beq_iff_eq.mpr h
    simp only [List.lookup, hb, if_pos (h.trans hk)]
   ·have hb : (g == k) = false := beq_eq_false_iff_ne.mpr h
    simp only [List.lookup, hb, if_neg (fun e : g = f => h (e.trans hk.symm))]
  ·rw [if_neg hk]
   by_cases h : g = k
   ·have hb : (g == k) = true := beq_iff_eq.mpr h
    simp only [List.lookup, hb, if_neg (fun e : g = f => hk (h.symm.trans e))]
   ·have hb : (g == k) = false := beq_eq_false_iff_ne.mpr h
    simp only [List.lookup, hb]
    exact ih
theorem gY (f : Str) (v : V) : ∀ fs : List (Str × V), f ∈ (cz f v fs).map (·.1) /\ ∀ g, g ∈ fs.map (·.1) -> g ∈ (cz f v fs).map (·.1)
 | [] => ⟨by simp [cz], fun g h => by simp at h⟩
 | (k, x) :: r => by
  obtain ⟨i1, i2⟩ := gY f v r
  rw [show cz f v ((k, x) :: r) = (if k = f then (k, v) :: r else (k, x) :: cz f v r) from rfl]
  by_cases hk : k = f
  ·rw [if_pos hk]
   subst hk
   exact ⟨by simp, fun g h => by simpa using h⟩
  ·rw [if_neg hk]
   refine ⟨?_, fun g h => ?_⟩
   ·rw [zAF]
    exact zAK _ i1
   ·rw [zAF] at h ⊢
    rcases zAN.mp h with e | e
    ·exact zAN.mpr (.inl e)
    ·exact zAK _ (i2 g e)
theorem iP (f : Str) (v : V) : ∀ fs : List (Str × V), (cz f v fs).length <= fs.length + 1
 | [] => by simp [cz]
 | (k, x) :: r => by
  have ih := iP f v r
  rw [show cz f v ((k, x) :: r) = (if k = f then (k, v) :: r else (k, x) :: cz f v r) from rfl]
  by_cases hk : k = f
  ·rw [if_pos hk, zAh, zAh]; omega
  ·rw [if_neg hk, zAh, zAh]; omega
theorem cj.some_of {v : V} {o : Option Value} (r : cj (some v) o) : ∃ u, o = some u /\ RelV v u := by
 cases o with
 | none => exact (show False from r).elim
 | some u => exact ⟨u, rfl, r⟩
theorem cj.none_of {o : Option Value} (r : cj none o) : o = none := by
 cases o with
 | none => rfl
 | some u => exact (show False from r).elim
theorem qm {v : V} {u : Value} (r : RelV v u) : PySem.W.handedIn u = true := by
 cases v with
 | non => cases (show u = Value.none from r); rfl
 | bl b => cases (show u = Value.bool b from r); rfl
 | int i => obtain ⟨t, e⟩ := (show ∃ t, u = Value.int i t from r); cases e; rfl
 | str x => obtain ⟨t, e⟩ := (show ∃ t, u = Value.str x t from r); cases e; rfl
 | byt b => obtain ⟨t, e⟩ := (show ∃ t, u = Value.bytes b t from r); cases e; rfl
 | flt b => obtain ⟨t, e⟩ := (show ∃ t, u = Value.float b t from r); cases e; rfl
 | ref a => cases (show u = Value.ref a from r); rfl
 | ty n => cases (show u = Value.type n from r); rfl
section
variable {P : Program} {w : World} {H H' : Hp} {h h' : Heap} {a C dx : Addr} {fs fs' : List (Str × V)}
theorem jT (hok : HOk P w H h) (e : H a = some (.ins C dx fs)) : ∃ mA, gQ h a dx C mA /\ (∀ f, cj (fs.lookup f) (mA f)) /\ PySem.Within mA (fs.map (·.1)) /\ fs.length <= 1000 /\ H dx = some (.own a) := by
 obtain ⟨d, z, ne, ob, mA, n, r, q⟩ := (show aI P w H h a (.ins C dx fs) from hok a _ e)
 exact ⟨mA, ⟨ob, n, ne⟩, r, q, z, d⟩
end
structure Cls (K : PySem.W.Frag) (C : Addr) : Prop where
 pg : PySem.W.plainGet K C Str.empty = true
 hd : PySem.W.hasDictIn K C = true
 po : PySem.W.plainOver K C = true
 sa : PySem.W.findIn K (.ref C) "__setattr__" = some (some (.builtin "object.__setattr__"))
theorem Cls.get {K : PySem.W.Frag} {C : Addr} (c : Cls K C) (f : Str) : PySem.W.plainGet K C f = true := c.pg
def cg (K : PySem.W.Frag) (C : Addr) (f : Str) : Prop := PySem.W.findIn K (.ref C) f = some none
theorem cg.taker {K : PySem.W.Frag} {C : Addr} {f : Str} (n : cg K C f) : PySem.W.takerIn K C f = some none := by
 unfold PySem.W.takerIn
 rw [show PySem.W.findIn K (.ref C) f = some none from n]
 rfl
structure Con (K : PySem.W.Frag) (C : Addr) (f : Str) (v : V) (u : Value) : Prop where
 at_ : PySem.W.findIn K (.ref C) f = some (some u)
 rel : RelV v u
 get : PySem.W.specialIn K u "__get__" = some none
 cp : PySem.W.copiedNames.contains f = false
structure Meth (K : PySem.W.Frag) (C : Addr) (m : Str) (f : Addr) : Prop where
 at_ : PySem.W.findIn K (.ref C) m = some (some (.ref f))
 fn : PySem.W.isFn K (.ref f) = true
 kp : PySem.W.keepIn K (.ref f) = true
section
variable {X : Cx} {pins : List (Addr × Obj)} {σ : St} {H : Hp} {s : Shared} {a C dx : Addr} {fs : List (Str × V)} {f : Str} {v : V} {A : Around} {E : Value -> Shared -> Prop}
theorem oN {b : Bool} {Q : Value -> Shared -> Prop} (I : Inv X pins σ H s) (e : H a = some (.ins C dx fs)) (c : Cls X.K C) (n : cg X.K C f) (l : fs.lookup f = some v)
  (h : ∀ u s', Inv X pins σ H s' -> RelV v u -> Q u s') : wpAny (model X.prog X.w) A (getAttr (.ref a) f b) Q E s := by
 obtain ⟨mA, O, r, _, _, _⟩ := jT I.hok e
 obtain ⟨u, hu, ru⟩ := cj.some_of (v := v) (o := mA f) (by rw [<- l]; exact r f)
 exact get_map I.kIn O (c.get f) c.hd n hu (qm ru) (h u _ (I.tok _) ru)
theorem ji {m : Str} {g : Addr} {pl : Sem Bool} {Q : Value × List Value -> Shared -> Prop} (I : Inv X pins σ H s) (e : H a = some (.ins C dx fs)) (c : Cls X.K C) (k : Meth X.K C m g) (l : fs.lookup m = none)
  (h : Q (.ref g, [.ref a]) s) : wpAny (model X.prog X.w) A (getMethod (.ref a) m pl) Q E s := by
 obtain ⟨mA, O, r, _, _, _⟩ := jT I.hok e
 have hn : mA m = none := cj.none_of (by rw [<- l]; exact r m)
 exact rT I.kIn O (c.get m) k.at_ k.fn hn h
theorem pb {y : V} {u : Value} {Q : Unit -> Shared -> Prop} (I : Inv X pins σ H s) (e : H a = some (.ins C dx fs)) (c : Cls X.K C) (n : cg X.K C f) (hl : fs.length < 1000) (ry : RelV y u)
  (h : ∀ s', Inv X pins σ (upd H a (.ins C dx (cz f y fs))) s' -> Q () s') : wpAny (model X.prog X.w) A (setAttr (.ref a) f u) Q E s := by
 obtain ⟨mA, O, r, wi, _, ho⟩ := jT I.hok e
 have hz : (fs.map (·.1)).length <= sizeLine := by rw [zAJ, sizeLine_eq]; omega
 refine ur I.kIn O c.sa c.po n.taker c.hd wi hz fun h' O' sb => h _ ?_
 have hd : ∃ o, h'.get? dx = some o := let ⟨o, _, _, e', _⟩ := O'.ns; ⟨o, e'⟩
 refine I.write (x := a) (e := dx) (by rw [e]; exact True.intro) (.inr ho) (fun b q hb z => (sb.2 b hb).trans z) hd ?_
 refine ⟨by rw [aq O.ne]; exact ho, ?_, O.ne, O'.obj, _, O'.ns, fun g => ?_, fun g hg => ?_⟩
 ·have := iP f y fs; omega
 ·show cj ((cz f y fs).lookup g) (if g = f then some u else mA g)
  rw [iQ]
  by_cases q : g = f
  ·rw [if_pos q, if_pos q]; exact ry
  ·rw [if_neg q, if_neg q]; exact r g
 ·by_cases q : g = f
  ·rw [q]; exact (gY f y fs).1
  ·refine (gY f y fs).2 g (wi g fun z => hg ?_)
   show (if g = f then some u else mA g) = none
   rw [if_neg q]; exact z
theorem Inv.made (I : Inv X pins σ H s) : Inv X pins σ (upd (upd H s.heap.objs.size (.own (s.heap.objs.size + 1))) (s.heap.objs.size + 1) (.ins C s.heap.objs.size []))
  { s with heap := (s.heap.push PySem.W.emptyDict).push (PySem.W.instObj C s.heap.objs.size) } := by
 have e1 : (s.heap.push PySem.W.emptyDict).get? s.heap.objs.size = some PySem.W.emptyDict := zAD s.heap rfl
 have e2 : ((s.heap.push PySem.W.emptyDict).push (PySem.W.instObj C s.heap.objs.size)).get? (s.heap.objs.size + 1) = some (PySem.W.instObj C s.heap.objs.size) := by
  have := zAD (s.heap.push PySem.W.emptyDict) (o := PySem.W.instObj C s.heap.objs.size) rfl
  rwa [zAm] at this
 have e3 : (s.heap.push PySem.W.emptyDict).Ns s.heap.objs.size (fun _ => none) := ⟨PySem.W.emptyDict, #[], _, e1, rfl, (fun e he => absurd he (by simp)), fun _ => rfl⟩
 have I1 := I.laid (a := s.heap.objs.size) (o := .own (s.heap.objs.size + 1)) (h' := s.heap.push PySem.W.emptyDict) (t' := s.toks) (fun b u q => zAA _ q) (zAG _) ⟨_, e1⟩
 refine I1.laid (a := s.heap.objs.size + 1) (o := .ins C s.heap.objs.size []) (t' := s.toks) (fun b u q => zAA _ q) (Nat.le_of_eq (zAm _ _)) ?_
 have ne : s.heap.objs.size ≠ s.heap.objs.size + 1 := zAP (Nat.lt_succ_self _)
 refine ⟨by rw [aq ne, ax], zAZ _, ne, e2, fun _ => none, (Heap.Ns1.of_empty e3).at fun o q => zAA _ q, fun _ => True.intro, fun y hy => absurd rfl hy⟩
theorem tM {prog : Program} {w : World} {env : Env} {e : Expr} {f : Str} {pos : Pos} {s : Shared} {Q : Value -> Shared -> Prop} (hb : attributeBase e f env (eval e env) = eval e env)
  (h : wpAny (model prog w) A (eval e env) (fun o s₁ => wpAny (model prog w) A (getAttr o f true) Q E s₁) E s) : wpAny (model prog w) A (eval (.Attribute e f pos) env) Q E s :=
 Attribute_any_ h (by rw [arm_eval_Attribute, hb])
end
def wA (K : PySem.W.Frag) (ta tv : TE) (f : Str) : TS := fun D σ H => tv σ H fun y H1 => ta σ H1 fun x H2 => ∃ a C dx fs, x = .ref a /\ H2 a = some (.ins C dx fs) /\ Cls K C /\ cg K C f /\ fs.length < 1000 ∧
 D.nx σ (upd H2 a (.ins C dx (cz f y fs)))
def uD (X : Cx) (op : Operator) (rd : V -> V -> Hp -> VK -> Prop) : Prop :=
 ∀ (pins : List (Addr × Obj)) (s : Shared) (σ : St) (H : Hp) (x y : V) (u v : Value) (Q : VK), Inv X pins σ H s -> RelV x u -> RelV y v -> rd x y H Q -> wpAny (model X.prog X.w) X.A (inplaceOp op u v) (EP X pins σ Q) X.xe s
section
variable {X : Cx} {o e value : Expr} {f : Str} {pos pos' tpos : Pos} {ta tv : TE}
theorem h8 (ha : PE X o ta) (hv : PE X value tv) (hs : swapsWith value (some (.Attribute o f pos')) pos.line X.env = pure false) : PS X (.Assign [.Attribute o f pos'] value pos) (wA X.K ta tv f) := by
 intro pins s σ H D I h
 refine plainObj_wpAny_Assign_Attribute (thn (hv pins s σ H _ I h) fun u s1 ⟨y, H1, I1, ry, q⟩ => thn (ha pins s1 σ H1 _ I1 q) fun ov s2 ⟨x, H2, I2, rx, a, C, dx, fs, ex, ea, c, n, l, q2⟩ => ?_) hs
 subst ex
 obtain rfl : ov = Value.ref a := rx
 exact pb I2 ea c n l ry fun s3 I3 => ⟨σ, _, I3, q2⟩
def wx : V -> V -> Hp -> VK -> Prop := fun x y H Q => ∃ i j, x = .int i /\ y = .int j /\ Q (.int (i + j)) H
theorem qt : uD X .Add wx := by
 rintro pins s σ H x y u v Q I rx ry ⟨i, j, rfl, rfl, q⟩
 obtain ⟨t, rfl⟩ := (show ∃ t, u = Value.int i t from rx)
 obtain ⟨t', rfl⟩ := (show ∃ t', v = Value.int j t' from ry)
 exact PyProof.Rows.iadd_int ⟨.int (i + j), H, I.tok _, ⟨_, rfl⟩, q⟩
end
section
variable {X : Cx} {pins : List (Addr × Obj)} {σ : St} {H : Hp} {s : Shared} {A : Around} {E : Value -> Shared -> Prop} {Q : Value -> Shared -> Prop} {c : Value} {b : Bool}
inductive eE (K : PySem.W.Frag) (H : Hp) : V -> Value -> Prop where
 | non : eE K H .non (.type "NoneType")
 | bl (x : Bool) : eE K H (.bl x) (.type "bool")
 | int (i : Int) : eE K H (.int i) (.type "int")
 | str (x : Str) : eE K H (.str x) (.type "str")
 | flt (x : UInt64) : eE K H (.flt x) (.type "float")
 | lst {a : Addr} {xs : List V} (e : H a = some (.lst xs)) : eE K H (.ref a) (.type "list")
 | frz {a : Addr} {o : Obj} {xs : List V} (e : H a = some (.frz o (.lst xs))) : eE K H (.ref a) (.type "list")
 | tup {a : Addr} {xs : List V} (e : H a = some (.tup xs)) : eE K H (.ref a) (.type "tuple")
 | dK {a : Addr} {kvs : List (Key × V)} (e : H a = some (.dK kvs)) : eE K H (.ref a) (.type "dict")
 | dT {a : Addr} {kvs : List (List Key × V)} (e : H a = some (.dT kvs)) : eE K H (.ref a) (.type "dict")
 | ins {a C dx : Addr} {fs : List (Str × V)} (e : H a = some (.ins C dx fs)) (cl : Cls K C) (ha : PySem.W.findIn K (.ref C) "__class__" = some (some (.builtin "object.__class__")))
   (hn : PySem.W.specialIn K (.builtin "object.__class__") "__get__" = some (some (.builtin "getset_descriptor.__get__"))) (htk : PySem.W.takesIn K (.builtin "object.__class__") = some true)
   (hm : PySem.W.mroIn K C (.type "object") = some true) : eE K H (.ref a) (.ref C)
end
end L2
namespace L2
open PySem PySem.Spec PyProof.Rows
structure aW (k : Nat) (A : Around) : Prop where
 hd : A.handled = none
 dp : A.depth + 3 * k + 5 < recursionLimit
 un : A.units + 16 * k + 200 < cLine
theorem aW.mono {j k : Nat} {A : Around} (r : aW k A) (h : j <= k) : aW j A := ⟨r.hd, by have := r.dp; omega, by have := r.un; omega⟩
theorem aW.deeper {k : Nat} {A : Around} (r : aW (k + 1) A) (env : Env) : aW k (A.deeper env) :=
 ⟨r.hd, by have := r.dp; show A.depth + 1 + 3 * k + 5 < _; omega, by have := r.un; show A.units + 3 + 16 * k + 200 < _; omega⟩
theorem oR {A : Around} {C : Addr} {us : List Value} {kw : List (Str × Value)} : (A.under (.builtin "type.__call__" ⟨.ref C :: us, kw⟩)).depth = A.depth + 1 := by
 first | rfl | simp [Around.under, Code.weight, Code.isCreation, Code.isGuard, Code.isCaller, Code.frames, Code.isFrame, guardIds]
theorem oS {A : Around} {C : Addr} {us : List Value} {kw : List (Str × Value)} : (A.under (.builtin "type.__call__" ⟨.ref C :: us, kw⟩)).units = A.units + 1 := by
 first | rfl | simp [Around.under, Code.cUnits, Code.frames, Code.isFrame]
theorem aW.make {k : Nat} {A : Around} (r : aW (k + 1) A) (C : Addr) (us : List Value) (kw : List (Str × Value)) : aW k (A.under (.builtin "type.__call__" ⟨.ref C :: us, kw⟩)) :=
 ⟨r.hd, by have := r.dp; rw [oR]; omega, by have := r.un; rw [oS]; omega⟩
theorem aW.depth {k : Nat} {A : Around} (r : aW k A) : A.depth < recursionLimit := by have := r.dp; omega
theorem aW.units {k : Nat} {A : Around} (r : aW k A) : A.units + 64 < cLine := by have := r.un; omega
def j1 : TA := fun _ H Q => Q [] H
def cX (ta : TE) (tr : TA) : TA := fun σ H Q => ta σ H fun x H1 => tr σ H1 fun xs H2 => Q (x :: xs) H2
section
variable {X : Cx} {e : Expr} {es : List Expr} {te : TE} {t : TA} {pos : Pos}
theorem eI : PA X [] j1 := fun _ _ _ _ H Q I h => Calls.spliced_nil ⟨[], H, I, .nil, h⟩
theorem bL (ha : PE X e te) (hr : PA X es t) (hs : starEach (e :: es) X.env = (false, eval e X.env) :: starEach es X.env := by rfl) : PA X (e :: es) (cX te t) := by
 intro pos pins s σ H Q I h
 rw [hs]
 show wpAny _ _ (spliced ((false, eval e X.env) :: backTo pos (starEach es X.env))) _ _ s
 refine Calls.spliced_cons (thn (ha pins s σ H _ I h) fun u s1 ⟨x, H1, I1, r1, q1⟩ => ?_)
 exact thn (hr pos pins s1 σ H1 _ I1 q1) fun us s2 ⟨xs, H2, I2, r2, q2⟩ => ⟨x :: xs, H2, I2, .cons r1 r2, q2⟩
def sJ (t : TA) : TE := fun σ H Q => t σ H fun xs H1 => xs.length <= sizeLine /\ ∀ p, H1 p = none -> Q (.ref p) (upd H1 p (.tup xs))
theorem vo {x1} (h : PA X es t) : PE X (.Tuple es x1 pos) (sJ t) := by
 intro pins s σ H Q I hq
 refine wpAny_Tuple_spliced (thn (h pos pins s σ H _ I hq) fun us s1 ⟨xs, H1, I1, r, z, q⟩ => ⟨by rw [<- r.length]; exact z, ?_⟩)
 have hf : H1 s1.heap.objs.size = none := I1.hok.fresh (zAG _)
 refine ⟨.ref s1.heap.objs.size, upd H1 s1.heap.objs.size (.tup xs), I1.laid (t' := s1.toks) (fun b u e => zAA _ e) (zAG _) ?_, rfl, q _ hf⟩
 exact ⟨z, us, r, ⟨_, zAD _ rfl, rfl, _, rfl⟩⟩
end
abbrev Sp := List V -> Hp -> VK -> XK -> Prop
abbrev CXT := List Env -> Hp -> Shared -> XK -> Value -> Shared -> Prop
structure iW (P : Program) (w : World) (K : PySem.W.Frag) (mg : Str -> Option Value) (base : Heap) (A : Around) (outer : List Env) (s : Shared) (H : Hp) : Prop where
 frames : A.frames = some outer
 mod : Mod K mg base
 bs : ∀ b o, base.get? b = some o -> s.heap.get? b = some o /\ H b = none
 bsz : base.objs.size <= s.heap.objs.size
 funs : s.heap.FunFrames base outer
 frf : ∀ b ∈ frs outer, H b = none
 hok : HOk P w H s.heap
 bare : AllBare s.gens
def CE (outer : List Env) (P : Program) (w : World) (H : Hp) (s : Shared) (Q : VK) (u : Value) (s' : Shared) : Prop :=
 ∃ v H', s'.os = s.os /\ AllBare s'.gens /\ Un (frs outer) [] H H' s.heap s'.heap /\ HOk P w H' s'.heap /\ RelV v u /\ Q v H'
def CR (CX : CXT) (outer : List Env) (P : Program) (w : World) (H : Hp) (s : Shared) (Q : VK) (E : XK) (r : Result) (s' : Shared) : Prop :=
 match r with
 | .ok (.ret u) => CE outer P w H s Q u s'
 | .ok _ => False
 | .error e => CX outer H s E e s'
structure aC (P : Program) (w : World) (K : PySem.W.Frag) (mg : Str -> Option Value) (base : Heap) (CX : CXT) (k : Nat) (f : Addr) (fd : FuncData) (ps : List Str) (sp : Sp) : Prop where
 len : ∀ vs H Q E, sp vs H Q E -> vs.length = ps.length
 run : ∀ (A : Around) (outer : List Env) (s : Shared) (H : Hp) (args : Args) (us : List Value) (vs : List V) (Q : VK) (E : XK), aW k A -> iW P w K mg base A outer s H -> BindsTo s fd args (ps.zip us) -> Vals vs us -> sp vs H Q E →
  codeAny (model P w) A (.call (.ref f) args) (CR CX outer P w H s Q E) s
theorem iW.make {P : Program} {w : World} {K : PySem.W.Frag} {mg : Str -> Option Value} {base : Heap} {A : Around} {outer : List Env} {s : Shared} {H : Hp} (e : iW P w K mg base A outer s H) (C : Addr) (us : List Value) (kw : List (Str × Value)) :
  iW P w K mg base (A.under (.builtin "type.__call__" ⟨.ref C :: us, kw⟩)) outer s H := ⟨by first | exact e.frames | (simpa [Around.under, Code.envs, Code.isFrame, pushEnvs] using e.frames), e.mod, e.bs, e.bsz, e.funs, e.frf, e.hok, e.bare⟩
section
variable {X : Cx} {pins : List (Addr × Obj)} {σ : St} {H : Hp} {s s' : Shared}
theorem Inv.env0 (I : Inv X pins σ H s) : iW X.prog X.w X.K X.mg X.base X.A X.stack s H :=
 ⟨I.ok.frames, I.ok.mod, I.bs, zAa I.ok.bsz I.sz, I.stack, I.stkFree, I.hok, I.bare⟩
theorem Inv.after {Q : VK} {u : Value} (I : Inv X pins σ H s) (h : CE X.stack X.prog X.w H s Q u s') : EP X pins σ Q u s' := by
 obtain ⟨v, H', os, bare, un, hok, r, q⟩ := h
 obtain ⟨hh, g, d, t, os'⟩ := s'
 obtain rfl : os' = s.os := os
 exact ⟨v, H', I.call (h' := hh) (g' := g) (d' := d) (t' := t) (ch := []) un hok bare (fun b z => absurd z (by simp)), r, q⟩
end
def Binds (K : PySem.W.Frag) (fd : FuncData) (ps : List Str) (ds : List Value) : Prop :=
 ∀ (s : Shared) (us : List Value), K.In s.heap -> (us ++ ds).length = ps.length -> BindsTo s fd ⟨us, []⟩ (ps.zip (us ++ ds))
theorem Binds.all {K : PySem.W.Frag} {fd : FuncData} {ps : List Str} (h : ∀ us : List Value, us.length = ps.length -> bindArgs fd ⟨us, []⟩ = pure (ps.zip us)) : Binds K fd ps [] := fun s us _ hl => by
 rw [zAd] at hl ⊢
 exact .of_eq (h us hl)
def Passes (CX : CXT) (X : Cx) (E : XK) : Prop := ∀ (pins : List (Addr × Obj)) (σ : St) (H : Hp) (s : Shared) (e : Value) (s' : Shared), Inv X pins σ H s -> CX X.stack H s E e s' -> X.xe e s'
section
variable {X : Cx} {CX : CXT} {k : Nat} {f C : Addr} {fd : FuncData} {ps : List Str} {sp : Sp} {dvs : List V} {ds : List Value} {E : XK} {x m : Str} {p pos apos : Pos} {e o : Expr} {es : List Expr} {ta : TE} {t : TA}
theorem vt {pins : List (Addr × Obj)} {σ : St} {H : Hp} {s : Shared} {Q : VK} {us : List Value} {vs : List V} (F : aC X.prog X.w X.K X.mg X.base CX k f fd ps sp) (hr : aW k X.A) (hb : Binds X.K fd ps ds) (hd : Vals dvs ds) (hx : Passes CX X E)
  (I : Inv X pins σ H s) (r : Vals vs us) (h : sp (vs ++ dvs) H Q E) : wpAny (model X.prog X.w) X.A (call (.ref f) us) (EP X pins σ Q) X.xe s := by
 have r2 : Vals (vs ++ dvs) (us ++ ds) := r.append hd
 have hl : (us ++ ds).length = ps.length := by rw [<- r2.length]; exact F.len _ _ _ _ h
 refine wpAny_call (codeAny_mono (F.run X.A X.stack s H ⟨us, []⟩ (us ++ ds) (vs ++ dvs) Q E hr I.env0 (hb s us I.kIn hl) r2 h) fun r s' hq => ?_)
 cases r with
 | error e => exact hx pins σ H s e s' I hq
 | ok fl =>
  cases fl with
  | ret u => exact I.after hq
  | next => exact False.elim hq
  | brk => exact False.elim hq
  | cont => exact False.elim hq
structure Mk (K : PySem.W.Frag) (C f : Addr) : Prop where
 makes : PySem.W.makesIn K C = true
 init : PySem.W.findIn K (.ref C) "__init__" = some (some (.ref f))
 fn : PySem.W.isFn K (.ref f) = true
 kp : PySem.W.keepIn K (.ref C) = true
theorem sC {pins : List (Addr × Obj)} {σ : St} {H : Hp} {s : Shared} {Q : VK} {us : List Value} {vs : List V} (M : Mk X.K C f) (F : aC X.prog X.w X.K X.mg X.base CX k f fd ps sp) (hr : aW (k + 1) X.A) (hb : Binds X.K fd ps ds) (hd : Vals dvs ds)
  (hx : Passes CX X E) (I : Inv X pins σ H s) (r : Vals vs us)
  (h : ∀ x dx, H x = none -> H dx = none -> dx ≠ x -> sp (.ref x :: (vs ++ dvs)) (upd (upd H dx (.own x)) x (.ins C dx [])) (fun v H2 => v = .non /\ Q (.ref x) H2) E) :
  wpAny (model X.prog X.w) X.A (call (.ref C) us) (EP X pins σ Q) X.xe s := by
 have hq := h (s.heap.objs.size + 1) s.heap.objs.size (I.hok.fresh (Nat.le_succ _)) (I.hok.fresh (zAG _)) (zAP (Nat.lt_succ_self _))
 have I2 := Inv.made (C := C) I
 have r2 : Vals (V.ref (s.heap.objs.size + 1) :: (vs ++ dvs)) (Value.ref (s.heap.objs.size + 1) :: (us ++ ds)) := .cons rfl (r.append hd)
 have hl : (Value.ref (s.heap.objs.size + 1) :: us ++ ds).length = ps.length := by
  have e := r2.length
  rw [F.len _ _ _ _ hq] at e
  exact e.symm
 refine wpAny_call (sh (f := f) I.kIn M.makes M.init (beq_iff_eq.mp M.fn) (codeAny_mono (F.run _ X.stack _ _ ⟨Value.ref (s.heap.objs.size + 1) :: us, []⟩ (Value.ref (s.heap.objs.size + 1) :: (us ++ ds)) _ _ E (hr.make C us [])
  (I2.env0.make C us []) (hb _ (Value.ref (s.heap.objs.size + 1) :: us) I2.kIn hl) r2 hq) fun r s' hq' => ?_))
 cases r with
 | error e => exact hx pins σ _ _ e s' I2 hq'
 | ok fl =>
  cases fl with
  | ret u =>
   obtain ⟨v, H', I3, rv, ev, q3⟩ := I2.after hq'
   subst ev
   exact ⟨rv, ⟨V.ref (s.heap.objs.size + 1), H', I3, rfl, q3⟩⟩
  | next => exact False.elim hq'
  | brk => exact False.elim hq'
  | cont => exact False.elim hq'
end
section
variable {X : Cx} {CX : CXT} {k : Nat} {f C : Addr} {fd : FuncData} {ps ks : List Str} {sp : Sp} {E : XK} {x m : Str} {p pos apos kpos : Pos} {e o : Expr} {es : List Expr} {kws : List Keyword} {te ta : TE} {t tk : TA} {nm : Option Str}
structure ph (K : PySem.W.Frag) (fd : FuncData) (ps ks : List Str) (g : List Value -> List Value -> List Value) (gV : List V -> List V -> List V) : Prop where
 to : ∀ (s : Shared) (us ws : List Value), K.In s.heap -> (g us ws).length = ps.length -> BindsTo s fd ⟨us, ks.zip ws⟩ (ps.zip (g us ws))
 rel : ∀ {vs : List V} {us : List Value} {zs : List V} {ws : List Value}, Vals vs us -> Vals zs ws -> Vals (gV vs zs) (g us ws)
variable {g : List Value -> List Value -> List Value} {gV : List V -> List V -> List V}
end
structure ay (N P : List Str) (sc : Scope) : Prop where
 kind : sc.kind = .function
 co : sc.isCoroutine = false
 gen : sc.isGenerator = false
 nd : N.Nodup
 pre : N.take P.length = P
 par : ∀ x ∈ P, sc.names.lookup x = some .local ∨ sc.names.lookup x = some .cell
 nofree : ∀ y ∈ sc.names, y.2 ≠ .free
theorem j5 {kindOf : Str -> Option NameKind} {x : Str} : ∀ {binds : List (Str × Value)} {m : Str -> Option Value}, (∀ v, (x, v) ∉ binds) -> bindL kindOf binds m x = m x
 | [], _, _ => rfl
 | (n, v) :: r, m, h => by
  unfold bindL
  rw [j5 fun w hw => h w (zAK _ hw)]
  split
  ·have : x ≠ n := by rintro rfl; exact h v zAO
   simp [this]
  ·rfl
theorem j3 {kindOf : Str -> Option NameKind} {x : Str} : ∀ {binds : List (Str × Value)} {m : Str -> Option Value}, (∀ v, (x, v) ∉ binds) -> bindC kindOf binds m x = m x
 | [], _, _ => rfl
 | (n, v) :: r, m, h => by
  unfold bindC
  rw [j3 fun w hw => h w (zAK _ hw)]
  split
  ·rfl
  ·have : x ≠ n := by rintro rfl; exact h v zAO
   simp [this]
theorem j4 {kindOf : Str -> Option NameKind} {x : Str} {v : Value} : ∀ {P : List Str} {vs : List Value} {i : Nat} {m : Str -> Option Value}, P.Nodup -> P[i]? = some x -> vs[i]? = some v -> kindOf x = some .local →
  bindL kindOf (P.zip vs) m x = some v
 | [], _, _, _, _, h, _, _ => by simp at h
 | _ :: _, [], _, _, _, _, h, _ => by simp at h
 | p :: P, w :: vs, 0, m, nd, h1, h2, hk => by
  simp at h1 h2; subst h1; subst h2
  show bindL kindOf ((p, w) :: P.zip vs) m p = _
  unfold bindL
  rw [j5 fun v hv => (List.nodup_cons.mp nd).1 (List.of_mem_zip hv).1, if_pos hk]
  simp
 | p :: P, w :: vs, i + 1, m, nd, h1, h2, hk => by
  show bindL kindOf ((p, w) :: P.zip vs) m x = _
  unfold bindL
  exact j4 (i := i) (List.nodup_cons.mp nd).2 (by simpa using h1) (by simpa using h2) hk
theorem j2 {kindOf : Str -> Option NameKind} {x : Str} {v : Value} : ∀ {P : List Str} {vs : List Value} {i : Nat} {m : Str -> Option Value}, P.Nodup -> P[i]? = some x -> vs[i]? = some v -> kindOf x ≠ some .local →
  bindC kindOf (P.zip vs) m x = some v
 | [], _, _, _, _, h, _, _ => by simp at h
 | _ :: _, [], _, _, _, _, h, _ => by simp at h
 | p :: P, w :: vs, 0, m, nd, h1, h2, hk => by
  simp at h1 h2; subst h1; subst h2
  show bindC kindOf ((p, w) :: P.zip vs) m p = _
  unfold bindC
  rw [j3 fun v hv => (List.nodup_cons.mp nd).1 (List.of_mem_zip hv).1, if_neg hk]
  simp
 | p :: P, w :: vs, i + 1, m, nd, h1, h2, hk => by
  show bindC kindOf ((p, w) :: P.zip vs) m x = _
  unfold bindC
  exact j2 (i := i) (List.nodup_cons.mp nd).2 (by simpa using h1) (by simpa using h2) hk
def start (N : List Str) (vs : List V) : St := vs.map some ++ List.replicate (N.length - vs.length) none
def bQ (CX : CXT) (P : Program) (w : World) (K : PySem.W.Frag) (mg : Str -> Option Value) (base : Heap) (N : List Str) (qual : Str) (scope : Scope) (f : Addr) (cd : Value) (A : Around) (outer : List Env) (s : Shared) (H : Hp) (E : XK) : Cx where
 prog := P
 w := w
 K := K
 mg := mg
 base := base
 A := A.deeper (envOfC qual scope s.heap.objs.size f cd)
 N := N
 s₀ := s
 H₀ := H
 env := envOfC qual scope s.heap.objs.size f cd
 outer := outer
 stack := envOfC qual scope s.heap.objs.size f cd :: outer
 ex := []
 calm := true
 fn := fun _ => true
 pn := []
 xe := fun e s' => wpAny (model P w) (A.deeper (envOfC qual scope s.heap.objs.size f cd)) (leaving (envOfC qual scope s.heap.objs.size f cd) e) (fun _ s'' => CX outer H s E e s'') (fun e' s'' => CX outer H s E e' s'') s'
theorem lb {sc : Scope} {n : Nat} {x : Str} (h : sc.names.lookup x = some .cell) : ∃ c, (cellsFrom n sc.names []).lookup x = some c := by
 have q := PySem.W.cellsFrom_some sc.names n [] (.inl h)
 exact Option.isSome_iff_exists.mp q
theorem qx {CX : CXT} {P : Program} {w : World} {K : PySem.W.Frag} {mg : Str -> Option Value} {base : Heap} {N ps : List Str} {qual : Str} {scope : Scope} {f : Addr} {cd : Value} {A : Around} {outer : List Env} {s s1 : Shared} {H : Hp} {E : XK} {us : List Value} {vs : List V}
  (S : ay N ps scope) (hd : A.handled = none) (e0 : iW P w K mg base A outer s H) (hl : vs.length = ps.length) (r : Vals vs us)
  (x : InCallC s s.heap.objs.size (bindL (envOfC qual scope s.heap.objs.size f cd).kindOf (ps.zip us) fun _ => none) (cellsFrom (s.heap.objs.size + 1) scope.names []) (bindC (envOfC qual scope s.heap.objs.size f cd).kindOf (ps.zip us) fun _ => none) s1) :
  Inv (bQ CX P w K mg base N qual scope f cd A outer s H E) [] (start N vs) H s1 := by
 have hpl : ps.length <= N.length := by have := congrArg List.length S.pre; rw [zAs] at this; omega
 obtain ⟨h1, tk, rfl, hk⟩ := x.done
 have noA : ∀ b : Addr, b ∉ (bQ CX P w K mg base N qual scope f cd A outer s H E).ex := fun b z => absurd (show b ∈ ([] : List Addr) from z) (by simp)
 refine ⟨⟨e0.mod, S.kind, rfl, rfl, zAG _, fun y z c h1 h2 => ?_, fun y hy => ?_, fun y c _ h => ?_, fun _ => hd, Around.frames_deeper e0.frames, .inr ⟨rfl, rfl⟩, fun b z => absurd z (noA b), e0.bs, e0.bsz, fun b _ _ => noA b, fun b z => absurd z (noA b), e0.funs, e0.frf⟩,
  rfl, e0.bare, Un.kept hk, ⟨_, x.toInCall.ns, fun i y v h1 h2 h3 => ?_⟩, fun y c h => ⟨_, x.cell y c h⟩, e0.hok.fresh (zAG _), fun y c h => ?_, fun p hp => absurd (show p ∈ ([] : List (Addr × Obj)) from hp) (by simp), e0.hok.kept hk, ?_⟩
 ·exact name_of_addr x.apart (PySem.mem_of_lookup h1) (PySem.mem_of_lookup h2)
 ·have hy : scope.names.lookup y = some .cell ∨ scope.names.lookup y = some .free := hy
  rcases hy with hy | hy
  ·exact lb hy
  ·exact absurd rfl (S.nofree _ (PySem.mem_of_lookup hy))
 ·exact Nat.le_of_lt (x.above y c (PySem.mem_of_lookup h))
 ·have hi : i < vs.length := by
   unfold start at h2
   by_cases hi : i < vs.length
   ·exact hi
   ·rw [zAV (by simpa using hi)] at h2
    rw [zAl] at h2
    split at h2 <;> cases h2
  have ha : vs[i]? = some v := by
   unfold start at h2
   rw [zAe (by simpa using hi), zAQ] at h2
   cases e : vs[i]? with
   | none => rw [e] at h2; cases h2
   | some a => rw [e] at h2; cases h2; rfl
  obtain ⟨u, hu, rv⟩ := r.get ha
  have hp : ps[i]? = some y := by
   rw [<- S.pre, List.getElem?_take_of_lt (by omega)]; exact h1
  have ndP : ps.Nodup := by rw [<- S.pre]; exact S.nd.sublist (List.take_sublist _ _)
  refine ⟨u, rv, ?_⟩
  rcases S.par y (zAM hp) with k | k
  ·exact .inl ⟨k, j4 ndP hp hu k⟩
  ·obtain ⟨c, e⟩ := lb (n := s.heap.objs.size + 1) k
   refine .inr ⟨.inl k, c, e, ?_⟩
   have q := x.cell y c e
   rw [j2 ndP hp hu (by show scope.names.lookup y ≠ _; rw [k]; decide)] at q
   exact q
 ·exact e0.hok.fresh (Nat.le_of_lt (x.above y c (PySem.mem_of_lookup h)))
 ·unfold start
  show _ = N.length
  rw [zAg, zAJ, List.length_replicate]
  omega
theorem oJ {CX : CXT} {P : Program} {w : World} {K : PySem.W.Frag} {mg : Str -> Option Value} {base : Heap} {k : Nat} {f : Addr} {name qual : Str} {params : Arguments} {body : List Stmt} {scope : Scope} {dV kV doc pm cdv ct oc : Value} {an od : Option Addr}
  {osl : Array (Option Value)} {N ps : List Str} {sp : Sp} (lk : K.lookup f = some ⟨oc, od, .func (PySem.W.fnOf name qual params body scope dV kV doc pm an cdv ct), osl⟩) (hcd : PySem.W.codeIn K cdv qual = true) (S : ay N ps scope)
  (len : ∀ vs H Q E, sp vs H Q E -> vs.length = ps.length)
  (hbody : ∀ (A : Around) (outer : List Env) (s : Shared) (H : Hp) (vs : List V) (Q : VK) (E : XK), aW k (A.deeper (envOfC qual scope s.heap.objs.size f cdv)) -> sp vs H Q E →
   ∃ t, PSs (bQ CX P w K mg base N qual scope f cdv A outer s H E) body t /\ t { nx := fun _ H' => Q .non H', rt := Q } (start N vs) H) :
  aC P w K mg base CX (k + 1) f (PySem.W.fnOf name qual params body scope dV kV doc pm an cdv ct) ps sp := by
 refine ⟨len, fun A outer s H args us vs Q E hr e0 hb r hsp => ?_⟩
 have hl := len _ _ _ _ hsp
 have KX : K.In s.heap := e0.mod.kin.keeps fun b o e => (e0.bs b o e).1
 have lim : s.heap.NoLimit := e0.mod.nolimit.keeps fun b o e => (e0.bs b o e).1
 have hkind : ∀ y ∈ ps.zip us, scope.names.lookup y.1 = some .local ∨ (scope.names.lookup y.1 = some .cell /\ ((cellsFrom (s.heap.objs.size + 1) scope.names []).lookup y.1).isSome = true) := fun ⟨n, v⟩ hy => by
  rcases S.par n (List.of_mem_zip hy).1 with q | q
  ·exact .inl q
  ·exact .inr ⟨q, PySem.W.cellsFrom_some _ _ _ (.inl q)⟩
 refine codeAny_call_function hr.depth (KX _ _ lk) rfl S.co S.gen rfl (PySem.W.codeRec_of KX hcd) (hb _ _ _ _ ?_)
 refine wpAny_newFunctionEnv_cells S.kind hkind fun env he s1 x => ?_
 subst he
 refine ⟨lim.keeps x.toInCall.keep, codeAny_func ?_⟩
 obtain ⟨t, ht, hq⟩ := hbody A outer s H vs Q E (hr.deeper _) hsp
 have I : Inv (bQ CX P w K mg base N qual scope f cdv A outer s H E) [] (start N vs) H s1 := qx S hr.hd e0 hl r x
 refine wpAny_mono (ht [] s1 (start N vs) H _ I hq) (fun fl s' hs => ?_) fun e s' hs => hs
 have fin : ∀ {σ' : St} {H' : Hp} {v : V} {u : Value}, Inv (bQ CX P w K mg base N qual scope f cdv A outer s H E) [] σ' H' s' -> RelV v u -> Q v H' -> CE outer P w H s Q u s' :=
  fun {σ' H' v u} J rv q => ⟨v, H', J.os, J.bare, J.base, J.hok, rv, q⟩
 cases fl with
 | ret u =>
  obtain ⟨v, σ', H', J, rv, q⟩ := hs
  exact fin J rv q
 | next =>
  obtain ⟨σ', H', J, q⟩ := hs
  exact fin (v := V.non) (u := Value.none) J rfl q
 | brk =>
  obtain ⟨_, _, _, q⟩ := hs
  exact False.elim q
 | cont =>
  obtain ⟨_, _, _, q⟩ := hs
  exact False.elim q
end L2
namespace L2
open PySem PySem.Spec PyProof.Rows
section
variable {X : Cx} {x : Str} {p pos : Pos} {e : Expr} {es : List Expr} {t : TA} {id T : String} {r : List V -> Hp -> VK -> Prop}
def tCB (r : List V -> Hp -> VK -> Prop) (t : TA) : TE := fun σ H Q => t σ H fun vs H1 => r vs H1 Q
theorem kr (hc : iA X (.type T) r) (hg : Gl X x) (hm : X.mg x = none) (hv : bootBuiltins x = some (.type T)) (ha : PA X (e :: es) t) (hn : x ≠ "__name__" := by decide) (hdb : (x == ("__debug__" : Str)) = false := by decide)
  (he : starEach (e :: es) X.env = (false, eval e X.env) :: starEach es X.env := by rfl) (hpl : (backTo pos (starEach es X.env)).any (·.1) = false := by rfl) : PE X (.Call (.Name x p) (e :: es) [] pos) (tCB r t) := by
 intro pins s σ H Q I h
 refine wpAny_Call_Name_kw (dG I hg hm hv ?_ hn hdb)
 exact PyProof.Rows.callWith_type1 (thn (ha pos pins s σ H _ I h) fun us s1 ⟨vs, H1, I1, r1, q1⟩ => hc pins s1 σ H1 vs us Q I1 r1 q1) he hpl
end
end L2
namespace HT
open PySem PyProof.Rows
section
open PySem.SeqAt
open PySem.AutoSeq1 (wpAny_loadPart')
open PySem.MeetsSeq PySem.MeetsSeq2 PySem.MeetsSeq3
end
section
variable {prog : Program} {w : World} {A : Around} {E : Value -> Shared -> Prop} {s : Shared}
def sIx (n d : Nat) : Option Int -> Nat
 | none => d
 | some v => if v < 0 then (v + (n : Int)).toNat else min v.toNat n
theorem nO (n d k : Nat) : sIx n d (some (k : Int)) = min k n := by
 show (if (k : Int) < 0 then ((k : Int) + (n : Int)).toNat else min (k : Int).toNat n) = min k n
 rw [if_neg (by omega), zAy]
end
end HT
namespace L2
open PySem PySem.Spec PyProof.Rows
abbrev TO := St -> Hp -> (Option Int -> Hp -> Prop) -> Prop
theorem intsAre_of {ns : List Int} : ∀ {us : List Value}, Vals (ns.map V.int) us -> IntsAre us ns := by
 induction ns with
 | nil => intro us r; rw [zAi] at r; cases r; exact .nil
 | cons n ns ih =>
  intro us r
  rw [zAF] at r
  cases r with
  | cons r1 r2 =>
   obtain ⟨t, e⟩ := r1
   subst e
   exact .cons n t (ih r2)
section
variable {X : Cx} {e : Expr} {te : TE} {lo hi : Option Expr} {tl th : TO} {pos p2 : Pos}
def jG (xs : List V) (lo hi : Option Int) : List V := (xs.drop (HT.sIx xs.length 0 lo)).take (HT.sIx xs.length xs.length hi - HT.sIx xs.length 0 lo)
theorem mH (xs : List V) (lo hi : Option Int) : (jG xs lo hi).length <= xs.length := by
 unfold jG
 rw [zAs, List.length_drop]
 omega
end
end L2
namespace L2
open PySem PySem.Spec PyProof.Rows
def ixN (n : Nat) (i : Int) : Option Nat := if 0 <= i then (if i < n then some i.toNat else none) else if -(n : Int) <= i then some (i + n).toNat else none
def atI {α : Type} (xs : List α) (i : Int) : Option α := (ixN xs.length i).bind fun j => xs[j]?
theorem tW {n : Nat} {i : Int} {j : Nat} (h : ixN n i = some j) : seqIndex? i n = some j /\ j < n /\ -(n : Int) <= i /\ i < n := by
 unfold ixN at h
 by_cases h0 : 0 <= i
 ·rw [if_pos h0] at h
  by_cases h1 : i < n
  ·rw [if_pos h1] at h
   have e : i.toNat = j := zAT h
   exact ⟨by rw [seqIndex_of h0 h1, e], by omega, by omega, h1⟩
  ·rw [if_neg h1] at h; cases h
 ·rw [if_neg h0] at h
  by_cases h1 : -(n : Int) <= i
  ·rw [if_pos h1] at h
   have e : (i + n).toNat = j := zAT h
   exact ⟨by rw [seqIndex_neg (by omega) h1, e], by omega, h1, by omega⟩
  ·rw [if_neg h1] at h; cases h
theorem mV {α : Type} {xs : List α} {i : Int} {v : α} (h : atI xs i = some v) : ∃ j, seqIndex? i xs.length = some j /\ xs[j]? = some v /\ j < xs.length /\ -(xs.length : Int) <= i /\ i < xs.length := by
 unfold atI at h
 cases e : ixN xs.length i with
 | none => rw [e] at h; cases h
 | some j =>
  rw [e] at h
  obtain ⟨h1, h2, h3, h4⟩ := tW e
  exact ⟨j, h1, h, h2, h3, h4⟩
theorem cZ {α : Type} {xs : List α} {j : Nat} {v : α} (h : xs[j]? = some v) : atI xs (j : Int) = some v := by
 have hj : j < xs.length := (zAI.mp h).1
 have e : ixN xs.length (j : Int) = some j := by
  unfold ixN
  rw [if_pos (by omega), if_pos (by omega)]; simp
 unfold atI; rw [e]; exact h
def tK (b : Expr) : Prop := ∀ o i, subscripted b false o i = operate [o, i] (getItem o i)
def IxR (X : Cx) (r : R2) : Prop :=
 ∀ (value slice : Expr) (pins : List (Addr × Obj)) (s : Shared) (σ : St) (H : Hp) (x y : V) (v u : Value) (Q : VK), Inv X pins σ H s -> RelV x v -> RelV y u -> r x y H Q →
  subscripted slice false v u = operate [v, u] (getItem v u) -> wpAny (model X.prog X.w) X.A (subscriptTail value slice v u) (EP X pins σ Q) X.xe s
def MtR (X : Cx) (id : String) (r : V -> List V -> Hp -> VK -> Prop) : Prop :=
 ∀ (pins : List (Addr × Obj)) (s : Shared) (σ : St) (H : Hp) (x : V) (xs : List V) (v : Value) (us : List Value) (Q : VK), Inv X pins σ H s -> RelV x v -> Vals xs us -> r x xs H Q →
  wpAny (model X.prog X.w) X.A (call (.builtin id) (v :: us)) (EP X pins σ Q) X.xe s
section
variable {X : Cx} {a b : Expr} {ta tb : TE} {pos : Pos}
def wy (K : PySem.W.Frag) : R2 := fun x y H Q => ∃ p xs i v, x = .ref p /\ y = .int i /\ SqL K H p xs /\ atI xs i = some v /\ Q v H
def wz (K : PySem.W.Frag) : R2 := fun x y H Q => ∃ p xs i v, x = .ref p /\ y = .int i /\ SqT K H p xs /\ atI xs i = some v /\ Q v H
theorem tX : IxR X (wy X.K) := by
 intro value slice pins s σ H x y v u Q I rx ry h hs
 obtain ⟨p, xs, i, z, rfl, rfl, hq, he, q⟩ := h
 cases rx
 obtain ⟨t, rfl⟩ := ry
 obtain ⟨its, r, pl, hz⟩ := I.list hq
 obtain ⟨j, h1, h2, h3, h4, h5⟩ := mV he
 obtain ⟨w, ew, rw'⟩ := r.get h2
 have hl := r.length
 have hn := lU
 have fin : EP X pins σ Q w s := ⟨z, H, I, rw', q⟩
 by_cases h0 : 0 <= i
 ·have hj : i.toNat = j := by
   rw [seqIndex_of h0 h5] at h1
   exact zAT h1
  exact item_listR pl.isList h0 (by omega) (by rw [hj]; simpa using ew) fin hs
 ·have hj : (i + (its.toArray.size : Int)).toNat = j := by
   rw [seqIndex_neg (by omega) h4] at h1
   rw [zAR, <- hl]
   exact zAT h1
  exact subscriptTail_builtinR (x := w) pl.isList.typeIs slot_list_getitem.lookup
   (wpAny_getItem_list_neg (Q := fun r s' => r = w /\ EP X pins σ Q r s') pl.isList (by omega) (by rw [zAR] <;> omega) (by omega) (by rw [hj]; simpa using ew) ⟨rfl, fin⟩) hs
theorem uW : IxR X (wz X.K) := by
 intro value slice pins s σ H x y v u Q I rx ry h hs
 obtain ⟨p, xs, i, z, rfl, rfl, hq, he, q⟩ := h
 cases rx
 obtain ⟨t, rfl⟩ := ry
 obtain ⟨its, r, pl, hz⟩ := I.tuple hq
 obtain ⟨j, h1, h2, h3, h4, h5⟩ := mV he
 obtain ⟨w, ew, rw'⟩ := r.get h2
 have hl := r.length
 have hn := lU
 have fin : EP X pins σ Q w s := ⟨z, H, I, rw', q⟩
 exact subscriptTail_builtinR (x := w) pl.typeIs slot_tuple_getitem.lookup
  (getItem_tuple (j := j) (Q := fun r s' => r = w /\ EP X pins σ Q r s') pl (by omega) (by omega) (by rw [zAR, <- hl]; exact h1) (by simpa using ew) ⟨rfl, fin⟩) hs
theorem Inv.lst {pins : List (Addr × Obj)} {σ : St} {H : Hp} {s : Shared} {p : Addr} {xs : List V} (I : Inv X pins σ H s) (h : H p = some (.lst xs)) :
  ∃ (its : List Value) (n : Nat), Vals xs its /\ s.heap.get? p = some { cls := .type "list", data := .seq its.toArray n } /\ xs.length <= sizeLine := by
 obtain ⟨z, its, n, r, e⟩ := I.hok p _ h
 exact ⟨its, n, r, e, z⟩
theorem mz (lo hi : Option Int) (n : Nat) : (sliceBounds lo hi none n).1 = ((HT.sIx n 0 lo : Nat) : Int) /\ (sliceBounds lo hi none n).2.1 = ((HT.sIx n n hi : Nat) : Int) /\ (sliceBounds lo hi none n).2.2 = 1 := by
 refine ⟨?_, ?_, rfl⟩
 ·cases lo with
  | none => simp [sliceBounds, HT.sIx]
  | some i =>
   simp only [sliceBounds, HT.sIx, Option.getD_none, show (1 : Int) > 0 by decide, if_true]
   by_cases h : i < 0
   ·simp only [h, if_true] <;> omega
   ·simp only [h, if_false] <;> omega
 ·cases hi with
  | none => simp [sliceBounds, HT.sIx]
  | some i =>
   simp only [sliceBounds, HT.sIx, Option.getD_none, show (1 : Int) > 0 by decide, if_true]
   by_cases h : i < 0
   ·simp only [h, if_true] <;> omega
   ·simp only [h, if_false] <;> omega
theorem kI (its : List Value) (lo hi : Option Int) : slicePick its.toArray lo hi none = ((its.drop (HT.sIx its.length 0 lo)).take (HT.sIx its.length its.length hi - HT.sIx its.length 0 lo)).toArray := by
 obtain ⟨h1, h2, h3⟩ := mz lo hi its.toArray.size
 unfold slicePick
 rw [h1, h2, h3]
 simp only [sliceRange_one, pick_run, zAR] <;> rfl
theorem k8 : iA X (.builtin "len") (fun xs H Q => ∃ p ys, xs = [.ref p] /\ (SqL X.K H p ys ∨ SqT X.K H p ys) /\ Q (.int ys.length) H) := by
 intro pins s σ H xs us Q I r h
 obtain ⟨p, ys, rfl, hq, q⟩ := h
 obtain ⟨u, rfl, rx⟩ := vals1 r
 cases rx
 have hn := lU
 rcases hq with hq | hq
 ·obtain ⟨its, r', pl, hz⟩ := I.list hq
  have hlen := r'.length
  exact Calls.call_len_list pl.isList (by simp only [zAR] <;> omega) ⟨.int ys.length, H, I.tok _, ⟨s.toks + 1, by rw [zAR, hlen]⟩, q⟩
 ·obtain ⟨its, r', pl, hz⟩ := I.tuple hq
  have hlen := r'.length
  exact len_tuple pl (by simp only [zAR] <;> omega) ⟨.int ys.length, H, I.tok _, ⟨s.toks + 1, by rw [zAR, hlen]⟩, q⟩
theorem k9 : iA X (.type "list") (fun xs H Q => ∃ p ys, xs = [.ref p] /\ (SqL X.K H p ys ∨ SqT X.K H p ys) /\ ∀ l, H l = none -> Q (.ref l) (upd H l (.lst ys))) := by
 intro pins s σ H xs us Q I r h
 obtain ⟨p, ys, rfl, hq, q⟩ := h
 obtain ⟨u, rfl, rx⟩ := vals1 r
 cases rx
 have fin : ∀ (its : List Value), Vals ys its -> ys.length <= sizeLine -> ∀ (h' : Heap) (c' : Nat), (∀ b o', s.heap.get? b = some o' -> h'.get? b = some o') →
   h'.get? s.heap.objs.size = some { cls := .type "list", dict := none, data := .seq its.toArray c', slots := #[] } -> EP X pins σ Q (.ref s.heap.objs.size) { s with heap := h' } := fun its r' hz h' c' kp e =>
  ⟨.ref s.heap.objs.size, _, I.laid (t' := s.toks) kp (zAG _) (show aI X.prog X.w _ h' _ (.lst ys) from ⟨hz, its, c', r', e⟩), rfl, q _ (I.hok.fresh (zAG _))⟩
 rcases hq with hq | hq
 ·obtain ⟨its, r', pl, hz⟩ := I.list hq
  have hlen := r'.length
  obtain ⟨o, ho, hc, n, hd⟩ := pl.isList
  exact call_list_seq p (.inl rfl) ho hc hd (fun h' c' kp e => fin its r' hz h' c' kp e) (by simp only [zAR] <;> omega)
 ·obtain ⟨its, r', pl, hz⟩ := I.tuple hq
  have hlen := r'.length
  obtain ⟨o, ho, hc, n, hd⟩ := pl
  exact call_list_seq p (.inr rfl) ho hc hd (fun h' c' kp e => fin its r' hz h' c' kp e) (by simp only [zAR] <;> omega)
def tyV (K : PySem.W.Frag) (T : String) (x : V) (H : Hp) : Prop := match x with
 | .str _ => T = "str"
 | .int _ => T = "int"
 | .ref p => (T = "list" /\ ∃ xs, SqL K H p xs) ∨ (T = "tuple" /\ ∃ o, K.lookup p = some o /\ o.cls = .type "tuple" /\ o.dict = none) ∨
   (T = "dict" /\ ((∃ kvs, H p = some (.dK kvs)) ∨ ∃ kvs, H p = some (.dT kvs))) ∨ (T = "set" /\ ∃ S n, H p = some (.set S n))
 | _ => False
theorem qT {pins : List (Addr × Obj)} {σ : St} {H : Hp} {s : Shared} {T : String} {x : V} {v : Value} (I : Inv X pins σ H s) (r : RelV x v) (ty : tyV X.K T x H) :
  s.TypeIs v T /\ ∀ a, v = .ref a -> ∃ ob, s.heap.get? a = some ob /\ ob.dict = none := by
 cases x with
 | str z =>
  obtain ⟨t, rfl⟩ := r
  cases (show T = "str" from ty)
  exact ⟨typeIs_str s z t, fun _ e => nomatch e⟩
 | int i =>
  obtain ⟨t, rfl⟩ := r
  cases (show T = "int" from ty)
  exact ⟨typeIs_int s i t, fun _ e => nomatch e⟩
 | ref p =>
  cases r
  rcases ty with ⟨rfl, xs, hq⟩ | ⟨rfl, o, hk, hc, hd⟩ | ⟨rfl, hk⟩ | ⟨rfl, S, n, hk⟩
  ·obtain ⟨its, _, pl, _⟩ := I.list hq
   refine ⟨pl.isList.typeIs, fun a e => ?_⟩
   cases e
   obtain ⟨o, n, e, c, hd, _⟩ := pl
   exact ⟨o, e, hd⟩
  ·refine ⟨⟨o, I.kIn p o hk, hc⟩, fun a e => ?_⟩
   cases e
   exact ⟨o, I.kIn _ o hk, hd⟩
  ·have z : ∃ o, s.heap.get? p = some o /\ o.ExactDict := by
    rcases hk with ⟨kvs, hk⟩ | ⟨kvs, hk⟩
    ·obtain ⟨_, _, _, _, o, _, _, e, ex, _⟩ := I.hok p _ hk
     exact ⟨o, e, ex⟩
    ·obtain ⟨_, _, _, _, o, _, _, e, ex, _⟩ := I.hok p _ hk
     exact ⟨o, e, ex⟩
   obtain ⟨o, e, ex⟩ := z
   refine ⟨⟨o, e, ex.1⟩, fun a e2 => ?_⟩
   cases e2
   exact ⟨o, e, ex.2.1⟩
  ·obtain ⟨o, _, _, _, e, ex, _⟩ := I.hok p _ hk
   refine ⟨⟨o, e, ex.1⟩, fun a e2 => ?_⟩
   cases e2
   exact ⟨o, e, ex.2.1⟩
 | _ => exact False.elim ty
def wB (K : PySem.W.Frag) (T : String) (r : V -> List V -> Hp -> VK -> Prop) (to : TE) : TE := fun σ H Q => to σ H fun x H1 => tyV K T x H1 /\ r x [] H1 Q
def tBM (K : PySem.W.Frag) (T : String) (r : V -> List V -> Hp -> VK -> Prop) (to : TE) (t : TA) : TE := fun σ H Q => to σ H fun x H1 => tyV K T x H1 /\ t σ H1 fun xs H2 => r x xs H2 Q
variable {o e : Expr} {es : List Expr} {to : TE} {t : TA} {name : Str} {apos cpos : Pos} {T id : String} {r : V -> List V -> Hp -> VK -> Prop}
theorem vj (pa : PlainAttrs T) (slot : Slot T name id) (hty : typeOf (.builtin id) = pure (.type "method_descriptor")) (hm : MtR X id r) (ho : PE X o to)
  (hbase : attributeBase o name X.env (eval o X.env) = eval o X.env := by rfl) (hline : (apos.endLine == cpos.line) = true := by rfl) : PE X (.Call (.Attribute o name apos) [] [] cpos) (wB X.K T r to) := by
 intro pins s σ H Q I h
 refine wpAny_Call_method0_late hbase hline (thn (ho pins s σ H _ I h) fun v s1 ⟨x, H1, I1, r1, ty, q1⟩ => ?_)
 obtain ⟨h1, h2⟩ := qT I1 r1 ty
 exact ⟨T, id, pa, slot, hty, h1, h2, Calls.callWith_builtin rfl (PySem.evalArgs_none (hm pins s1 σ H1 x [] v [] Q I1 r1 .nil q1))⟩
theorem vQ (pa : PlainAttrs T) (slot : Slot T name id) (hty : typeOf (.builtin id) = pure (.type "method_descriptor")) (hm : MtR X id r) (ho : PE X o to) (ha : PA X (e :: es) t)
  (hbase : attributeBase o name X.env (eval o X.env) = eval o X.env := by rfl)
  (hfew : ((backTo cpos (starEach (e :: es) X.env)).all (fun x => !x.1) && (backToKw cpos (keywordEach [] X.env)).all (fun x => x.1.isSome)
   && decide ((e :: es).length + ([] : List Keyword).length + (if ([] : List Keyword).isEmpty then 0 else 1) < 30)) = true := by rfl)
  (hline : (apos.endLine == cpos.line) = true := by rfl) (hs : starEach (e :: es) X.env = (false, eval e X.env) :: starEach es X.env := by rfl) (hplain : (backTo cpos (starEach es X.env)).any (·.1) = false := by rfl) :
  PE X (.Call (.Attribute o name apos) (e :: es) [] cpos) (tBM X.K T r to t) := by
 intro pins s σ H Q I h
 refine wpAny_Call_method_late hbase hfew hline rfl (thn (ho pins s σ H _ I h) fun v s1 ⟨x, H1, I1, r1, ty, q1⟩ => ?_)
 obtain ⟨h1, h2⟩ := qT I1 r1 ty
 refine ⟨T, id, pa, slot, hty, h1, h2, ?_⟩
 have hA := ha cpos pins s1 σ H1 _ I1 q1
 rw [hs] at hA ⊢
 refine Calls.callWith_builtin (by show (false || (backTo cpos (starEach es X.env)).any (·.1)) = false; rw [hplain] <;> rfl) (Calls.evalArgs_plain ?_)
 exact thn hA fun us s2 ⟨vs, H2, I2, r2, q2⟩ => hm pins s2 σ H2 x vs v us Q I2 r1 r2 q2
end
end L2
namespace L2
open PySem PySem.Spec PyProof.Rows
def MtM (X : Cx) (id : String) (r : V -> List V -> Hp -> VK -> Prop) : Prop :=
 ∀ (pins : List (Addr × Obj)) (s : Shared) (σ : St) (H : Hp) (x : V) (xs : List V) (v : Value) (us : List Value) (Q : VK), Inv X pins σ H s -> RelV x v -> Vals xs us -> r x xs H Q →
  wpAny (model X.prog X.w) X.A (call (.builtin id) (v :: us)) (EP X pins σ Q) X.xe s
theorem Vals.one : ∀ {x : V} {us : List Value}, Vals [x] us -> ∃ u, us = [u] /\ RelV x u
 | _, _, .cons r .nil => ⟨_, rfl, r⟩
section
variable {X : Cx} {pins : List (Addr × Obj)} {σ : St} {H : Hp} {s : Shared} {l b : Addr} {xs ys zs : List V}
theorem Inv.lset {its its' : List Value} {n : Nat} {f : Array Value -> Array Value} {t' : Nat} (I : Inv X pins σ H s) (hH : H l = some (.lst xs))
  (e : s.heap.get? l = some { cls := .type "list", data := .seq its.toArray n }) (hf : f its.toArray = its'.toArray) (hv : Vals ys its') (hz : ys.length <= sizeLine) :
  Inv X pins σ (upd H l (.lst ys)) { s with heap := s.heap.update l (Obj.mapSeq f), toks := t' } := by
 have q := PySem.IsL.update e f
 rw [hf] at q
 refine I.write (x := l) (e := l) (by rw [hH]; exact trivial) (.inl rfl) (fun b' u hb hu => (Heap.get?_update_other s.heap (Obj.mapSeq f) (Ne.symm hb)).trans hu) ⟨_, q⟩ ?_
 exact ⟨hz, its', _, hv, q⟩
theorem Inv.lstM (I : Inv X pins σ H s) (hH : H l = some (.lst xs)) : xs.length <= sizeLine /\ ∃ (its : List Value) (n : Nat), Vals xs its /\ xs.length = its.length /\ s.heap.get? l = some { cls := .type "list", data := .seq its.toArray n } := by
 obtain ⟨z, its, n, r, e⟩ := I.hok l _ hH
 exact ⟨z, its, n, r, r.length, e⟩
end
section
variable {X : Cx}
def uk : V -> List V -> Hp -> VK -> Prop := fun x vs H Q => ∃ l xs y, x = .ref l /\ vs = [y] /\ H l = some (.lst xs) /\ xs.length < sizeLine /\ Q .non (upd H l (.lst (xs ++ [y])))
theorem km : MtM X "list.append" uk := by
 intro pins s σ H x vs v us Q I rx rv h
 obtain ⟨l, xs, y, rfl, rfl, hH, hz, q⟩ := h
 cases rx
 obtain ⟨u, rfl, ru⟩ := rv.one
 obtain ⟨z, its, n, r, hl, e⟩ := I.lstM hH
 refine call_meets F.slot_list_append ⟨_, e, rfl⟩ F.entry_list_append (F.args_list_append_2 _ _) (PySem.list_append l its.toArray n u (by rw [zAR]; omega)) ⟨e, ?_⟩
 refine ⟨.non, _, I.lset (its' := its ++ [u]) hH e (by simp) (r.append (.cons ru .nil)) ?_, rfl, q⟩
 rw [zAg, List.length_singleton]
 omega
end
section
variable {prog : Program} {w : World} {A : Around} {E : Value -> Shared -> Prop} {s : Shared}
set_option maxRecDepth 100000 in
end
section
variable {X : Cx}
end
end L2
namespace Att
open PySem PySem.W PySem.Calls PyProof.Rows
theorem jj {P : Params} {h : Heap} : ∀ (ns : List Int) (vs : List Value), WellAll P h vs (ns.map WData.int) -> IntsAre vs ns := by
 intro ns
 induction ns with
 | nil =>
  intro vs w
  rw [zAi] at w
  cases w
  exact .nil
 | cons n ns ih =>
  intro vs w
  rw [zAF] at w
  cases w with
  | cons a b =>
   cases a
   exact .cons _ _ (ih _ b)
theorem qQ {l : OpenLaw} {n : Nat} (hn : l.most = some n) {P : Params} {h : Heap} {args : List WData} {vals : List Value}
  (hpre : l.row.toRowW.claim.pre args = true) (hwl : WellAll P h vals args) :
  ∃ a vs ns, vals = [Value.ref a] /\ args = [WData.list (ns.map WData.int)] /\ h.get? a = some { cls := .type "list", data := .seq vs.toArray } /\ IntsAre vs ns /\ ns.length <= n := by
 have hsh : WShape.hasAll [] args [.list .int] = true := (pre_splitW hpre).1
 have hc : l.pre.holds [] { args := args } = true := (pre_splitW hpre).2
 obtain ⟨d, r, rfl, h1, h2⟩ := hasAllW_cons hsh
 obtain rfl := hasAllW_nil h2
 obtain ⟨xs, rfl, h3⟩ := hasW_list h1
 obtain ⟨ns, rfl⟩ := items_int h3
 have hlen : ns.length <= n := by
  unfold OpenLaw.pre at hc
  have h4 : (WTm.not (.lt (.lit (.int (n : Int))) (.len (.arg 0)))).holds [] { args := [.list (ns.map .int)] } = true := by
   have h4 := (holds_andW hc).1
   rw [hn] at h4
   exact h4
  have h5 := condW_of h4 (w_not (w_lt w_lit (w_len_list (w_arg rfl))))
  rw [zAJ] at h5
  refine Nat.le_of_not_lt fun q => ?_
  have q' : (n : Int) < ((ns.length : Nat) : Int) := by omega
  first
   | (rw [decide_eq_true q'] at h5; exact absurd h5 (by decide))
   | (simp at h5; omega)
 cases hwl with
 | cons w1 w2 =>
  cases w2
  cases w1 with
  | list ho hall => exact ⟨_, _, ns, rfl, rfl, ho, jj ns _ hall, hlen⟩
theorem qM (l : OpenLaw) (args : List WData) : l.row.toRowW.claim.post args (.bool true) args = true :=
 postW_of (r := l.row.toRowW) (X := (true == true))
  (show WShape.has [] (.bool true) .bool = true by first | rfl | decide | simp [WShape.has, WShape.arms, WShape.armsAll])
  (show (WTm.eq .res (.lit (.bool true))).value [] { args := args, res := some (.bool true), after := args } = some (.bool (true == true)) from w_eq_bool (w_res rfl) w_lit) rfl
theorem mG {l : OpenLaw} {n : Nat} {q : Program} {loose : List Str} {XP : (Str -> Option Value) -> Heap -> Prop} {YP : World -> Heap -> Prop} {d : DefRec}
  (hn : l.most = some n) (hdf : d.params.defaults = [])
  (call : ∀ (w : World) (s₀ s₁ : Shared) (mg mb : Str -> Option Value) (fa : Addr) (o : Obj) (pm cd doc : Value) (a : Addr) (vs : List Value) (ns : List Int),
   Ground q loose [] XP w s₀ mg mb s₁.heap -> YP w s₁.heap →
   s₁.heap.get? fa = some o -> o.data = .func (docDef d.name d.params d.body d.scope pm cd doc) -> s₁.heap.CodeRec cd d.name -> mg d.name = some (.ref fa) →
   s₁.heap.get? a = some { cls := .type "list", data := .seq vs.toArray } -> IntsAre vs ns -> ns.length <= n -> s₁.gens = #[] →
   codeAny (model l.prog w) callerA (.call (.ref fa) ⟨[.ref a], []⟩) (fun r s' => r = .ok (.ret (.bool true)) /\ OldK s₁.heap s'.heap /\ s'.os = s₁.os /\ AllBare s'.gens) s₁) :
  WalkO q loose XP YP l.row.toRowW d [] (fun f vs => PySem.call f vs) := by
 intro w s₀ s₁ mg mb G Y fa o pm cd doc dV kV ho hd hcd hD hmg hg args vals as hpre hlay hrd hwl hlo
 obtain rfl : dV = .none := Dflts.none hD hdf
 obtain rfl : kV = .none := Dflts.noKw hD
 obtain ⟨a, vs, ns, rfl, rfl, hobj, hints, hlen⟩ := qQ hn hpre hwl
 refine enter_call (codeAny_mono (call w s₀ s₁ mg mb fa o pm cd doc a vs ns G Y ho (fd_plain hd) hcd hmg hobj hints hlen hg) fun r s' hq => ?_)
 obtain ⟨rfl, h2, h3, h4⟩ := hq
 exact ⟨.inl ⟨.bool true, .bool true, [], rfl, fun _ => rfl, .bool true, qM l _, fun _ => ⟨List.Pairwise.nil, fun _ hm => (nomatch hm)⟩⟩, h2, h3, h4⟩
section
variable {prog : Program} {w : World} {A : Around} {E : Value -> Shared -> Prop} {s : Shared} {K : Frag}
def ledger (h : Heap) (L d : Addr) : List (Addr × Obj) := (List.range h.objs.size).filterMap fun a => if a = L ∨ a = d then none else (h.get? a).map fun o => (a, o)
end
end Att
namespace L2
open PySem PySem.Spec PyProof.Rows
theorem fk : ∀ {vs : List Value} {ns : List Int}, IntsAre vs ns -> Vals (ns.map V.int) vs
 | _, _, .nil => .nil
 | _, _, .cons n t h => .cons ⟨t, rfl⟩ (fk h)
def rg (H : Hp) : Prop := ∀ b, H b = none ∨ ∃ o xs, H b = some (.frz o (.lst xs))
theorem rY {P : Program} {w : World} {K : PySem.W.Frag} {mg mb : Str -> Option Value} {CX : CXT} {k : Nat} {fa a : Addr} {fd : FuncData} {x : Str} {sp : Sp} {s₁ : Shared} {vs : List Value} {ns : List Int}
  (KX : K.In s₁.heap) (hns : s₁.heap.Ns mainGlobals mg) (hb : s₁.heap.Ns builtinsNs mb) (hbb : ∀ x : Str, x ≠ "__name__" -> mb x = bootBuiltins x) (hlim : s₁.heap.NoLimit) (hg : s₁.gens = #[])
  (ha : s₁.heap.get? a = some { cls := .type "list", data := .seq vs.toArray }) (hi : IntsAre vs ns) (hl : ns.length <= sizeLine) (hr : aW k callerA)
  (F : ∀ base : Heap, K.In base -> base.Ns mainGlobals mg -> aC P w K mg base CX k fa fd [x] sp) (hbind : ∀ (s : Shared) (u : Value), BindsTo s fd ⟨[u], []⟩ [(x, u)])
  (hsp : ∀ H : Hp, rg H -> SqL K H a (ns.map V.int) -> sp [.ref a] H (fun v _ => v = .bl true) fun _ _ _ => False)
  (hCX : ∀ H e s', CX [] H s₁ (fun _ _ _ => False) e s' -> False) :
  codeAny (model P w) callerA (.call (.ref fa) ⟨[.ref a], []⟩) (fun r s' => r = .ok (.ret (.bool true)) /\ OldK s₁.heap s'.heap /\ s'.os = s₁.os /\ AllBare s'.gens) s₁ := by
 have rv := fk hi
 have lenV := hi.length
 have core : ∀ H : Hp, rg H -> SqL K H a (ns.map V.int) -> HOk P w H s₁.heap -> (∀ b, H b ≠ none -> b = a) -> (H a ≠ none -> K.lookup a = none) →
   codeAny (model P w) callerA (.call (.ref fa) ⟨[.ref a], []⟩) (fun r s' => r = .ok (.ret (.bool true)) /\ OldK s₁.heap s'.heap /\ s'.os = s₁.os /\ AllBare s'.gens) s₁ := by
  intro H hO hS hok hA hK
  have base_of : ∀ {b : Addr} {o : Obj}, s₁.heap.get? b = some o -> H b = none -> (gn s₁.heap H).get? b = some o := fun e n => rV e n
  have noA : ∀ {b : Addr} {o : Obj} {es : Array DictEntry} {ep : Nat}, s₁.heap.get? b = some o -> o.data = .dict es ep -> H b = none := fun {b o es ep} e d => by
   cases q : H b with
   | none => rfl
   | some u =>
    have e' : b = a := hA b (by rw [q]; simp)
    subst e'
    rw [ha] at e; cases e
    have d' : Data.seq vs.toArray _ = Data.dict es ep := d
    cases d'
  have nsK : ∀ {b : Addr} {m : Str -> Option Value}, s₁.heap.Ns b m -> (gn s₁.heap H).Ns b m := fun {b m} ⟨o, es, ep, e, d, r⟩ => ⟨o, es, ep, base_of e (noA e d), d, r⟩
  have hKb : K.In (gn s₁.heap H) := fun b o e => base_of (KX b o e) (by
   cases q : H b with
   | none => rfl
   | some u =>
    have e' : b = a := hA b (by rw [q]; simp)
    subst e'
    rw [hK (by rw [q]; simp)] at e; cases e)
  have hM : Mod K mg (gn s₁.heap H) := ⟨hKb, nsK hns, ⟨mb, nsK hb, hbb⟩, let ⟨mc, h1, h2⟩ := hlim; ⟨mc, nsK h1, h2⟩⟩
  have e0 : iW P w K mg (gn s₁.heap H) callerA [] s₁ H := ⟨rfl, hM, fun b o e => ua e, Nat.le_of_eq (qn _ _), trivial, fun b hb => absurd (show b ∈ ([] : List Addr) from hb) (by simp), hok, .of_eq hg⟩
  refine codeAny_mono ((F _ hKb (nsK hns)).run callerA [] s₁ H ⟨[.ref a], []⟩ [.ref a] [.ref a] _ _ hr e0 (hbind s₁ (.ref a)) (.cons rfl .nil) (hsp H hO hS)) fun r s' h => ?_
  cases r with
  | error e => exact (hCX H e s' h).elim
  | ok fl =>
   cases fl with
   | next => exact False.elim h
   | brk => exact False.elim h
   | cont => exact False.elim h
   | ret u =>
    obtain ⟨v, H', os, bare, un, hok', r', q⟩ := h
    have q' : v = .bl true := q
    subst q'
    obtain rfl : u = Value.bool true := r'
    refine ⟨rfl, OldK.of_keep fun b o e => ?_, os, bare⟩
    cases q : H b with
    | none => exact un.keep b o e q (by intro z; exact absurd (show b ∈ ([] : List Addr) from z) (by simp)) (by simp)
    | some u =>
     rcases hO b with z | ⟨ob, xs, z⟩
     ·rw [q] at z; cases z
     ·have z2 := un.frzs b ob _ z
      obtain ⟨e1, _⟩ := hok b _ z
      obtain ⟨e2, _⟩ := hok' b _ z2
      rw [e] at e1; cases e1
      exact e2
 cases hk : K.lookup a with
 | some o =>
  have e := KX a o hk
  rw [ha] at e
  cases e
  refine core (fun _ => none) (fun _ => .inl rfl) (.inr ⟨_, vs.toArray, _, hk, rfl, rfl, rfl, by rw [zAR, lenV]; exact hl, by simpa using rv⟩) (fun b u z => by have z' : (none : Option HO) = some u := z; cases z') (fun b z => absurd rfl z) fun z => absurd rfl z
 | none =>
  refine core (fun b => if b = a then some (.frz { cls := .type "list", data := .seq vs.toArray } (.lst (ns.map V.int))) else none) (fun b => ?_) (.inl (.inr ⟨{ cls := .type "list", data := .seq vs.toArray }, if_pos rfl⟩)) (fun b u z => ?_) (fun b z => ?_) fun _ => hk
  ·by_cases hb : b = a
   ·exact .inr ⟨_, _, if_pos hb⟩
   ·exact .inl (if_neg hb)
  ·by_cases hb : b = a
   ·have z' := (if_pos hb).symm.trans z
    cases z'
    subst hb
    exact ⟨ha, by rw [zAJ]; exact hl, vs, _, rv, ha⟩
   ·have z' := (if_neg hb).symm.trans z
    cases z'
  ·by_cases hb : b = a
   ·exact hb
   ·exact absurd (if_neg hb) z
end L2
namespace L2
open PySem PySem.Spec PyProof.Rows
theorem uy {l : PySem.W.OpenLaw} {n k : Nat} {q : Program} {loose : List Str} {XP : (Str -> Option Value) -> Heap -> Prop} {YP : World -> Heap -> Prop} {d : DefRec} {K : Params -> PySem.W.Frag} {CX : World -> CXT} {sp : World -> Sp} {x : Str}
  (hn : l.most = some n) (hn2 : n <= sizeLine) (hdf : d.params.defaults = []) (hr : aW k callerA)
  (hY : ∀ (w : World) (h : Heap), YP w h -> (K w.params).In h)
  (F : ∀ (w : World) (mg : Str -> Option Value) (fa : Addr) (h : Heap), (K w.params).In h -> h.Ns mainGlobals mg -> mg d.name = some (.ref fa) →
   ∃ fd : FuncData, (∀ (s : Shared) (u : Value), BindsTo s fd ⟨[u], []⟩ [(x, u)]) ∧
    ∀ base : Heap, (K w.params).In base -> base.Ns mainGlobals mg -> aC l.prog w (K w.params) mg base (CX w) k fa fd [x] (sp w))
  (hsp : ∀ (w : World) (H : Hp) (a : Addr) (ns : List Int), ns.length <= n -> rg H -> SqL (K w.params) H a (ns.map V.int) -> sp w [.ref a] H (fun v _ => v = .bl true) fun _ _ _ => False)
  (hCX : ∀ (w : World) (H : Hp) (s : Shared) (e : Value) (s' : Shared), CX w [] H s (fun _ _ _ => False) e s' -> False) :
  PySem.W.WalkO q loose XP YP l.row.toRowW d [] (fun f vs => PySem.call f vs) := by
 refine Att.mG hn hdf fun w s₀ s₁ mg mb fa o pm cd doc a vs ns G Y ho hd hcd hmg hobj hints hlen hg => ?_
 have KX := hY w _ Y
 obtain ⟨fd, hb, hF⟩ := F w mg fa _ KX G.T.g hmg
 exact rY KX G.T.g G.T.b G.T.builtins G.T.nolimit hg hobj hints (zAa hlen hn2) hr hF hb (fun H hO hS => hsp w H a ns hlen hO hS) fun H e s' => hCX w H s₁ e s'
end L2
namespace L2
open PySem PySem.Spec PyProof.Rows
def bj (s : Stmt) : Arguments := match s with
 | .FunctionDef _ a _ _ _ _ _ _ _ _ => a
 | _ => { posonlyargs := [], args := [], vararg := none, kwonlyargs := [], kw_defaults := [], kwarg := none, defaults := [] }
def aU (s : Stmt) : List Stmt := match s with
 | .FunctionDef _ _ b _ _ _ _ _ _ _ => b
 | _ => []
def ak (s : Stmt) : Scope := match s with
 | .FunctionDef _ _ _ _ _ _ sc _ _ _ => sc
 | _ => { kind := .function, names := [], isGenerator := false, isCoroutine := false }
abbrev E0 : XK := fun _ _ _ => False
structure Fun (K : PySem.W.Frag) (x qual : Str) (st : Stmt) (f : Addr) (fd : FuncData) : Prop where
 ex : ∃ (oc : Value) (od : Option Addr) (kV doc pm : Value) (an : Option Addr) (cdv ct : Value) (osl : Array (Option Value)),
  fd = PySem.W.fnOf x qual (bj st) (aU st) (ak st) .none kV doc pm an cdv ct /\ K.lookup f = some ⟨oc, od, .func fd, osl⟩ /\ PySem.W.codeIn K cdv qual = true
 kp : PySem.W.keepIn K (.ref f) = true
section
variable {P : Program} {w : World} {K : PySem.W.Frag} {mg : Str -> Option Value} {base : Heap}
end
theorem gq {A : Around} {k : Nat} (hr : aW k A) : A.units + 1 < cLine := Nat.lt_of_le_of_lt (Nat.add_le_add_left (by decide : 1 <= 64) _) hr.units
section
variable {X : Cx}
theorem pv (i : Nat) {x : Str} {pos : Pos} (hN : X.N[i]? = some x := by rfl) (hv : Vis X.env.scope x := by first | exact Or.inl rfl | exact Or.inr (Or.inl rfl) | exact Or.inr (Or.inr rfl)) (hd : (x == ("__debug__" : Str)) = false := by decide)
  (hcd : (x == ("__classdict__" : Str)) = false := by decide) : PE X (.Name x pos) (vx i) := dH hN hv hd hcd
end
def ah (H H' : Hp) : Prop := ∀ b o, H b = some o -> H' b = some o
theorem ah.refl (H : Hp) : ah H H := fun _ _ h => h
theorem ah.trans {H H1 H2 : Hp} (a : ah H H1) (b : ah H1 H2) : ah H H2 := fun c o h => b c o (a c o h)
theorem ah.free {H H' : Hp} (e : ah H H') {l : Addr} (h : H' l = Option.none) : H l = Option.none := by
 cases q : H l with
 | none => rfl
 | some o =>
  rw [e l o q] at h
  cases h
theorem ah.seq {K : PySem.W.Frag} {H H' : Hp} {a : Addr} {xs : List V} (e : ah H H') (h : SqL K H a xs) : SqL K H' a xs := by
 rcases h with (h | ⟨o, h⟩) | h
 ·exact .inl (.inl (e _ _ h))
 ·exact .inl (.inr ⟨o, e _ _ h⟩)
 ·exact .inr h
end L2
set_option maxHeartbeats 4000000
namespace L2
open PySem PySem.Spec PyProof.Rows
section
variable {κ : Type} [DecidableEq κ]
def bO (kvs : List (κ × V)) (k : κ) : Option V := (kvs.find? fun kv => decide (kv.1 = k)).map (·.2)
def putK (kvs : List (κ × V)) (k : κ) (v : V) : List (κ × V) :=
 if (kvs.any fun kv => decide (kv.1 = k)) = true then kvs.map (fun kv => if kv.1 = k then (kv.1, v) else kv) else kvs ++ [(k, v)]
theorem sM {k : κ} : bO ([] : List (κ × V)) k = none := rfl
theorem gG {p : κ × V} {r : List (κ × V)} {k : κ} (e : p.1 = k) : bO (p :: r) k = some p.2 := by simp [bO, zAo, e]
theorem gF {p : κ × V} {r : List (κ × V)} {k : κ} (e : ¬ p.1 = k) : bO (p :: r) k = bO r k := by simp [bO, zAo, e]
theorem dj (k : κ) : ∀ kvs : List (κ × V), (kvs.any fun kv => decide (kv.1 = k)) = (bO kvs k).isSome
 | [] => rfl
 | p :: r => by
  rw [List.any_cons]
  by_cases e : p.1 = k
  ·simp only [gG e, decide_eq_true e, Bool.true_or, Option.isSome_some]
  ·rw [gF e, decide_eq_false e, Bool.false_or]; exact dj k r
theorem fv (kvs : List (κ × V)) (k : κ) (v : V) : (putK kvs k v).length <= kvs.length + 1 := by
 unfold putK
 split
 ·rw [zAJ]; omega
 ·rw [zAg, zAh, List.length_nil]; omega
theorem sx {kvs : List (κ × V)} {k : κ} (v : V) (h : bO kvs k = none) : putK kvs k v = kvs ++ [(k, v)] := by
 unfold putK
 rw [dj, h]
 exact if_neg (by decide)
theorem cj.isSome_eq {o : Option V} {u : Option Value} (r : cj o u) : o.isSome = u.isSome := by
 cases o with
 | none => cases u with
  | none => rfl
  | some _ => exact (show False from r).elim
 | some _ => cases u with
  | none => exact (show False from r).elim
  | some _ => rfl
theorem KV.val {kvs : List (κ × V)} {vs : List (κ × Value)} (r : KV kvs vs) (k : κ) : cj (bO kvs k) (valueAt vs k) := by
 unfold KV at r
 induction r with
 | nil => exact True.intro
 | @cons p q ps qs h t ih =>
  obtain ⟨h1, h2⟩ := h
  by_cases e : p.1 = k
  ·have e' : q.1 = k := h1.symm.trans e
   have b : valueAt (q :: qs) k = some q.2 := by simp [valueAt, zAo, e']
   rw [gG e, b]; exact h2
  ·have e' : ¬ q.1 = k := fun z => e (h1.trans z)
   have b : valueAt (q :: qs) k = valueAt qs k := by simp [valueAt, zAo, e']
   rw [gF e, b]; exact ih
theorem KV.any {kvs : List (κ × V)} {vs : List (κ × Value)} (r : KV kvs vs) (k : κ) : (kvs.any fun kv => decide (kv.1 = k)) = vs.any fun kv => decide (kv.1 = k) := by
 unfold KV at r
 induction r with
 | nil => rfl
 | cons h t ih => rw [List.any_cons, List.any_cons, ih, h.1]
theorem KV.repl {kvs : List (κ × V)} {vs : List (κ × Value)} (r : KV kvs vs) (k : κ) {y : V} {u : Value} (ry : RelV y u) :
  KV (kvs.map fun kv => if kv.1 = k then (kv.1, y) else kv) (vs.map fun kv => if kv.1 = k then (kv.1, u) else kv) := by
 unfold KV at r ⊢
 induction r with
 | nil => exact .nil
 | @cons p q ps qs h t ih =>
  rw [zAF, zAF]
  refine .cons ?_ ih
  obtain ⟨h1, h2⟩ := h
  by_cases e : p.1 = k
  ·rw [if_pos e, if_pos (h1.symm.trans e)]; exact ⟨h1, ry⟩
  ·rw [if_neg e, if_neg (fun z => e (h1.trans z))]; exact ⟨h1, h2⟩
theorem KV.put {kvs : List (κ × V)} {vs : List (κ × Value)} (r : KV kvs vs) (k : κ) {y : V} {u : Value} (ry : RelV y u) : KV (putK kvs k y) (stored vs k u) := by
 unfold putK stored
 rw [r.any k]
 by_cases e : (vs.any fun kv => decide (kv.1 = k)) = true
 ·rw [if_pos e, if_pos e]; exact r.repl k ry
 ·rw [if_neg e, if_neg e]; exact Paired.snoc r ⟨rfl, ry⟩
theorem KV.length {kvs : List (κ × V)} {vs : List (κ × Value)} (r : KV kvs vs) : kvs.length = vs.length := Paired.length r
end
theorem kM {P : Program} {w : World} {k : Key} {u : Value} (r : RelV (kV k) u) : (aQ P w).is k u = true := by
 cases k with
 | inl i => obtain ⟨t, e⟩ := (show ∃ t, u = Value.int i t from r); subst e; exact mL P w i t
 | inr x => obtain ⟨t, e⟩ := (show ∃ t, u = Value.str x t from r); subst e; exact mM P w x t
theorem gX {P : Program} {w : World} : ∀ {ks : List Key} {us : List Value}, Vals (ks.map kV) us -> ItemsAre (aQ P w) ks us
 | [], _, r => by rw [zAi] at r; cases r; exact .nil
 | k :: ks, _, r => by
  rw [zAF] at r
  cases r with
  | cons h t => exact .cons (kM h) (gX t)
abbrev KT (H : Hp) : List (List Key × V) -> List (List Key × Addr × Value) -> Prop := Paired fun p q => p.1 = q.1 /\ H q.2.1 = some (.tup (p.1.map kV)) /\ RelV p.2 q.2.2
theorem KT.val {H : Hp} {kvs : List (List Key × V)} {xs : List (List Key × Addr × Value)} (r : KT H kvs xs) (k : List Key) : cj (bO kvs k) ((atKey xs k).map (·.2)) := by
 induction r with
 | nil => exact True.intro
 | @cons p q ps qs h t ih =>
  obtain ⟨h1, _, h2⟩ := h
  by_cases e : p.1 = k
  ·have e' : q.1 = k := h1.symm.trans e
   have b : atKey (q :: qs) k = some q.2 := by simp [atKey, zAo, e']
   rw [gG e, b]; exact h2
  ·have e' : ¬ q.1 = k := fun z => e (h1.trans z)
   have b : atKey (q :: qs) k = atKey qs k := by simp [atKey, zAo, e']
   rw [gF e, b]; exact ih
theorem KT.repl {H : Hp} {kvs : List (List Key × V)} {xs : List (List Key × Addr × Value)} (r : KT H kvs xs) (k : List Key) {y : V} {u : Value} (ry : RelV y u) :
  KT H (kvs.map fun kv => if kv.1 = k then (kv.1, y) else kv) (xs.map (putAt k u)) := by
 induction r with
 | nil => exact .nil
 | @cons p q ps qs h t ih =>
  rw [zAF, zAF]
  refine .cons ?_ ih
  obtain ⟨h1, h2, h3⟩ := h
  unfold putAt
  by_cases e : p.1 = k
  ·rw [if_pos e, if_pos (h1.symm.trans e)]; exact ⟨h1, h2, ry⟩
  ·rw [if_neg e, if_neg (fun z => e (h1.trans z))]; exact ⟨h1, h2, h3⟩
theorem KT.put {H : Hp} {kvs : List (List Key × V)} {xs : List (List Key × Addr × Value)} (r : KT H kvs xs) (k : List Key) {b : Addr} {y : V} {u : Value} (hb : H b = some (.tup (k.map kV))) (ry : RelV y u) :
  KT H (putK kvs k y) (storedH xs k b u) := by
 have e : (kvs.any fun kv => decide (kv.1 = k)) = (atKey xs k).isSome := by
  rw [dj, (r.val k).isSome_eq, Option.isSome_map]
 unfold putK storedH
 rw [e]
 by_cases q : (atKey xs k).isSome = true
 ·rw [if_pos q, if_pos q]; exact r.repl k ry
 ·rw [if_neg q, if_neg q]; exact Paired.snoc r ⟨rfl, hb, ry⟩
theorem KT.keeps {H H' : Hp} {kvs : List (List Key × V)} {xs : List (List Key × Addr × Value)} (r : KT H kvs xs) (ht : ∀ b ys, H b = some (.tup ys) -> H' b = some (.tup ys)) : KT H' kvs xs :=
 Paired.mapP r fun _ _ z => ⟨z.1, ht _ _ z.2.1, z.2.2⟩
section
variable {P : Program} {w : World} {H : Hp} {h : Heap} {a : Addr}
theorem tG {u : HO} (ok : HOk P w H h) (e : Rd H a u) : aI P w H h a u := e.ok ok
theorem oE {kvs : List (Key × V)} (ok : HOk P w H h) (e : Rd H a (.dK kvs)) : kvs.length <= sizeLine /\ (a == sysModules) = false /\ ∃ vs, KV kvs vs /\ h.DictOf (aQ P w) a vs :=
 show aI P w H h a (.dK kvs) from tG ok e
theorem tj {kvs : List (Key × V)} (ok : HOk P w H h) (e : H a = some (.dK kvs)) : kvs.length <= sizeLine /\ (a == sysModules) = false /\ ∃ vs, KV kvs vs /\ h.DictOf (aQ P w) a vs := oE ok (.inl e)
theorem jo {ks : List Key} (ok : HOk P w H h) (e : H a = some (.tup (ks.map kV))) : (tupleKind (aQ P w)).is h ks a := by
 obtain ⟨_, its, r, o, h1, h2, n, h3⟩ := (show aI P w H h a (.tup (ks.map kV)) from ok a _ e)
 exact ⟨o, its.toArray, n, h1, h2, h3, by simpa using gX r⟩
theorem oI {kvs : List (List Key × V)} (ok : HOk P w H h) (e : Rd H a (.dT kvs)) : kvs.length <= sizeLine /\ (a == sysModules) = false ∧
  ∃ xs, KT H kvs xs /\ h.DictOfH (tupleKind (aQ P w)) a xs := by
 obtain ⟨z, y, xs, r, o, es, ep, h1, h2, h3, h4, h5⟩ := (show aI P w H h a (.dT kvs) from tG ok e)
 refine ⟨z, y, xs, r, o, es, ep, h1, h2, h3, h4, fun x hx => ?_, h5⟩
 have all : ∀ {l : List (List Key × V)} {m : List (List Key × Addr × Value)}, KT H l m -> ∀ x ∈ m, (tupleKind (aQ P w)).is h x.1 x.2.1 := by
  intro l m q
  induction q with
  | nil => intro x hx; exact nomatch hx
  | @cons p q ps qs hq t ih =>
   intro x hx
   rcases zAN.mp hx with e | hx
   ·subst e
    exact jo ok (by rw [<- hq.1]; exact hq.2.1)
   ·exact ih x hx
 exact all r x hx
theorem gk {kvs : List (List Key × V)} (ok : HOk P w H h) (e : H a = some (.dT kvs)) : kvs.length <= sizeLine /\ (a == sysModules) = false ∧
  ∃ xs, KT H kvs xs /\ h.DictOfH (tupleKind (aQ P w)) a xs := oI ok (.inl e)
end
def gO (H : Hp) (a : Addr) (y : V) (r : Option V) : Prop :=
 (∃ kvs k, Rd H a (.dK kvs) /\ y = kV k /\ r = bO kvs k) ∨ ∃ kvs k b, Rd H a (.dT kvs) /\ y = .ref b /\ H b = some (.tup (k.map kV)) /\ r = bO kvs k
def kT (H : Hp) (a : Addr) (y v : V) (H' : Hp) : Prop :=
 (∃ kvs k, H a = some (.dK kvs) /\ y = kV k /\ kvs.length < sizeLine /\ H' = upd H a (.dK (putK kvs k v))) ∨
 ∃ kvs k b, H a = some (.dT kvs) /\ y = .ref b /\ H b = some (.tup (k.map kV)) /\ kvs.length < sizeLine /\ H' = upd H a (.dT (putK kvs k v))
theorem gO.k {H : Hp} {a : Addr} {kvs : List (Key × V)} {k : Key} (e : H a = some (.dK kvs)) : gO H a (kV k) (bO kvs k) := .inl ⟨kvs, k, .inl e, rfl, rfl⟩
theorem kT.k {H : Hp} {a : Addr} {kvs : List (Key × V)} {k : Key} {v : V} (e : H a = some (.dK kvs)) (hl : kvs.length < sizeLine) : kT H a (kV k) v (upd H a (.dK (putK kvs k v))) := .inl ⟨kvs, k, e, rfl, hl, rfl⟩
section
variable {X : Cx} {pins : List (Addr × Obj)} {σ : St} {H : Hp} {s : Shared} {a : Addr} {y v : V} {u r : Value} {o : Option V} {A : Around} {E : Value -> Shared -> Prop}
theorem Inv.big (I : Inv X pins σ H s) : sysModules < s.heap.objs.size := by
 have h : mainGlobals < s.heap.objs.size := (I.mod.glob.keeps I.bk).lt
 exact Nat.lt_trans (by decide) h
theorem j6 {Q : Value -> Shared -> Prop} (hu : A.units + 1 < cLine) (I : Inv X pins σ H s) (g : gO H a y (some v)) (ry : RelV y u) (h : ∀ w' s', Inv X pins σ H s' -> RelV v w' -> Q w' s') :
  wpAny (model X.prog X.w) A (getItem (.ref a) u) Q E s := by
 rcases g with ⟨kvs, k, e, ey, l⟩ | ⟨kvs, k, b, e, ey, eb, l⟩
 ·subst ey
  obtain ⟨z, hd, vs, rel, dd⟩ := oE I.hok e
  obtain ⟨w', hw, rw'⟩ := cj.some_of (v := v) (o := valueAt vs k) (by rw [l]; exact rel.val k)
  exact wpAny_getItem_of (kM ry) dd.mapOf hw (h w' _ (I.tok _) rw')
 ·subst ey
  cases (show u = Value.ref b from ry)
  obtain ⟨z, hd, xs, rel, dd⟩ := oI I.hok e
  obtain ⟨w', hw, rw'⟩ := cj.some_of (v := v) (o := (atKey xs k).map (·.2)) (by rw [l]; exact rel.val k)
  obtain ⟨p, hp, hp2⟩ := Option.map_eq_some_iff.mp hw
  refine wpAny_getItem_heap (tupleKind_room_in1 hu) (jo I.hok eb) dd hp ?_
  rw [hp2]
  exact h w' _ (I.tok _) rw'
theorem fO {h' : Heap} {t' : Nat} {ob : HO} (I : Inv X pins σ H s) (mu : Mut (H a)) (hs : Heap.SameBut a s.heap h') (he : ∃ q, h'.get? a = some q) (new : aI X.prog X.w (upd H a ob) h' a ob) :
  Inv X pins σ (upd H a ob) { s with heap := h', toks := t' } :=
 I.write (x := a) (e := a) mu (.inl rfl) (fun b q hb z => (hs.2 b hb).trans z) he new
theorem pX {P : Program} {w : World} {H' : Hp} {h' : Heap} {kvs : List (Key × V)} {vs : List (Key × Value)} (z : kvs.length <= sizeLine) (hd : (a == sysModules) = false) (rel : KV kvs vs) (dd : h'.DictOf (aQ P w) a vs) :
  aI P w H' h' a (.dK kvs) := ⟨z, hd, vs, rel, dd⟩
theorem pR {H' : Hp} {Q : Unit -> Shared -> Prop} (hu : A.units + 1 < cLine) (I : Inv X pins σ H s) (g : kT H a y v H') (ry : RelV y u) (rv : RelV v r) (h : ∀ s', Inv X pins σ H' s' -> Q () s') :
  wpAny (model X.prog X.w) A (setItem (.ref a) u r) Q E s := by
 rcases g with ⟨kvs, k, e, ey, l, eH⟩ | ⟨kvs, k, b, e, ey, eb, l, eH⟩
 ·subst ey eH
  obtain ⟨z, hd, vs, rel, dd⟩ := tj I.hok e
  have hz : vs.length <= sizeLine := by rw [<- rel.length]; exact z
  have hl : (putK kvs k v).length <= sizeLine := by have := fv kvs k v; omega
  refine wpAny_setItem_pairs (hsz := hz) (kM ry) dd fun h' dd' hs => h _ ?_
  have he : ∃ q, h'.get? a = some q := let ⟨q, _, _, hq, _⟩ := dd'; ⟨q, hq⟩
  exact fO I (by rw [e]; exact True.intro) hs he (pX hl hd (rel.put k rv) dd')
 ·subst ey eH
  cases (show u = Value.ref b from ry)
  obtain ⟨z, hd, xs, rel, dd⟩ := gk I.hok e
  have hz : xs.length <= sizeLine := by rw [<- Paired.length rel]; exact z
  have hl : (putK kvs k v).length <= sizeLine := by have := fv kvs k v; omega
  refine wpAny_setItem_heap (hsz := hz) (tupleKind_room_in1 hu) (jo I.hok eb) dd fun h' dd' hs => h _ ?_
  obtain ⟨q, es, ep, hq, h2, h3, h4, _, h5⟩ := dd'
  refine fO I (by rw [e]; exact True.intro) hs ⟨q, hq⟩ ⟨hl, hd, _, (rel.put k eb rv).keeps fun c ys ec => ?_, q, es, ep, hq, h2, h3, h4, h5⟩
  rw [aq (dn ec e (fun z => nomatch z))]
  exact ec
end
section
variable {X : Cx} {pins : List (Addr × Obj)} {σ : St} {H : Hp} {s : Shared} {a : Addr} {kvs : List (Key × V)} {k : Key} {u : Value} {A : Around} {E : Value -> Shared -> Prop}
end
def rf (i : Expr) : Prop := ∀ ov iv, subscripted i false ov iv = operate [ov, iv] (getItem ov iv)
theorem uw {prog : Program} {w : World} {A : Around} {E : Value -> Shared -> Prop} {s : Shared} {env : Env} {value slice : Expr} {pos : Pos} {T id : String} {Q : Value -> Shared -> Prop}
  (hl : typeLookup (.type T) "__getitem__" = pure (some (.builtin id))) (hs : rf slice)
  (h : wpAny (model prog w) A (eval value env) (fun o s₁ => wpAny (model prog w) A (eval slice env) (fun i s₂ => s₂.TypeIs o T /\ wpAny (model prog w) A (getItem o i) Q E s₂) E s₁) E s) :
  wpAny (model prog w) A (eval (.Subscript value slice pos) env) Q E s := by
 refine Subscript_ (wpAny_mono h (fun o s₁ h₁ => wpAny_mono h₁ (fun i s₂ h₂ => ?_) fun _ _ x => x) fun _ _ x => x)
 obtain ⟨hT, h₂⟩ := h₂
 unfold subscriptTail
 refine wpAny_bind ?_
 rw [getitemInPython_of_ne hT.not_modules]
 refine wpAny_bind (wpAny_specialOf hT hl ?_)
 have fin : wpAny (model prog w) A (subscripted slice false o i) (fun r s₃ => wpAny (model prog w) A (letTemporaryGo value o r >>= fun _ => pure r) Q E s₃) E s₂ := by
  rw [hs o i]
  exact wpAny_operating (wpAny_mono h₂ (fun r s₃ h₃ => wpAny_bind (wpAny_letTemporaryGo (wpAny_pure h₃))) fun _ _ x => x)
 first
  | exact wpAny_pure (wpAny_bind fin)
  | exact wpAny_bind (wpAny_pure (wpAny_bind fin))
  | exact wpAny_bind fin
theorem mI {X : Cx} {pins : List (Addr × Obj)} {σ : St} {H : Hp} {s : Shared} {a : Addr} {y : V} {o : Option V} (I : Inv X pins σ H s) (g : gO H a y o) : s.TypeIs (.ref a) "dict" := by
 rcases g with ⟨kvs, k, e, _, _⟩ | ⟨kvs, k, b, e, _, _, _⟩
 ·obtain ⟨_, _, vs, _, dd⟩ := oE I.hok e
  exact dd.typeIs
 ·obtain ⟨_, _, xs, _, dd⟩ := oI I.hok e
  exact dd.typeIs
def vV (td ty : TE) : TE := fun σ H Q => td σ H fun x H1 => ty σ H1 fun y H2 => ∃ a v, x = .ref a /\ gO H2 a y (some v) /\ Q v H2
def vU (td ty tv : TE) (rd : V -> V -> Hp -> VK -> Prop) : TS := fun D σ H => td σ H fun x H1 => ty σ H1 fun y H2 => ∃ a v, x = .ref a /\ gO H2 a y (some v) ∧
 tv σ H2 fun y2 H3 => rd v y2 H3 fun z H4 => ∃ H5, kT H4 a y z H5 /\ D.nx σ H5
section
variable {X : Cx} {o i e value : Expr} {pos pos' tpos : Pos} {td ty tv : TE}
theorem ug (hu : X.A.units + 1 < cLine) (ho : PE X o td) (hi : PE X i ty) (hs : rf i) : PE X (.Subscript o i pos) (vV td ty) := by
 intro pins s σ H Q I h
 refine uw PySem.F.slot_dict_getitem.lookup hs (thn (ho pins s σ H _ I h) fun u s1 ⟨x, H1, I1, rx, q1⟩ => thn (hi pins s1 σ H1 _ I1 q1) fun iv s2 ⟨y, H2, I2, ry, a, v, ex, g, q2⟩ => ?_)
 subst ex
 obtain rfl : u = Value.ref a := rx
 exact ⟨mI I2 g, j6 hu I2 g ry fun w' s3 I3 rw' => ⟨v, H2, I3, rw', q2⟩⟩
theorem ui {op : Operator} {rd : V -> V -> Hp -> VK -> Prop} (hu : X.A.units + 1 < cLine) (ho : PE X o td) (hi : PE X i ty) (hv : PE X value tv) (hop : uD X op rd)
  (ha : ∀ ov iv new, augStore i ov iv new = (do holding [new, ov, iv] (setItem ov iv new); release [new, ov, iv] []; pure .next)) : PS X (.AugAssign (.Subscript o i tpos) op value pos) (vU td ty tv rd) := by
 intro pins s σ H D I h
 refine wpAny_AugAssign_SubscriptAny (thn (ho pins s σ H _ I h) fun u s1 ⟨x, H1, I1, rx, q1⟩ => thn (hi pins s1 σ H1 _ I1 q1) fun iv s2 ⟨y, H2, I2, ry, a, v, ex, g, q2⟩ => ?_) ha
 subst ex
 obtain rfl : u = Value.ref a := rx
 refine j6 hu I2 g ry fun w' s3 I3 rw' => thn (hv pins s3 σ H2 _ I3 q2) fun w2 s4 ⟨y2, H3, I4, ry2, q3⟩ => thn (hop pins s4 σ H3 v y2 w' w2 _ I4 rw' ry2 q3) fun w3 s5 ⟨z, H4, I5, rz, H5, g5, q4⟩ => ?_
 exact pR hu I5 g5 ry rz fun s6 I6 => ⟨σ, H5, I6, q4⟩
end
theorem rM {P : Program} {w : World} {H : Hp} (h : Heap) (hb : sysModules < h.objs.size) : aI P w H (h.push { cls := .type "dict", data := .dict #[] }) h.objs.size (.dK []) :=
 ⟨zAZ _, beq_eq_false_iff_ne.mpr (Ne.symm (zAP hb)), [], .nil, Heap.DictOf.new h⟩
theorem rQ {P : Program} {w : World} {H : Hp} (h : Heap) (hb : sysModules < h.objs.size) : aI P w H (h.push { cls := .type "dict", data := .dict #[] }) h.objs.size (.dT []) :=
 ⟨zAZ _, beq_eq_false_iff_ne.mpr (Ne.symm (zAP hb)), [], .nil, _, #[], 0, zAD _ rfl, ⟨rfl, rfl, rfl⟩, rfl, rfl, List.nodup_nil⟩
section
variable {X : Cx} {pos : Pos}
end
abbrev VV : List (V × V) -> List (Value × Value) -> Prop := Paired fun p q => RelV p.1 q.1 /\ RelV p.2 q.2
def jq (kvs more : List (Key × V)) : List (Key × V) := more.foldl (fun acc kv => putK acc kv.1 kv.2) kvs
theorem KV.merge : ∀ {more : List (Key × V)} {rs : List (Key × Value)} {kvs : List (Key × V)} {vs : List (Key × Value)}, KV more rs -> KV kvs vs -> KV (jq kvs more) (merged vs rs) := by
 intro more rs kvs vs r
 unfold KV at r
 induction r generalizing kvs vs with
 | nil => intro q; exact q
 | @cons p q ps qs h t ih =>
  intro r0
  have e : KV (putK kvs p.1 p.2) (stored vs q.1 q.2) := by
   have := r0.put p.1 h.2
   rw [<- h.1]; exact this
  exact ih e
theorem jc {P : Program} {w : World} : ∀ {kvs : List (Key × V)} {ws : List (Value × Value)}, VV (kvs.map fun kv => (kV kv.1, kv.2)) ws -> ∃ rs, Carries (aQ P w) ws rs /\ KV kvs rs
 | [], _, r => by rw [zAi] at r; cases r; exact ⟨[], True.intro, .nil⟩
 | p :: kvs, _, r => by
  rw [zAF] at r
  cases r with
  | @cons a b as bs h t =>
   obtain ⟨rs, c, q⟩ := jc (P := P) (w := w) t
   obtain ⟨b1, b2⟩ := b
   exact ⟨(p.1, b2) :: rs, ⟨kM h.1, rfl, c⟩, .cons ⟨rfl, h.2⟩ q⟩
structure M1 (X : Cx) (o : Expr) (m : Str) (apos : Pos) (e : Expr) (cpos : Pos) : Prop where
 base : attributeBase o m X.env (eval o X.env) = eval o X.env
 few : ((backTo cpos (starEach [e] X.env)).all (fun x => !x.1) && (backToKw cpos (keywordEach [] X.env)).all (fun x => x.1.isSome)
  && decide (([e] : List Expr).length + ([] : List Keyword).length + (if ([] : List Keyword).isEmpty then 0 else 1) < 30)) = true
 line : (apos.endLine == cpos.line) = true
 trees : backTo cpos (starEach [e] X.env) = [(false, eval e X.env)]
structure M2 (X : Cx) (o : Expr) (m : Str) (apos : Pos) (e f : Expr) (cpos : Pos) : Prop where
 base : attributeBase o m X.env (eval o X.env) = eval o X.env
 few : ((backTo cpos (starEach [e, f] X.env)).all (fun x => !x.1) && (backToKw cpos (keywordEach [] X.env)).all (fun x => x.1.isSome)
  && decide (([e, f] : List Expr).length + ([] : List Keyword).length + (if ([] : List Keyword).isEmpty then 0 else 1) < 30)) = true
 line : (apos.endLine == cpos.line) = true
 trees : backTo cpos (starEach [e, f] X.env) = [(false, eval e X.env), (false, eval f X.env)]
section
variable {X : Cx} {pins : List (Addr × Obj)} {σ : St} {H : Hp} {s : Shared} {a : Addr} {y d : V} {u r : Value} {o : Option V} {A : Around} {E : Value -> Shared -> Prop}
end
section
variable {X : Cx} {o e f : Expr} {apos cpos : Pos} {td ty tx : TE}
end
section
variable {X : Cx} {pins : List (Addr × Obj)} {σ : St} {H : Hp} {s : Shared} {a : Addr} {kvs : List (Key × V)} {A : Around} {E : Value -> Shared -> Prop}
end
section
variable {X : Cx} {pins : List (Addr × Obj)} {σ : St} {H : Hp} {s : Shared} {a : Addr} {y : V} {u : Value} {A : Around} {E : Value -> Shared -> Prop}
end
end L2
namespace PM
def g3 (x y z : Int) : Nat := Int.gcd (Int.gcd x y : Int) z
end PM
namespace PX
open PySem PySem.W PySem.Spec PySem.Calls PyProof.Rows PySem.Builtin.ObjectAttr PySem.Builtin.Getset_descriptor
def ExcAt (e c : Addr) (h : Heap) : Prop := ∃ o vs, h.get? e = some o /\ o.cls = .ref c /\ o.data = .fields vs
theorem ExcAt.ty {M : Model} {e c : Addr} {h : Heap} (p : ExcAt e c h) : Looks M h (typeOf (.ref e)) (.ref c) := by
 obtain ⟨o, vs, h1, h2, _⟩ := p
 exact h2 ▸ (Looks.ld h1).andThen .now
def lX (K : Frag) (c : Addr) : Bool :=
 plainGet K c "__class__" && hasDictIn K c && findIn K (.ref c) "__class__" == some (some (.builtin "object.__class__"))
 && specialIn K (.builtin "object.__class__") "__get__" == some (some (.builtin "getset_descriptor.__get__"))
 && takesIn K (.builtin "object.__class__") == some true && mroIn K c (.type "object") == some true
 && kitOne K (.ref c) (.type "int") == some false && kitOne K (.ref c) (.type "bool") == some false && kitOne K (.ref c) (.type "tuple") == some false
 && kitOne K (.ref c) (.type "list") == some false && kitOne K (.ref c) (.type "str") == some false
structure cK (K : Frag) (c : Addr) : Prop where
 pg : plainGet K c "__class__" = true
 hd : hasDictIn K c = true
 at_ : findIn K (.ref c) "__class__" = some (some (.builtin "object.__class__"))
 get : specialIn K (.builtin "object.__class__") "__get__" = some (some (.builtin "getset_descriptor.__get__"))
 takes : takesIn K (.builtin "object.__class__") = some true
 obj : mroIn K c (.type "object") = some true
 not : ∀ T, (T = "int" ∨ T = "bool" ∨ T = "tuple" ∨ T = "list" ∨ T = "str") -> kitOne K (.ref c) (.type T) = some false
theorem cK.of {K : Frag} {c : Addr} (h : lX K c = true) : cK K c := by
 unfold lX at h
 simp only [zAk, beq_iff_eq] at h
 obtain ⟨⟨⟨⟨⟨⟨⟨⟨⟨⟨h1, h2⟩, h3⟩, h4⟩, h5⟩, h6⟩, h9⟩, h10⟩, h11⟩, h12⟩, h13⟩ := h
 exact ⟨h1, h2, h3, h4, h5, h6, fun T hT => by rcases hT with e | e | e | e | e <;> subst e <;> assumption⟩
structure et (K : Frag) (c : Addr) : Prop where
 cls : (clsIn K c).isSome = true
 ga : findIn K (.ref c) "__getattribute__" = some (some (.builtin "BaseException.__getattribute__"))
 hook : findIn K (.ref c) "__getattr__" = some none
 at_ : findIn K (.ref c) "__class__" = some (some (.builtin "object.__class__"))
 get : specialIn K (.builtin "object.__class__") "__get__" = some (some (.builtin "getset_descriptor.__get__"))
 takes : takesIn K (.builtin "object.__class__") = some true
 obj : mroIn K c (.type "object") = some true
 exc : mroIn K c (.type "BaseException") = some true
 not : ∀ T, (T = "int" ∨ T = "bool" ∨ T = "tuple" ∨ T = "list" ∨ T = "str") -> kitOne K (.ref c) (.type T) = some false
section
variable {prog : Program} {w : World} {A : Around} {E : Value -> Shared -> Prop} {s : Shared} {K : Frag} {e c : Addr}
theorem vX {R : Result -> Shared -> Prop} {tp : Value} (X : K.In s.heap) (p : ExcAt e c s.heap) (hm : mroIn K c (.type "object") = some true) (hq : R (.ok (.ret (.ref c))) s) :
  codeAny (model prog w) A (.call (.builtin "getset_descriptor.__get__") ⟨[.builtin "object.__class__", .ref e, tp], []⟩) R s := by
 obtain ⟨h, g, dr, t, os⟩ := s
 have La := p.ty (M := model prog w)
 have Lb := looks_mroIn (M := model prog w) X hm
 refine codeAny_call_builtin (KF.slot_gs.plain) KF.entry_gs (KF.slot_gs.check _ _ _ _ _ _ _ _ KF.type_class (KF.args_gs _ _ _) ?_)
 unfold Builtin.«getset_descriptor.__get__» descrGet
 rw [dga_obj]
 refine wpAny_bind (wpAny_pure ?_)
 unfold descrGetter descrCheckInstance descrNameAndClass isInstance
 simp only [KF.owner_class]
 repeat lk
 refine ⟨Code.quiet_builtin _ (by decide +kernel), codeAny_builtin KF.entry_class ?_⟩
 unfold Builtin.«object.__class__» shownTypeOf
 repeat lk
 exact hq
theorem vB {M : Model} {h : Heap} (k : et K c) (X : K.In h) : Looks M h (find (.ref e) (.ref c) "__class__") (.bind (.builtin "getset_descriptor.__get__") (.builtin "object.__class__")) := by
 have La := looks_findIn (M := M) X k.at_
 have Lb : Looks M h (getOf (some (.builtin "object.__class__"))) (some (.builtin "getset_descriptor.__get__")) := looks_specialIn X k.get
 have Lc := looks_takesIn (M := M) X k.takes
 refine La.andThen (Lb.andThen ?_)
 exact (show Looks M h (dataDescriptor? (some (.builtin "object.__class__")) (some (.builtin "getset_descriptor.__get__"))) (some (.builtin "getset_descriptor.__get__", .builtin "object.__class__")) from Lc.andThen .now).andThen (Looks.tag .now)
theorem uB {tk : Tok} {Q : Fin -> Shared -> Prop} (k : et K c) (X : K.In s.heap) (p : ExcAt e c s.heap) (hq : Q (.done (.ret (.ref c))) s) :
  wpAny (model prog w) A (Builtin.«object.__getattribute__» ⟨[.ref e, .str "__class__" tk], []⟩) Q E s := by
 obtain ⟨h, g, dr, t, os⟩ := s
 have La := p.ty (M := model prog w)
 have Lb := vB (M := model prog w) (e := e) k X
 refine wpAny_bind (wpAny_pure ?_)
 refine wpAny_bind (wpAny_pure ?_)
 refine wpAny_bind (La.at (wpAny_bind (Lb.at ?_)))
 show wpAny _ _ (bindTo _ _ _ _) _ _ _
 unfold bindTo
 repeat (first | with_reducible refine wpAny_bind ?_ | with_reducible refine wpAny_holding ?_)
 refine wpAny_call (vX X p k.obj ?_)
 exact wpAny_pure hq
theorem uA {M : Model} {nv : Value} {Q : Unit -> Shared -> Prop} (k : et K c) (X : K.In s.heap) (p : ExcAt e c s.heap) (hq : Q () s) :
  wpAny M A (checkBuiltinCall "BaseException.__getattribute__" ⟨[.ref e, nv], []⟩) Q E s := by
 obtain ⟨h, g, dr, t, os⟩ := s
 have hk : builtinKind "BaseException.__getattribute__" = some .slot := by decide +kernel
 have hsp : splitId "BaseException.__getattribute__" = some ("BaseException", "__getattribute__") := by decide +kernel
 have ha := F.args_bexc_ga (.ref e) nv
 have La := p.ty (M := M)
 have Lb := looks_mroIn (M := M) X k.exc
 have Li : Looks M h (isInstance (.ref e) (.type "BaseException")) true := La.andThen Lb
 simp only [checkBuiltinCall, hk, hsp]
 refine wpAny_bind (Li.at ?_)
 repeat (first | wp_step)
 exact hq
theorem x_call {tk : Tok} {R : Result -> Shared -> Prop} (k : et K c) (X : K.In s.heap) (p : ExcAt e c s.heap) (hq : R (.ok (.ret (.ref c))) s) :
  codeAny (model prog w) A (.call (.builtin "BaseException.__getattribute__") ⟨[.ref e, .str "__class__" tk], []⟩) R s :=
 codeAny_call_builtin F.excAttr_ValueError.ga.plain F.entry_bexc_ga (uA k X p (uB k X p hq))
theorem vA {Q : Option Value -> Shared -> Prop} (k : et K c) (X : K.In s.heap) (p : ExcAt e c s.heap) (hq : Q (some (.ref c)) { s with toks := s.toks + 1 }) :
  wpAny (model prog w) A (getAttr? (.ref e) "__class__") Q E s := by
 obtain ⟨h, g, dr, t, os⟩ := s
 have La := p.ty (M := model prog w)
 have Lb := looks_findIn (M := model prog w) X k.ga
 have Lc := looks_findIn (M := model prog w) X k.hook
 have f3 := F.excAttr_ValueError.ga.bind (.ref e)
 unfold getAttr? getAttrBy? getAttrBy
 refine wpAny_bind (wpAny_mkText (wpAny_bind (wpAny_attempt (wpAny_holding (wpAny_bind (La.at (wpAny_bind (Lb.at ?_))))))))
 have hne : (Value.builtin "BaseException.__getattribute__" == Value.builtin "object.__getattribute__") = false := by decide +kernel
 simp only [onTheHeap, Bool.true_and, hne, zAb, if_false]
 unfold getAttrByItsOwn hookBefore
 simp only [onTheHeap, if_true]
 refine wpAny_bind (Lc.at ?_)
 refine wpAny_bind (wpAny_attempt (wpAny_holding ?_))
 unfold callGetattribute boundAndCalled
 simp only [zA5, zAb, if_false]
 refine wpAny_bind (wpAny_of_eq f3 ?_)
 refine wpAny_call (x_call k X p ?_)
 refine wpAny_pure (a := Value.ref c) ?_
 exact wpAny_pure hq
theorem lS (k : et K c) : KitX K (.ref e) (.ref c) (ExcAt e c) where
 ty := fun _ _ _ p => p.ty
 it := fun _ _ X _ => by
  have h := k.cls
  unfold clsIn at h
  split at h
  ·rename_i c' d' cd' sl' ho
   intro A' Q' E' s' kk q
   unfold isType loadHead
   exact wpAny_bind (wpAny_loadPart (kk _ _ (X _ _ ho)) (wpAny_pure q))
  ·cases h
 ne := fun h tp dd its n sl X htp => by
  have h := k.cls
  refine Bool.eq_false_iff.mpr fun q => ?_
  have z : c = tp := Value.ref.inj (beq_iff_eq.mp q)
  subst z
  unfold clsIn at h
  split at h
  ·rename_i c' d' cd' sl' ho
   cases (X _ _ ho).symm.trans htp
  ·cases h
 ca := fun X p kk => vA k X p kk
end
end PX
namespace PD
open PySem PySem.Spec PyProof.Rows L2 PX
abbrev St := L2.St
def NT : HO -> Prop
 | .tbl _ => False
 | _ => True
def wm : Str := "lightest.<locals>.<lambda>"
def uC (c : Addr) : Heap -> Prop := fun h => h.CodeRec (.ref c) wm
def cG (H : Hp) : Prop := ∀ P ps, H P = some (.tbl ps) -> TriplesOk ps.toList /\ ∀ pos cv, codeAmong pos ps.toList = some cv -> ∃ c, cv = .ref c /\ H c = some (.ext (uC c))
def tabOf (K : PySem.W.Frag) : Option Addr :=
 match PySem.W.nsIn K mainGlobals "lightest" with
 | some (some (.ref f)) => (match K.lookup f with
  | some ⟨_, _, .func fd, _⟩ => (match fd.code with
   | .ref c => (match K.lookup c with
    | some ⟨_, _, .fields vs, _⟩ => (match (vs[11]? : Option Value) with
     | some (.ref P) => if (K.lookup P).isNone = true then some P else none
     | _ => none)
    | _ => none)
   | _ => none)
  | _ => none)
 | _ => none
structure ah (H H' : Hp) : Prop where
 kp : ∀ b o, H b = some o -> NT o -> H' b = some o
 tb : ∀ b ps, H b = some (.tbl ps) -> ∃ more, H' b = some (.tbl (ps ++ more))
 ok : cG H -> cG H'
theorem ah.app {H H' : Hp} (e : ah H H') (b : Addr) (o : HO) (h : H b = some o) (nt : NT o := by first | exact True.intro | assumption) : H' b = some o := e.kp b o h nt
instance {H H' : Hp} : CoeFun (ah H H') (fun _ => ∀ (b : Addr) (o : HO), H b = some o -> (nt : NT o := by first | exact True.intro | assumption) -> H' b = some o) := ⟨@ah.app H H'⟩
theorem ah.refl (H : Hp) : ah H H := ⟨fun _ _ h _ => h, fun _ ps h => ⟨#[], by rw [h]; simp⟩, id⟩
theorem ah.trans {H H1 H2 : Hp} (a : ah H H1) (b : ah H1 H2) : ah H H2 := ⟨fun c o h n => b.kp c o (a.kp c o h n) n, fun c ps h => by
 obtain ⟨m1, e1⟩ := a.tb c ps h
 obtain ⟨m2, e2⟩ := b.tb c _ e1
 exact ⟨m1 ++ m2, by rw [e2, zA4]⟩, fun h => b.ok (a.ok h)⟩
theorem ah.ex {H H' : Hp} (e : ah H H') {b : Addr} {o : HO} (h : H b = some o) : ∃ o', H' b = some o' := by
 by_cases n : NT o
 ·exact ⟨o, e.kp b o h n⟩
 ·cases o with
  | tbl ps =>
   obtain ⟨m, q⟩ := e.tb b ps h
   exact ⟨_, q⟩
  | _ => exact absurd True.intro n
theorem ah.free {H H' : Hp} (e : ah H H') {l : Addr} (h : H' l = Option.none) : H l = Option.none := by
 cases q : H l with
 | none => rfl
 | some o =>
  obtain ⟨o', z⟩ := e.ex q
  rw [h] at z; cases z
theorem ah.seq {K : PySem.W.Frag} {H H' : Hp} {a : Addr} {xs : List V} (e : ah H H') (h : SqL K H a xs) : SqL K H' a xs := by
 rcases h with (h | ⟨o, h⟩) | h
 ·exact .inl (.inl (e _ _ h))
 ·exact .inl (.inr ⟨o, e _ _ h⟩)
 ·exact .inr h
theorem cG.upd {H : Hp} {p : Addr} {o : HO} (n : NT o) (hp : H p = none ∨ ∃ u, H p = some u /\ (∀ φ, u ≠ .ext φ) /\ NT u) (h : cG H) : cG (upd H p o) := by
 intro P ps e
 have hne : P ≠ p := fun z => by
  subst z
  rw [ax] at e
  cases e
  exact n
 rw [aq hne] at e
 obtain ⟨h1, h2⟩ := h P ps e
 refine ⟨h1, fun pos cv q => ?_⟩
 obtain ⟨c, e1, e2⟩ := h2 pos cv q
 refine ⟨c, e1, ?_⟩
 rw [aq fun z => ?_]
 ·exact e2
 ·subst z
  rcases hp with hp | ⟨u, hp, hu, _⟩
  ·rw [hp] at e2; cases e2
  ·rw [hp] at e2; cases e2; exact hu _ rfl
structure fq (K : PySem.W.Frag) (H : Hp) : Prop where
 ok : cG H
 at' : ∀ P, tabOf K = some P -> ∃ ps, H P = some (.tbl ps)
theorem fq.same {K : PySem.W.Frag} {H H' : Hp} (h : fq K H) (e : ah H H') : fq K H' := ⟨e.ok h.ok, fun P q => by
 obtain ⟨ps, z⟩ := h.at' P q
 obtain ⟨m, z⟩ := e.tb P ps z
 exact ⟨_, z⟩⟩
theorem fq.upd {K : PySem.W.Frag} {H : Hp} {p : Addr} {o : HO} (h : fq K H) (n : NT o) (hp : H p = none ∨ ∃ u, H p = some u /\ (∀ φ, u ≠ .ext φ) /\ NT u) : fq K (upd H p o) := ⟨cG.upd n hp h.ok, fun P q => by
 obtain ⟨ps, z⟩ := h.at' P q
 refine ⟨ps, ?_⟩
 rw [aq fun e => ?_]
 ·exact z
 ·subst e
  rcases hp with hp | ⟨u, hp, _, hu⟩
  ·rw [hp] at z; cases z
  ·rw [hp] at z; cases z; exact hu⟩
inductive D where
 | non | bl (b : Bool) | int (i : Int) | str (x : Str) | tup (ds : List D) | lst (t : Bool) (ds : List D) | exc (c : Addr) | obj (C : Addr) (ns : List Str) (ds : List D)
def Sol : HO -> Prop
 | .ext _ => True | .ins _ _ _ => True | _ => False
theorem Sol.nt {o : HO} (h : Sol o) : NT o := by cases o <;> first | exact True.intro | exact h.elim
def SqG (K : PySem.W.Frag) (H : Hp) (t : Bool) (a : Addr) (vs : List V) : Prop := SqL K H a vs /\ (t = true -> H a = some (.lst vs) /\ K.lookup a = none)
theorem SqG.same {K : PySem.W.Frag} {H H' : Hp} {t : Bool} {a : Addr} {vs : List V} (e : ah H H') (q : SqG K H t a vs) : SqG K H' t a vs := ⟨e.seq q.1, fun z => ⟨e _ _ (q.2 z).1, (q.2 z).2⟩⟩
theorem SqG.any {K : PySem.W.Frag} {H : Hp} {a : Addr} {vs : List V} (q : SqL K H a vs) : SqG K H false a vs := ⟨q, fun z => by cases z⟩
theorem SqG.new {K : PySem.W.Frag} {H : Hp} {t : Bool} {a : Addr} {vs : List V} (q : H a = some (.lst vs)) (k : K.lookup a = none) : SqG K H t a vs := ⟨SqL.of q, fun _ => ⟨q, k⟩⟩
def SqT (_ : PySem.W.Frag) (H : Hp) (a : Addr) (xs : List V) : Prop := H a = some (.tup xs)
theorem SqT.w {K : PySem.W.Frag} {H : Hp} {a : Addr} {xs : List V} (h : SqT K H a xs) : L2.SqT K H a xs := .inl (.inl h)
theorem SqT.of {K : PySem.W.Frag} {H : Hp} {a : Addr} {xs : List V} (h : H a = some (.tup xs)) : SqT K H a xs := h
mutual
def Den (K : PySem.W.Frag) (P : Bool -> Addr -> Prop) (H : Hp) : D -> V -> Prop
 | .non, v => v = .non
 | .bl b, v => v = .bl b
 | .int i, v => v = .int i
 | .str x, v => v = .str x
 | .tup ds, v => ∃ a vs, v = .ref a /\ SqT K H a vs /\ af K P H ds vs
 | .lst t ds, v => ∃ a vs, v = .ref a /\ ¬ P t a /\ SqG K H t a vs /\ af K P H ds vs
 | .exc c, v => ∃ e, v = .ref e /\ H e = some (.ext (ExcAt e c)) /\ et K c
 | .obj C ns ds, v => ∃ a dx vs, v = .ref a /\ H a = some (.ins C dx (ns.zip vs)) /\ vs.length = ns.length /\ cK K C /\ af K P H ds vs
def af (K : PySem.W.Frag) (P : Bool -> Addr -> Prop) (H : Hp) : List D -> List V -> Prop
 | [], vs => vs = []
 | d :: ds, vs => ∃ v r, vs = v :: r /\ Den K P H d v /\ af K P H ds r
end
section
variable {K : PySem.W.Frag} {P P' : Bool -> Addr -> Prop} {H H' : Hp}
mutual
theorem Den.map (hT : ∀ a vs, SqT K H a vs -> SqT K H' a vs) (hL : ∀ t a vs, ¬ P t a -> SqG K H t a vs -> ¬ P' t a /\ SqG K H' t a vs) (hX : ∀ a o, Sol o -> H a = some o -> H' a = some o) : ∀ (d : D) (v : V), Den K P H d v -> Den K P' H' d v
 | .non, _, h => by simpa only [Den] using h
 | .bl _, _, h => by simpa only [Den] using h
 | .int _, _, h => by simpa only [Den] using h
 | .str _, _, h => by simpa only [Den] using h
 | .tup ds, _, h => by
  simp only [Den] at h ⊢
  obtain ⟨a, vs, e, q, r⟩ := h
  exact ⟨a, vs, e, hT a vs q, af.map hT hL hX ds vs r⟩
 | .lst t ds, _, h => by
  simp only [Den] at h ⊢
  obtain ⟨a, vs, e, p, q, r⟩ := h
  exact ⟨a, vs, e, (hL t a vs p q).1, (hL t a vs p q).2, af.map hT hL hX ds vs r⟩
 | .exc c, _, h => by
  simp only [Den] at h ⊢
  obtain ⟨a, e, q, k⟩ := h
  exact ⟨a, e, hX a _ True.intro q, k⟩
 | .obj C ns ds, _, h => by
  simp only [Den] at h ⊢
  obtain ⟨a, dx, vs, e, q, l, k, r⟩ := h
  exact ⟨a, dx, vs, e, hX a _ True.intro q, l, k, af.map hT hL hX ds vs r⟩
theorem af.map (hT : ∀ a vs, SqT K H a vs -> SqT K H' a vs) (hL : ∀ t a vs, ¬ P t a -> SqG K H t a vs -> ¬ P' t a /\ SqG K H' t a vs) (hX : ∀ a o, Sol o -> H a = some o -> H' a = some o) : ∀ (ds : List D) (vs : List V), af K P H ds vs -> af K P' H' ds vs
 | [], _, h => by simpa only [af] using h
 | d :: ds, _, h => by
  simp only [af] at h ⊢
  obtain ⟨v, r, e, h1, h2⟩ := h
  exact ⟨v, r, e, Den.map hT hL hX d v h1, af.map hT hL hX ds r h2⟩
end
end
theorem SqT.same {K : PySem.W.Frag} {H H' : Hp} {a : Addr} {xs : List V} (e : ah H H') (h : SqT K H a xs) : SqT K H' a xs := e _ _ h
section
variable {K : PySem.W.Frag} {P : Bool -> Addr -> Prop} {H H' : Hp}
theorem Den.same {d : D} {v : V} (e : ah H H') (h : Den K P H d v) : Den K P H' d v := Den.map (fun _ _ q => SqT.same e q) (fun _ _ _ p q => ⟨p, q.same e⟩) (fun a _ n q => e.kp a _ q n.nt) d v h
theorem af.same {ds : List D} {vs : List V} (e : ah H H') (h : af K P H ds vs) : af K P H' ds vs := af.map (fun _ _ q => SqT.same e q) (fun _ _ _ p q => ⟨p, q.same e⟩) (fun a _ n q => e.kp a _ q n.nt) ds vs h
theorem Den.fewer {P' : Bool -> Addr -> Prop} {d : D} {v : V} (e : ∀ t a, P' t a -> P t a) (h : Den K P H d v) : Den K P' H d v := Den.map (fun _ _ q => q) (fun _ _ _ p q => ⟨fun z => p (e _ _ z), q⟩) (fun _ _ _ q => q) d v h
theorem af.fewer {P' : Bool -> Addr -> Prop} {ds : List D} {vs : List V} (e : ∀ t a, P' t a -> P t a) (h : af K P H ds vs) : af K P' H ds vs := af.map (fun _ _ q => q) (fun _ _ _ p q => ⟨fun z => p (e _ _ z), q⟩) (fun _ _ _ q => q) ds vs h
theorem af.len : ∀ {ds : List D} {vs : List V}, af K P H ds vs -> vs.length = ds.length
 | [], _, h => by simp only [af] at h; subst h; rfl
 | d :: ds, _, h => by
  simp only [af] at h
  obtain ⟨v, r, rfl, _, h2⟩ := h
  simp [af.len h2]
theorem af.get : ∀ {ds : List D} {vs : List V} {i : Nat} {d : D}, af K P H ds vs -> ds[i]? = some d -> ∃ v, vs[i]? = some v /\ Den K P H d v
 | [], _, _, _, _, e => by simp at e
 | d :: ds, _, 0, _, h, e => by
  simp only [af] at h
  obtain ⟨v, r, rfl, h1, _⟩ := h
  simp at e; subst e
  exact ⟨v, rfl, h1⟩
 | d :: ds, _, i + 1, x, h, e => by
  simp only [af] at h
  obtain ⟨v, r, rfl, _, h2⟩ := h
  obtain ⟨u, e1, e2⟩ := af.get (i := i) (d := x) h2 (by simpa using e)
  exact ⟨u, by simpa using e1, e2⟩
theorem af.bu : ∀ {ds : List D} {vs : List V} {i : Nat} {v : V}, af K P H ds vs -> vs[i]? = some v -> ∃ d, ds[i]? = some d /\ Den K P H d v
 | [], _, _, _, h, e => by simp only [af] at h; subst h; simp at e
 | d :: ds, _, 0, _, h, e => by
  simp only [af] at h
  obtain ⟨v, r, rfl, h1, _⟩ := h
  simp at e; subst e
  exact ⟨d, rfl, h1⟩
 | d :: ds, _, i + 1, x, h, e => by
  simp only [af] at h
  obtain ⟨v, r, rfl, _, h2⟩ := h
  obtain ⟨u, e1, e2⟩ := af.bu (i := i) (v := x) h2 (by simpa using e)
  exact ⟨u, by simpa using e1, e2⟩
theorem af.append : ∀ {ds es : List D} {vs us : List V}, af K P H ds vs -> af K P H es us -> af K P H (ds ++ es) (vs ++ us)
 | [], _, _, _, h, h' => by simp only [af] at h; subst h; exact h'
 | d :: ds, _, _, _, h, h' => by
  simp only [af] at h
  obtain ⟨v, r, rfl, h1, h2⟩ := h
  simp only [List.cons_append, af]
  exact ⟨v, _, rfl, h1, af.append h2 h'⟩
theorem af.one {d : D} {v : V} (h : Den K P H d v) : af K P H [d] [v] := by
 simp only [af]
 exact ⟨v, [], rfl, h, rfl⟩
theorem af.nil : af K P H [] [] := by simp only [af]
theorem af.cons {d : D} {v : V} {ds : List D} {vs : List V} (h : Den K P H d v) (h' : af K P H ds vs) : af K P H (d :: ds) (v :: vs) := by
 simp only [af]
 exact ⟨v, vs, rfl, h, h'⟩
theorem Den.int_ {i : Int} {v : V} (h : Den K P H (.int i) v) : v = .int i := by simpa only [Den] using h
theorem Den.bl_ {b : Bool} {v : V} (h : Den K P H (.bl b) v) : v = .bl b := by simpa only [Den] using h
theorem Den.non_ {v : V} (h : Den K P H .non v) : v = .non := by simpa only [Den] using h
theorem Den.str_ {x : Str} {v : V} (h : Den K P H (.str x) v) : v = .str x := by simpa only [Den] using h
theorem Den.int (i : Int) : Den K P H (.int i) (.int i) := by simp only [Den]
theorem Den.bl (b : Bool) : Den K P H (.bl b) (.bl b) := by simp only [Den]
theorem Den.non : Den K P H .non .non := by simp only [Den]
theorem Den.str (x : Str) : Den K P H (.str x) (.str x) := by simp only [Den]
theorem Den.tup_ {ds : List D} {v : V} (h : Den K P H (.tup ds) v) : ∃ a vs, v = .ref a /\ SqT K H a vs /\ af K P H ds vs := by simpa only [Den] using h
theorem Den.lstG_ {t : Bool} {ds : List D} {v : V} (h : Den K P H (.lst t ds) v) : ∃ a vs, v = .ref a /\ ¬ P t a /\ SqG K H t a vs /\ af K P H ds vs := by simpa only [Den] using h
theorem Den.lst_ {t : Bool} {ds : List D} {v : V} (h : Den K P H (.lst t ds) v) : ∃ a vs, v = .ref a /\ ¬ P t a /\ SqL K H a vs /\ af K P H ds vs := by
 obtain ⟨a, vs, h1, h2, h3, h4⟩ := h.lstG_
 exact ⟨a, vs, h1, h2, h3.1, h4⟩
theorem Den.obj_ {C : Addr} {ns : List Str} {ds : List D} {v : V} (h : Den K P H (.obj C ns ds) v) : ∃ a dx vs, v = .ref a /\ H a = some (.ins C dx (ns.zip vs)) /\ vs.length = ns.length /\ cK K C /\ af K P H ds vs := by simpa only [Den] using h
theorem Den.obj {C a dx : Addr} {ns : List Str} {ds : List D} {vs : List V} (h : H a = some (.ins C dx (ns.zip vs))) (l : vs.length = ns.length) (k : cK K C) (d : af K P H ds vs) : Den K P H (.obj C ns ds) (.ref a) := by simp only [Den]; exact ⟨a, dx, vs, rfl, h, l, k, d⟩
theorem Den.exc_ {c : Addr} {v : V} (h : Den K P H (.exc c) v) : ∃ e, v = .ref e /\ H e = some (.ext (ExcAt e c)) /\ et K c := by simpa only [Den] using h
theorem Den.exc {c e : Addr} (h : H e = some (.ext (ExcAt e c))) (k : et K c) : Den K P H (.exc c) (.ref e) := by simp only [Den]; exact ⟨e, rfl, h, k⟩
theorem Den.tup {ds : List D} {a : Addr} {vs : List V} (h : SqT K H a vs) (h' : af K P H ds vs) : Den K P H (.tup ds) (.ref a) := by simp only [Den]; exact ⟨a, vs, rfl, h, h'⟩
theorem Den.lst {t : Bool} {ds : List D} {a : Addr} {vs : List V} (p : ¬ P t a) (h : SqG K H t a vs) (h' : af K P H ds vs) : Den K P H (.lst t ds) (.ref a) := by simp only [Den]; exact ⟨a, vs, rfl, p, h, h'⟩
end
inductive LI where
 | own (ds : List D) | val (d : D)
inductive OS where
 | lst (ds : List D) | dk (kvs : List (Key × D)) | dt (kvs : List (List Key × D)) | ll (xs : List LI)
inductive Sl where
 | val (d : D)
 | ob (x : OS)
abbrev Sl.own (ds : List D) : Sl := .ob (.lst ds)
def cF (K : PySem.W.Frag) (P : Bool -> Addr -> Prop) (H : Hp) (B : Nat -> Option Addr) : Nat -> List LI -> List V -> Prop
 | _, [], vs => vs = []
 | k, .own ds :: r, vs => ∃ b us u, vs = .ref b :: u /\ B k = some b /\ H b = some (.lst us) /\ af K P H ds us /\ cF K P H B (k + 1) r u
 | k, .val d :: r, vs => ∃ v u, vs = v :: u /\ Den K P H d v /\ cF K P H B (k + 1) r u
theorem cF.map {K : PySem.W.Frag} {P P' : Bool -> Addr -> Prop} {H H' : Hp} {B B' : Nat -> Option Addr} (hd : ∀ ds vs, af K P H ds vs -> af K P' H' ds vs) (hB : ∀ k b, B k = some b -> B' k = some b /\ ∀ us, H b = some (.lst us) -> H' b = some (.lst us)) : ∀ {k : Nat} {xs : List LI} {vs : List V}, cF K P H B k xs vs -> cF K P' H' B' k xs vs
 | _, [], _, h => by simpa only [cF] using h
 | k, .own ds :: r, _, h => by
  simp only [cF] at h ⊢
  obtain ⟨b, us, u, e, h1, h2, h3, h4⟩ := h
  exact ⟨b, us, u, e, (hB k b h1).1, (hB k b h1).2 us h2, hd ds us h3, cF.map hd hB h4⟩
 | k, .val d :: r, _, h => by
  simp only [cF] at h ⊢
  obtain ⟨v, u, e, h1, h2⟩ := h
  have h3 := hd [d] [v] (af.one h1)
  simp only [af] at h3
  obtain ⟨v', r', e', h4, _⟩ := h3
  cases e'
  exact ⟨v, u, e, h4, cF.map hd hB h2⟩
inductive bJ (K : PySem.W.Frag) (P : Bool -> Addr -> Prop) (H : Hp) (B : Nat -> Option Addr) : OS -> HO -> Prop where
 | lst {ds : List D} {vs : List V} (h : af K P H ds vs) : bJ K P H B (.lst ds) (.lst vs)
 | ll {xs : List LI} {vs : List V} (h : cF K P H B 0 xs vs) : bJ K P H B (.ll xs) (.lst vs)
 | dk {kvs : List (Key × D)} {kws : List (Key × V)} (e : kws.map (·.1) = kvs.map (·.1)) (h : af K P H (kvs.map (·.2)) (kws.map (·.2))) : bJ K P H B (.dk kvs) (.dK kws)
 | dt {kvs : List (List Key × D)} {kws : List (List Key × V)} (e : kws.map (·.1) = kvs.map (·.1)) (h : af K P H (kvs.map (·.2)) (kws.map (·.2))) : bJ K P H B (.dt kvs) (.dT kws)
def eA : HO -> Prop
 | .lst _ => True | .dK _ => True | .dT _ => True | _ => False
theorem eA.nt {o : HO} (h : eA o) : NT o := by cases o <;> first | exact True.intro | exact h.elim
theorem eA.sol {o : HO} (h : eA o) : ¬ Sol o := by cases o <;> first | exact h.elim | exact fun z => z
theorem eA.ne {o : HO} (h : eA o) : ∀ φ, o ≠ .ext φ := fun _ e => by subst e; exact h
section
variable {K : PySem.W.Frag} {P P' : Bool -> Addr -> Prop} {H H' : Hp} {B B' : Nat -> Option Addr} {x : OS} {o : HO}
theorem bJ.map (k : ∀ ds vs, af K P H ds vs -> af K P' H' ds vs) (hB : ∀ k b, B k = some b -> B' k = some b /\ ∀ us, H b = some (.lst us) -> H' b = some (.lst us)) (h : bJ K P H B x o) : bJ K P' H' B' x o := by
 cases h with
 | lst h => exact .lst (k _ _ h)
 | ll h => exact .ll (h.map k hB)
 | dk e h => exact .dk e (k _ _ h)
 | dt e h => exact .dt e (k _ _ h)
theorem bJ.same (e : ah H H') (h : bJ K P H B x o) : bJ K P H' B x o := h.map (fun _ _ z => z.same e) fun _ _ q => ⟨q, fun _ z => e _ _ z⟩
theorem bJ.fewer (e : ∀ t a, P' t a -> P t a) (hB : ∀ k b, B k = some b -> B' k = some b) (h : bJ K P H B x o) : bJ K P' H B' x o := h.map (fun _ _ z => z.fewer e) fun k b q => ⟨hB k b q, fun _ z => z⟩
theorem bJ.mut (h : bJ K P H B x o) : eA o := by cases h <;> exact True.intro
theorem bJ.lst_ {ds : List D} (h : bJ K P H B (.lst ds) o) : ∃ vs, o = .lst vs /\ af K P H ds vs := by
 cases h with
 | lst h => exact ⟨_, rfl, h⟩
end
abbrev Ro := List (Option Sl)
structure Own where
 B : Addr -> Prop
 O : Nat -> Option Addr
 S : Addr -> Prop
def Own.bad (W : Own) (t : Bool) (a : Addr) : Prop := W.B a ∨ (∃ i, W.O i = some a) ∨ (t = true /\ W.S a)
def Own.drop (W : Own) (i : Nat) : Own := ⟨W.B, fun j => if j = i then none else W.O j, W.S⟩
def Own.put (W : Own) (i : Nat) (a : Addr) : Own := ⟨W.B, fun j => if j = i then some a else W.O j, W.S⟩
theorem Own.drop_bad {W : Own} {i : Nat} {t : Bool} {a : Addr} (h : (W.drop i).bad t a) : W.bad t a := by
 rcases h with h | ⟨j, h⟩ | h
 ·exact .inl h
 ·have h' : (if j = i then none else W.O j) = some a := h
  by_cases e : j = i
  ·rw [if_pos e] at h'; cases h'
  ·rw [if_neg e] at h'; exact .inr (.inl ⟨j, h'⟩)
 ·exact .inr (.inr h)
theorem Own.bad_up {W : Own} {t : Bool} {a : Addr} (h : W.bad false a) : W.bad t a := by
 rcases h with h | h | ⟨h, _⟩
 ·exact .inl h
 ·exact .inr (.inl h)
 ·cases h
def vix (n i k : Nat) : Nat := n * (k + 1) + i
theorem mD {n i j k : Nat} (h : j < n) : vix n i k ≠ j := fun e => by
 unfold vix at e
 rw [Nat.mul_add] at e
 omega
abbrev Own.sub (W : Own) (n i : Nat) (k : Nat) : Option Addr := W.O (vix n i k)
theorem Own.drop_sub {W : Own} {n i j : Nat} (h : i < n) (k : Nat) (b : Addr) (e : W.sub n j k = some b) : (W.drop i).sub n j k = some b := by
 show (if vix n j k = i then none else W.O (vix n j k)) = _
 rw [if_neg (mD h)]
 exact e
structure Rel (X : Cx) (W : Own) (H : Hp) (σ : St) (ρ : Ro) : Prop where
 val : ∀ (i : Nat) (d : D), ρ[i]? = some (some (Sl.val d)) -> ∃ v, σ[i]? = some (some v) /\ Den X.K W.bad H d v
 own : ∀ (i : Nat) (x : OS), ρ[i]? = some (some (Sl.ob x)) -> ∃ a o, W.O i = some a /\ σ[i]? = some (some (.ref a)) /\ H a = some o /\ bJ X.K W.bad H (W.sub σ.length i) x o
 inj : ∀ i j a, W.O i = some a -> W.O j = some a -> i = j
 kn : ∀ i a, W.O i = some a -> X.K.lookup a = none /\ (¬ W.B a /\ ¬ W.S a) /\ ∃ o, H a = some o /\ eA o
 ke : ∀ i a, W.O i = some a -> X.H₀ a = none
 bt : ∀ a, W.B a -> ∃ o, H a = some o
 st : ∀ a, W.S a -> ∃ o, H a = some o
 ent : ah X.H₀ H
 tab : fq X.K H
theorem Rel.same {X : Cx} {W : Own} {H H' : Hp} {σ : St} {ρ : Ro} (r : Rel X W H σ ρ) (e : ah H H') : Rel X W H' σ ρ where
 val := fun i d h => let ⟨v, h1, h2⟩ := r.val i d h; ⟨v, h1, h2.same e⟩
 own := fun i ds h => let ⟨a, vs, h1, h2, h3, h4⟩ := r.own i ds h; ⟨a, vs, h1, h2, e.kp _ _ h3 h4.mut.nt, h4.same e⟩
 inj := r.inj
 kn := fun i a h => let ⟨h1, h2, o, h3, h4⟩ := r.kn i a h; ⟨h1, h2, o, e.kp _ _ h3 h4.nt, h4⟩
 ke := r.ke
 bt := fun a h => let ⟨_, q⟩ := r.bt a h; e.ex q
 st := fun a h => let ⟨_, q⟩ := r.st a h; e.ex q
 ent := r.ent.trans e
 tab := r.tab.same e
theorem Rel.ownL {X : Cx} {W : Own} {H : Hp} {σ : St} {ρ : Ro} (r : Rel X W H σ ρ) (i : Nat) (ds : List D) (h : ρ[i]? = some (some (Sl.own ds))) : ∃ a vs, W.O i = some a /\ σ[i]? = some (some (.ref a)) /\ H a = some (.lst vs) /\ af X.K W.bad H ds vs := by
 obtain ⟨a, o, h1, h2, h3, h4⟩ := r.own i _ h
 obtain ⟨vs, e, h5⟩ := h4.lst_
 subst e
 exact ⟨a, vs, h1, h2, h3, h5⟩
theorem Rel.tracked {X : Cx} {W : Own} {H : Hp} {σ : St} {ρ : Ro} (r : Rel X W H σ ρ) (t : Bool) (a : Addr) (h : W.bad t a) : ∃ o, H a = some o := by
 rcases h with h | ⟨i, h⟩ | ⟨_, h⟩
 ·exact r.bt a h
 ·obtain ⟨_, _, o, q, _⟩ := r.kn i a h
  exact ⟨_, q⟩
 ·exact r.st a h
theorem Rel.fresh {X : Cx} {W : Own} {H : Hp} {σ : St} {ρ : Ro} (r : Rel X W H σ ρ) {t : Bool} {p : Addr} (h : H p = none) : ¬ W.bad t p := fun z => by
 obtain ⟨o, q⟩ := r.tracked t p z
 rw [h] at q; cases q
structure Fwd (W : Own) (H : Hp) (W' : Own) (H' : Hp) : Prop where
 B : W'.B = W.B
 S : W'.S = W.S
 kp : ∀ b o, (∀ i, W.O i ≠ some b) -> H b = some o -> NT o -> H' b = some o
 new : ∀ i a, W'.O i = some a -> (∃ j, W.O j = some a) ∨ H a = none
 tb : ∀ b ps, H b = some (.tbl ps) -> ∃ more, H' b = some (.tbl (ps ++ more))
 ok : cG H -> cG H'
theorem Fwd.keep {W W' : Own} {H H' : Hp} (f : Fwd W H W' H') (b : Addr) (o : HO) (h : ∀ i, W.O i ≠ some b) (q : H b = some o) (nt : NT o := by first | exact True.intro | assumption) : H' b = some o := f.kp b o h q nt
theorem Fwd.ex {W W' : Own} {H H' : Hp} (f : Fwd W H W' H') {b : Addr} {o : HO} (h : ∀ i, W.O i ≠ some b) (q : H b = some o) : ∃ o', H' b = some o' := by
 by_cases n : NT o
 ·exact ⟨o, f.kp b o h q n⟩
 ·cases o with
  | tbl ps =>
   obtain ⟨m, e⟩ := f.tb b ps q
   exact ⟨_, e⟩
  | _ => exact absurd True.intro n
theorem Fwd.refl (W : Own) (H : Hp) : Fwd W H W H := ⟨rfl, rfl, fun _ _ _ h _ => h, fun i _ h => .inl ⟨i, h⟩, fun _ ps h => ⟨#[], by rw [h]; simp⟩, id⟩
theorem Fwd.trans {W W1 W2 : Own} {H H1 H2 : Hp} (a : Fwd W H W1 H1) (b : Fwd W1 H1 W2 H2) : Fwd W H W2 H2 := by
 refine ⟨b.B.trans a.B, b.S.trans a.S, fun x o n h t => b.kp x o (fun i z => ?_) (a.kp x o n h t) t, fun i x h => ?_, fun c ps h => ?_, fun h => b.ok (a.ok h)⟩
 ·rcases a.new i x z with ⟨j, q⟩ | q
  ·exact n j q
  ·rw [h] at q; cases q
 ·rcases b.new i x h with ⟨j, q⟩ | q
  ·exact a.new j x q
  ·by_cases z : ∃ j, W.O j = some x
   ·exact .inl z
   ·refine .inr ?_
    cases e : H x with
    | none => rfl
    | some o =>
     obtain ⟨o', this⟩ := a.ex (fun i w => z ⟨i, w⟩) e
     rw [this] at q; cases q
 ·obtain ⟨m1, e1⟩ := a.tb c ps h
  obtain ⟨m2, e2⟩ := b.tb c _ e1
  exact ⟨m1 ++ m2, by rw [e2, zA4]⟩
theorem Fwd.same {W : Own} {H H' : Hp} (e : ah H H') : Fwd W H W H' := ⟨rfl, rfl, fun _ _ _ h n => e.kp _ _ h n, fun i _ h => .inl ⟨i, h⟩, e.tb, e.ok⟩
theorem ah.ins {H₀ H : Hp} (e : ah H₀ H) {a : Addr} {o o' : HO} (h0 : H₀ a = none) (ha : H a = some o) (hm : eA o) (hn : NT o') : ah H₀ (upd H a o') :=
 ⟨fun b u h n => by rw [aq (aM h h0)]; exact e.kp b u h n, fun b ps h => by rw [aq (aM h h0)]; exact e.tb b ps h, fun h => cG.upd hn (.inr ⟨o, ha, hm.ne, hm.nt⟩) (e.ok h)⟩
theorem Fwd.upd {W : Own} {H : Hp} {i : Nat} {a : Addr} {o o' : HO} (oa : W.O i = some a) (ha : H a = some o) (hm : eA o) (hn : NT o') : Fwd W H W (upd H a o') :=
 ⟨rfl, rfl, fun b u n h _ => by rw [aq fun e => n i (by rw [e]; exact oa)]; exact h, fun j _ h => .inl ⟨j, h⟩, fun b ps h => ⟨#[], by rw [aq (fun e => by subst e; rw [ha] at h; cases h; exact hm), h]; simp⟩, cG.upd hn (.inr ⟨o, ha, hm.ne, hm.nt⟩)⟩
structure d4 where
 nx : Ro -> Prop
 rt : D -> Prop
 bk : Ro -> Prop := fun _ => False
 ct : Ro -> Prop := fun _ => False
abbrev DE := Ro -> (D -> Prop) -> Prop
abbrev DT := Ro -> (Bool -> Prop) -> Prop
abbrev DA := Ro -> (List D -> Prop) -> Prop
abbrev DS := d4 -> Ro -> Prop
def DP (X : Cx) (pins : List (Addr × Obj)) (σ : St) (W : Own) (H : Hp) (Q : D -> Prop) (u : Value) (s' : Shared) : Prop :=
 ∃ v H' d, Inv X pins σ H' s' /\ RelV v u /\ ah H H' /\ Den X.K W.bad H' d v /\ Q d
def DTP (X : Cx) (pins : List (Addr × Obj)) (σ : St) (H : Hp) (Q : Bool -> Prop) (b : Bool) (s' : Shared) : Prop :=
 ∃ H', Inv X pins σ H' s' /\ ah H H' /\ Q b
def DAP (X : Cx) (pins : List (Addr × Obj)) (σ : St) (W : Own) (H : Hp) (Q : List D -> Prop) (us : List Value) (s' : Shared) : Prop :=
 ∃ vs H' ds, Inv X pins σ H' s' /\ Vals vs us /\ ah H H' /\ af X.K W.bad H' ds vs /\ Q ds
def SPD (X : Cx) (pins : List (Addr × Obj)) (W : Own) (H : Hp) (E : d4) (f : Flow) (s' : Shared) : Prop :=
 ∃ W' σ' H', Inv X pins σ' H' s' /\ Fwd W H W' H' ∧
 match f with
 | .next => ∃ ρ', Rel X W' H' σ' ρ' /\ E.nx ρ'
 | .brk => ∃ ρ', Rel X W' H' σ' ρ' /\ E.bk ρ'
 | .cont => ∃ ρ', Rel X W' H' σ' ρ' /\ E.ct ρ'
 | .ret u => ∃ v d, RelV v u /\ Den X.K W'.bad H' d v /\ E.rt d
def PED (X : Cx) (e : Expr) (t : DE) : Prop :=
 ∀ (pins : List (Addr × Obj)) (s : Shared) (σ : St) (H : Hp) (W : Own) (ρ : Ro) (Q : D -> Prop), Inv X pins σ H s -> Rel X W H σ ρ -> t ρ Q →
  wpAny (model X.prog X.w) X.A (eval e X.env) (DP X pins σ W H Q) X.xe s
def PTD (X : Cx) (e : Expr) (t : DT) : Prop :=
 ∀ (pins : List (Addr × Obj)) (s : Shared) (σ : St) (H : Hp) (W : Own) (ρ : Ro) (Q : Bool -> Prop), Inv X pins σ H s -> Rel X W H σ ρ -> t ρ Q →
  wpAny (model X.prog X.w) X.A (isTrue e X.env (eval e X.env)) (DTP X pins σ H Q) X.xe s
def PWD (X : Cx) (e : Expr) (t : DT) : Prop :=
 ∀ (whole : Sem Value) (pins : List (Addr × Obj)) (s : Shared) (σ : St) (H : Hp) (W : Own) (ρ : Ro) (Q : Bool -> Prop), Inv X pins σ H s -> Rel X W H σ ρ -> t ρ Q →
  wpAny (model X.prog X.w) X.A (isTrue e X.env whole) (DTP X pins σ H Q) X.xe s
theorem PWD.pt {X : Cx} {e : Expr} {t : DT} (h : PWD X e t) : PTD X e t := h _
def PAD (X : Cx) (es : List Expr) (t : DA) : Prop :=
 ∀ (pos : Pos) (pins : List (Addr × Obj)) (s : Shared) (σ : St) (H : Hp) (W : Own) (ρ : Ro) (Q : List D -> Prop), Inv X pins σ H s -> Rel X W H σ ρ -> t ρ Q →
  wpAny (model X.prog X.w) X.A (spliced (backTo pos (starEach es X.env))) (DAP X pins σ W H Q) X.xe s
def PSD (X : Cx) (st : Stmt) (t : DS) : Prop :=
 ∀ (pins : List (Addr × Obj)) (s : Shared) (σ : St) (H : Hp) (W : Own) (ρ : Ro) (E : d4), Inv X pins σ H s -> Rel X W H σ ρ -> t E ρ →
  wpAny (model X.prog X.w) X.A (exec st X.env) (SPD X pins W H E) X.xe s
def b6 (X : Cx) (st : List Stmt) (t : DS) : Prop :=
 ∀ (pins : List (Addr × Obj)) (s : Shared) (σ : St) (H : Hp) (W : Own) (ρ : Ro) (E : d4), Inv X pins σ H s -> Rel X W H σ ρ -> t E ρ →
  wpAny (model X.prog X.w) X.A (execs st X.env) (SPD X pins W H E) X.xe s
def kN (X : Cx) (t : DE) : TE := fun σ H Q => ∃ W ρ Qd, Rel X W H σ ρ /\ t ρ Qd /\ ∀ v H' d, ah H H' -> Den X.K W.bad H' d v -> Qd d -> Q v H'
def vI (X : Cx) (t : DS) : TS := fun D σ H => ∃ W ρ Ed, Rel X W H σ ρ /\ t Ed ρ ∧
 (∀ W' σ' H' ρ', Fwd W H W' H' -> Rel X W' H' σ' ρ' -> Ed.nx ρ' -> D.nx σ' H') ∧
 (∀ W' H' v d, Fwd W H W' H' -> Den X.K W'.bad H' d v -> Ed.rt d -> D.rt v H') ∧
 (∀ W' σ' H' ρ', Fwd W H W' H' -> Rel X W' H' σ' ρ' -> Ed.bk ρ' -> D.bk σ' H') ∧
 (∀ W' σ' H' ρ', Fwd W H W' H' -> Rel X W' H' σ' ρ' -> Ed.ct ρ' -> D.ct σ' H')
section
variable {X : Cx}
theorem PED.pe {e : Expr} {t : DE} (h : PED X e t) : PE X e (kN X t) := by
 intro pins s σ H Q I q
 obtain ⟨W, ρ, Qd, r, ht, k⟩ := q
 exact thn (h pins s σ H W ρ Qd I r ht) fun u s1 ⟨v, H', d, I1, rv, e1, hd, qd⟩ => ⟨v, H', I1, rv, k v H' d e1 hd qd⟩
theorem b6.ps {st : List Stmt} {t : DS} (h : b6 X st t) : PSs X st (vI X t) := by
 intro pins s σ H D I q
 obtain ⟨W, ρ, Ed, r, ht, k1, k2, k3, k4⟩ := q
 refine thn (h pins s σ H W ρ Ed I r ht) fun f s1 ⟨W', σ', H', I1, fw, q⟩ => ?_
 cases f with
 | next => obtain ⟨ρ', r', q'⟩ := q; exact ⟨σ', H', I1, k1 W' σ' H' ρ' fw r' q'⟩
 | brk => obtain ⟨ρ', r', q'⟩ := q; exact ⟨σ', H', I1, k3 W' σ' H' ρ' fw r' q'⟩
 | cont => obtain ⟨ρ', r', q'⟩ := q; exact ⟨σ', H', I1, k4 W' σ' H' ρ' fw r' q'⟩
 | ret u => obtain ⟨v, d, rv, hd, q'⟩ := q; exact ⟨v, σ', H', I1, rv, k2 W' H' v d fw hd q'⟩
theorem PED.of {e : Expr} {te : TE} {t : DE} (h : PE X e te) (k : ∀ σ H W ρ Q, Rel X W H σ ρ -> t ρ Q -> te σ H fun v H' => ah H H' /\ ∃ d, Den X.K W.bad H' d v /\ Q d) : PED X e t := by
 intro pins s σ H W ρ Q I r ht
 exact thn (h pins s σ H _ I (k σ H W ρ Q r ht)) fun u s1 ⟨v, H', I1, rv, e1, d, hd, q⟩ => ⟨v, H', d, I1, rv, e1, hd, q⟩
end
section
variable {X : Cx} {a b c : Expr} {ta tb : DE} {pos : Pos}
def oA (i : Nat) : DE := fun ρ Q => ∃ d, ρ[i]? = some (some (.val d)) /\ Q d
def dC (d : D) : DE := fun _ Q => Q d
theorem dv (i : Nat) {x : Str} {pos : Pos} (hN : X.N[i]? = some x := by rfl) (hv : Vis X.env.scope x := by first | exact Or.inl rfl | exact Or.inr (Or.inl rfl) | exact Or.inr (Or.inr rfl)) (hd : (x == ("__debug__" : Str)) = false := by decide)
  (hcd : (x == ("__classdict__" : Str)) = false := by decide) : PED X (.Name x pos) (oA i) :=
 PED.of (dH hN hv hd hcd) fun σ H W ρ Q r ht => by
  obtain ⟨d, e, q⟩ := ht
  obtain ⟨v, e1, e2⟩ := r.val i d e
  exact ⟨v, e1, ah.refl H, d, e2, q⟩
theorem ae {i j pos} : PED X (.Constant (.int i) j pos) (dC (.int i)) := PED.of vm fun _ H _ _ _ _ q => ⟨ah.refl H, _, Den.int i, q⟩
theorem br {i j pos} : PED X (.Constant (.bool i) j pos) (dC (.bl i)) := PED.of vP fun _ H _ _ _ _ q => ⟨ah.refl H, _, Den.bl i, q⟩
theorem uM {j pos} : PED X (.Constant .none j pos) (dC .non) := PED.of vn fun _ H _ _ _ _ q => ⟨ah.refl H, _, Den.non, q⟩
abbrev RD2 := D -> D -> (D -> Prop) -> Prop
def OpD (X : Cx) (f : Value -> Value -> Sem Value) (r : RD2) : Prop :=
 ∀ (pins : List (Addr × Obj)) (s : Shared) (σ : St) (H : Hp) (W : Own) (x y : D) (v u : V) (vv uu : Value) (Q : D -> Prop), Inv X pins σ H s -> (∀ t a, W.bad t a -> ∃ o, H a = some o) -> RelV v vv -> RelV u uu -> Den X.K W.bad H x v -> Den X.K W.bad H y u -> r x y Q →
  wpAny (model X.prog X.w) X.A (f vv uu) (DP X pins σ W H Q) X.xe s
def dOp (r : RD2) (ta tb : DE) : DE := fun ρ Q => ta ρ fun x => tb ρ fun y => r x y Q
theorem nY (ha : PED X a ta) (hb : PED X b tb) {pins : List (Addr × Obj)} {s : Shared} {σ : St} {H : Hp} {W : Own} {ρ : Ro} {R : D -> D -> Prop} (I : Inv X pins σ H s) (r : Rel X W H σ ρ) (h : ta ρ fun x => tb ρ fun y => R x y)
  {α : Type} {Q : α -> Shared -> Prop} {f : Value -> Value -> Sem α}
  (hf : ∀ vv uu s2 v u x y H2, Inv X pins σ H2 s2 -> ah H H2 -> RelV v vv -> RelV u uu -> Den X.K W.bad H2 x v -> Den X.K W.bad H2 y u -> R x y -> wpAny (model X.prog X.w) X.A (f vv uu) Q X.xe s2) :
  wpAny (model X.prog X.w) X.A (eval a X.env) (fun v s₁ => wpAny (model X.prog X.w) X.A (eval b X.env) (fun u s₂ => wpAny (model X.prog X.w) X.A (f v u) Q X.xe s₂) X.xe s₁) X.xe s := by
 refine thn (ha pins s σ H W ρ _ I r h) fun vv s1 ⟨v, H1, x, I1, rv, e1, hx, q1⟩ => ?_
 refine thn (hb pins s1 σ H1 W ρ _ I1 (r.same e1) q1) fun uu s2 ⟨u, H2, y, I2, ru, e2, hy, q2⟩ => ?_
 exact hf vv uu s2 v u x y H2 I2 (e1.trans e2) rv ru (hx.same e2) hy q2
theorem DP.up {pins : List (Addr × Obj)} {σ : St} {W : Own} {H H1 : Hp} {Q : D -> Prop} {u : Value} {s' : Shared} (e : ah H H1) (h : DP X pins σ W H1 Q u s') : DP X pins σ W H Q u s' := by
 obtain ⟨v, H', d, I, r, e1, hd, q⟩ := h
 exact ⟨v, H', d, I, r, e.trans e1, hd, q⟩
theorem aj {op : Operator} {r : RD2} (ho : OpD X (binaryOp op) r) (ha : PED X a ta) (hb : PED X b tb) : PED X (.BinOp a op b pos) (dOp r ta tb) := by
 intro pins s σ H W ρ Q I rr h
 refine wpAny_BinOp (nY ha hb I rr h fun vv uu s2 v u x y H2 I2 e rv ru hx hy q => ?_)
 exact thn (ho pins s2 σ H2 W x y v u vv uu Q I2 (rr.same e).tracked rv ru hx hy q) fun _ _ z => z.up e
theorem vC {op : UnaryOp} {r : V -> Hp -> VK -> Prop} {rd : D -> (D -> Prop) -> Prop} (ho : UnR X (unaryOp op) r) (ha : PED X a ta)
  (k : ∀ P H d v Q, Den X.K P H d v -> rd d Q -> r v H fun v' H' => ah H H' /\ ∃ d', Den X.K P H' d' v' /\ Q d') : PED X (.UnaryOp op a pos) (fun ρ Q => ta ρ fun x => rd x Q) := by
 intro pins s σ H W ρ Q I rr h
 refine UnaryOp_ (thn (ha pins s σ H W ρ _ I rr h) fun vv s1 ⟨v, H1, x, I1, rv, e1, hx, q1⟩ => ?_)
 exact thn (ho pins s1 σ H1 v vv _ I1 rv (k _ H1 x v Q hx q1)) fun u s2 ⟨w', H2, I2, r2, e2, d, hd, q2⟩ => ⟨w', H2, d, I2, r2, e1.trans e2, hd, q2⟩
def rD (ta : DE) : DE := fun ρ Q => ta ρ fun x => ∃ i, x = .int i /\ Q (.int (-i))
theorem bV (ha : PED X a ta) : PED X (.UnaryOp .USub a pos) (rD ta) :=
 vC (rd := fun x Q => ∃ i, x = .int i /\ Q (.int (-i))) vz ha fun P H d v Q hd ⟨i, e, q⟩ => by
  subst e
  exact ⟨i, hd.int_, ah.refl H, _, Den.int _, q⟩
theorem OpD.of {f : Value -> Value -> Sem Value} {r : R2} {rd : RD2} (h : OpR X f r) (k : ∀ P H x y v u Q, Den X.K P H x v -> Den X.K P H y u -> rd x y Q -> r v u H fun v' H' => ah H H' /\ ∃ d', Den X.K P H' d' v' /\ Q d') : OpD X f rd := by
 intro pins s σ H W x y v u vv uu Q I _ rv ru hx hy q
 exact thn (h pins s σ H v u vv uu _ I rv ru (k _ H x y v u Q hx hy q)) fun _ s2 ⟨w', H2, I2, r2, e2, d, hd, q2⟩ => ⟨w', H2, d, I2, r2, e2, hd, q2⟩
def rdI (C : Int -> Int -> Prop) (g : Int -> Int -> D) : RD2 := fun x y Q => ∃ i j, x = .int i /\ y = .int j /\ C i j /\ Q (g i j)
def fA (g : Int -> Int -> D) : RD2 := fun x y Q => ∃ i j, x = .int i /\ y = .int j /\ Q (g i j)
theorem OpD.ofI {f : Value -> Value -> Sem Value} {C : Int -> Int -> Prop} {g : Int -> Int -> Int} (h : OpR X f (rI C fun i j => .int (g i j))) : OpD X f (rdI C fun i j => .int (g i j)) :=
 OpD.of h fun P H x y v u Q hx hy ⟨i, j, e1, e2, hc, q⟩ => by
  subst e1 e2
  exact ⟨i, j, hx.int_, hy.int_, hc, ah.refl H, _, Den.int _, q⟩
theorem OpD.ofI0 {f : Value -> Value -> Sem Value} {g : Int -> Int -> Int} (h : OpR X f (rI0 fun i j => .int (g i j))) : OpD X f (fA fun i j => .int (g i j)) :=
 OpD.of h fun P H x y v u Q hx hy ⟨i, j, e1, e2, q⟩ => by
  subst e1 e2
  exact ⟨i, j, hx.int_, hy.int_, ah.refl H, _, Den.int _, q⟩
theorem OpD.ofB0 {f : Value -> Value -> Sem Value} {g : Int -> Int -> Bool} (h : OpR X f (rI0 fun i j => .bl (g i j))) : OpD X f (fA fun i j => .bl (g i j)) :=
 OpD.of h fun P H x y v u Q hx hy ⟨i, j, e1, e2, q⟩ => by
  subst e1 e2
  exact ⟨i, j, hx.int_, hy.int_, ah.refl H, _, Den.bl _, q⟩
theorem u7 : OpD X (binaryOp .Add) (fA fun i j => .int (i + j)) := OpD.ofI0 vf
theorem aS : OpD X (binaryOp .Sub) (fA fun i j => .int (i - j)) := OpD.ofI0 vi
theorem oW : OpD X (compareOp .Lt) (fA fun i j => .bl (decide (i < j))) := OpD.ofB0 vN
theorem jr : OpD X (compareOp .LtE) (fA fun i j => .bl (decide (i <= j))) := OpD.ofB0 vM
theorem kP : OpD X (compareOp .Gt) (fA fun i j => .bl (decide (j < i))) := OpD.ofB0 vL
def Bd (n : Nat) (x : Int) : Prop := x.natAbs < 2 ^ n
theorem Bd.mono {m n : Nat} {x : Int} (h : Bd m x) (l : m <= n) : Bd n x := zAH h (Nat.pow_le_pow_right (by decide) l)
theorem Bd.mul {m n : Nat} {x y : Int} (h : Bd m x) (h' : Bd n y) : Bd (m + n) (x * y) := by
 unfold Bd at *
 rw [Int.natAbs_mul, Nat.pow_add]
 exact Nat.mul_lt_mul'' h h'
theorem Bd.add {m : Nat} {x y : Int} (h : Bd m x) (h' : Bd m y) : Bd (m + 1) (x + y) := by
 unfold Bd at *
 rw [zAj]
 have := Int.natAbs_add_le x y
 omega
theorem Bd.sub {m : Nat} {x y : Int} (h : Bd m x) (h' : Bd m y) : Bd (m + 1) (x - y) := by
 unfold Bd at *
 rw [zAj]
 have := Int.natAbs_sub_le x y
 omega
theorem Bd.bits {n : Nat} {x : Int} (h : Bd n x) : Builtin.Int.intBits x <= n := by
 unfold Bd at h
 unfold Builtin.Int.intBits
 split
 ·exact zAZ _
 ·rename_i hz
  have hp : x.natAbs ≠ 0 := by
   intro e
   apply hz
   have : x = 0 := Int.natAbs_eq_zero.mp e
   simp [this]
  have := (Nat.log2_lt hp).mpr h
  omega
def CM (i j : Int) : Prop := Bd 64 i ∨ Bd 64 j ∨ (Bd 100000 i /\ Bd 100000 j)
theorem CM.ok {i j : Int} (h : CM i j) : IntMulOk i j := by
 rcases h with h | h | ⟨h, h'⟩
 ·exact .of_left h.bits
 ·exact .of_right h.bits
 ·exact .of_bits (zAa h.bits (by decide)) (zAa h'.bits (by decide))
theorem ue : OpR X (binaryOp .Mult) (rI CM fun i j => .int (i * j)) := opI fun _ _ _ _ _ _ _ hc q => mul_int q hc.ok
theorem aL : OpD X (binaryOp .Mult) (rdI CM fun i j => .int (i * j)) := OpD.ofI ue
def CD (_ : Int) (j : Int) : Prop := j ≠ 0 /\ Bd 8000 j
theorem CD.noPy {i j : Int} (h : CD i j) : Builtin.divisionGoesByPylong i j = false := by
 refine PyProof.noPylong_of_log2 ?_
 have hz : j.natAbs ≠ 0 := fun e => h.1 (Int.natAbs_eq_zero.mp e)
 have := (Nat.log2_lt hz).mpr h.2
 omega
theorem sv : OpR X (binaryOp .FloorDiv) (rI CD fun i j => .int (i.fdiv j)) := opI fun _ _ _ _ _ _ _ hc q => floordiv_int hc.1 q (.inl hc.noPy)
theorem bZ : OpD X (binaryOp .FloorDiv) (rdI CD fun i j => .int (i.fdiv j)) := OpD.ofI sv
theorem aE : OpD X (binaryOp .Mod) (rdI (fun _ j => j ≠ 0) fun i j => .int (i.fmod j)) := OpD.ofI ud
theorem hJ : OpD X (binaryOp .Pow) (rdI q9 fun i j => .int (i ^ j.toNat)) := OpD.ofI vh
def dB (t : DE) : DT := fun ρ Q => t ρ fun x => ∃ k, x = .bl k /\ Q k
theorem bD {op : CmpOp} {r : RD2} (ho : OpD X (compareOp op) r) (ha : PED X a ta) (hb : PED X b tb) (hm : behindInMarks op b = false := by first | exact lV _ (by decide) (by decide) | rfl) : PED X (.Compare a [op] [b] pos) (dOp r ta tb) := by
 intro pins s σ H W ρ Q I rr h
 refine wpAny_Compare1 (nY ha hb I rr h fun vv uu s2 v u x y H2 I2 e rv ru hx hy q => ?_) hm
 exact thn (ho pins s2 σ H2 W x y v u vv uu Q I2 (rr.same e).tracked rv ru hx hy q) fun _ _ z => z.up e
theorem aK {op : CmpOp} {r : RD2} (ho : OpD X (compareOp op) r) (ha : PED X a ta) (hb : PED X b tb) (hm : behindInMarks op b = false := by first | exact lV _ (by decide) (by decide) | rfl) : PTD X (.Compare a [op] [b] pos) (dB (dOp r ta tb)) := by
 intro pins s σ H W ρ Q I rr h
 refine wpAny_isTrue_Compare1 (thn (ha pins s σ H W ρ _ I rr h) fun vv s1 ⟨v, H1, x, I1, rv, e1, hx, q1⟩ => thn (hb pins s1 σ H1 W ρ _ I1 (rr.same e1) q1) fun uu s2 ⟨u, H2, y, I2, ru, e2, hy, q2⟩ =>
  thn (ho pins s2 σ H2 W x y v u vv uu _ I2 ((rr.same e1).same e2).tracked rv ru (hx.same e2) hy q2) fun c s3 ⟨z, H3, d, I3, r3, e3, hd, k, ek, q3⟩ => ?_) hm
 subst ek
 have hz := hd.bl_
 subst hz
 cases r3
 exact wpAny_truthy_bool ⟨H3, I3, e1.trans (e2.trans e3), q3⟩
theorem aX {e : Expr} {t : DE} (h : PED X e t) (he : ∀ whole, isTrue e X.env whole = (do let v ← whole; standAt e.pos; holding [v] (truthy v)) := by intro _; rfl) : PTD X e (dB t) := by
 intro pins s σ H W ρ Q I rr hw
 refine isTrue_plain (thn (h pins s σ H W ρ _ I rr hw) fun vv s1 ⟨v, H1, x, I1, rv, e1, hx, k, ek, q⟩ => ?_) (he _)
 subst ek
 have hz := hx.bl_
 subst hz
 cases rv
 exact wpAny_truthy_bool ⟨H1, I1, e1, q⟩
variable {tA tB' : DT} {rest : List Expr}
def rj (t u : DT) : DT := fun ρ Q => t ρ fun c => if c = true then u ρ Q else Q false
def dOr (t u : DT) : DT := fun ρ Q => t ρ fun c => if c = true then Q true else u ρ Q
def rF (t : DT) : DT := fun ρ Q => t ρ fun c => Q (!c)
theorem tR (ha : PTD X a tA) : PWD X (.BoolOp .And [a] pos) tA := by
 intro wh pins s σ H W ρ Q I rr h
 refine isTrue_and (thn (ha pins s σ H W ρ Q I rr h) fun c s1 e => ?_)
 cases c with
 | true => exact isTrue_and_nil e
 | false => exact e
theorem bW (ha : PTD X a tA) : PWD X (.BoolOp .Or [a] pos) tA := by
 intro wh pins s σ H W ρ Q I rr h
 refine isTrue_or (thn (ha pins s σ H W ρ Q I rr h) fun c s1 e => ?_)
 cases c with
 | false => exact isTrue_or_nil e
 | true => exact e
theorem uQ (ha : PTD X a tA) (hb : PWD X (.BoolOp .And (b :: rest) pos) tB') : PWD X (.BoolOp .And (a :: b :: rest) pos) (rj tA tB') := by
 intro wh pins s σ H W ρ Q I rr h
 refine isTrue_and (thn (ha pins s σ H W ρ _ I rr h) fun c s1 ⟨H1, I1, e1, q1⟩ => ?_)
 cases c with
 | true => exact thn (hb wh pins s1 σ H1 W ρ Q I1 (rr.same e1) q1) fun _ _ ⟨H2, I2, e2, q2⟩ => ⟨H2, I2, e1.trans e2, q2⟩
 | false => exact ⟨H1, I1, e1, q1⟩
theorem cH (ha : PTD X a tA) (hb : PWD X (.BoolOp .Or (b :: rest) pos) tB') : PWD X (.BoolOp .Or (a :: b :: rest) pos) (dOr tA tB') := by
 intro wh pins s σ H W ρ Q I rr h
 refine isTrue_or (thn (ha pins s σ H W ρ _ I rr h) fun c s1 ⟨H1, I1, e1, q1⟩ => ?_)
 cases c with
 | true => exact ⟨H1, I1, e1, q1⟩
 | false => exact thn (hb wh pins s1 σ H1 W ρ Q I1 (rr.same e1) q1) fun _ _ ⟨H2, I2, e2, q2⟩ => ⟨H2, I2, e1.trans e2, q2⟩
theorem cP (ha : PTD X a tA) : PTD X (.UnaryOp .Not a pos) (rF tA) := by
 intro pins s σ H W ρ Q I rr h
 exact isTrue_not (ha pins s σ H W ρ (fun c => Q (!c)) I rr h)
def nZ (ta tb : DE) : DE := fun ρ Q => ta ρ fun x => ∃ c, x = .bl c /\ if c = true then tb ρ Q else Q (.bl false)
def uH (ta tb : DE) : DE := fun ρ Q => ta ρ fun x => ∃ c, x = .bl c /\ if c = true then Q (.bl true) else tb ρ Q
def om (ta : DE) : DE := fun ρ Q => ta ρ fun x => ∃ c, x = .bl c /\ Q (.bl (!c))
theorem bF {op} {t : DE} (h : PED X a t) : PED X (.BoolOp op [a] pos) t := fun pins s σ H W ρ Q I rr hw => BoolOp_one (h pins s σ H W ρ Q I rr hw)
theorem bq (ha : PED X a ta) (hb : PED X (.BoolOp .And (b :: rest) pos) tb) : PED X (.BoolOp .And (a :: b :: rest) pos) (nZ ta tb) := by
 intro pins s σ H W ρ Q I rr h
 refine BoolOp_and (thn (ha pins s σ H W ρ _ I rr h) fun vv s1 ⟨v, H1, x, I1, rv, e1, hx, c, ec, q1⟩ => ?_)
 subst ec
 have hz := hx.bl_
 subst hz
 cases rv
 refine wpAny_truthy_bool ?_
 cases c with
 | true => exact thn (hb pins s1 σ H1 W ρ Q I1 (rr.same e1) q1) fun _ _ z => z.up e1
 | false => exact ⟨.bl false, H1, _, I1, rfl, e1, Den.bl _, q1⟩
theorem gS (ha : PED X a ta) : PED X (.UnaryOp .Not a pos) (om ta) := by
 intro pins s σ H W ρ Q I rr h
 refine UnaryOp_ (thn (ha pins s σ H W ρ _ I rr h) fun vv s1 ⟨v, H1, x, I1, rv, e1, hx, c, ec, q1⟩ => ?_)
 subst ec
 have hz := hx.bl_
 subst hz
 cases rv
 exact not_of (wpAny_truthy_bool ⟨.bl (!c), H1, _, I1, rfl, e1, Den.bl _, q1⟩)
def dIf (t : DT) (ta tb : DE) : DE := fun ρ Q => t ρ fun c => if c = true then ta ρ Q else tb ρ Q
def ib : RD2 := fun x y Q => ∃ ds i d, (x = .tup ds ∨ ∃ t, x = .lst t ds) /\ y = .int i /\ atI ds i = some d /\ Q d
theorem kZ {K : PySem.W.Frag} {P : Bool -> Addr -> Prop} {H : Hp} {ds : List D} {vs : List V} {i : Int} {d : D} (h : af K P H ds vs) (e : atI ds i = some d) : ∃ v, atI vs i = some v /\ Den K P H d v := by
 unfold atI at e ⊢
 rw [h.len]
 cases q : ixN ds.length i with
 | none => rw [q] at e; cases e
 | some j =>
  rw [q] at e
  exact h.get e
theorem av (ha : PED X a ta) (hb : PED X b tb) (hs : tK b := by intro _ _; rfl) : PED X (.Subscript a b pos) (dOp ib ta tb) := by
 intro pins s σ H W ρ Q I rr h
 refine Subscript_ (nY ha hb I rr h fun vv uu s2 v u x y H2 I2 e rv ru hx hy q => ?_)
 obtain ⟨ds, i, d, ex, ey, ei, q⟩ := q
 subst ey
 have hu := hy.int_
 subst hu
 have fin : ∀ (v' : V), Den X.K W.bad H2 d v' -> ah H2 H2 /\ ∃ d', Den X.K W.bad H2 d' v' /\ Q d' := fun v' hd => ⟨ah.refl _, d, hd, q⟩
 rcases ex with ex | ⟨tg, ex⟩
 ·subst ex
  obtain ⟨p, vs, ev, hq, hd⟩ := hx.tup_
  subst ev
  obtain ⟨v', e1, e2⟩ := kZ hd ei
  exact thn (uW a b pins s2 σ H2 _ _ vv uu (fun v' H' => ah H2 H' /\ ∃ d', Den X.K W.bad H' d' v' /\ Q d') I2 rv ru ⟨p, vs, i, v', rfl, rfl, hq.w, e1, fin v' e2⟩ (hs _ _))
   fun _ s3 ⟨w', H3, I3, r3, e3, d', hd', q'⟩ => ⟨w', H3, d', I3, r3, e.trans e3, hd', q'⟩
 ·subst ex
  obtain ⟨p, vs, ev, _, hq, hd⟩ := hx.lst_
  subst ev
  obtain ⟨v', e1, e2⟩ := kZ hd ei
  exact thn (tX a b pins s2 σ H2 _ _ vv uu (fun v' H' => ah H2 H' /\ ∃ d', Den X.K W.bad H' d' v' /\ Q d') I2 rv ru ⟨p, vs, i, v', rfl, rfl, hq, e1, fin v' e2⟩ (hs _ _))
   fun _ s3 ⟨w', H3, I3, r3, e3, d', hd', q'⟩ => ⟨w', H3, d', I3, r3, e.trans e3, hd', q'⟩
end
section
variable {X : Cx} {e : Expr} {es : List Expr} {te : DE} {t : DA} {pos : Pos}
def oj : DA := fun _ Q => Q []
def n5 (ta : DE) (tr : DA) : DA := fun ρ Q => ta ρ fun x => tr ρ fun xs => Q (x :: xs)
theorem ag : PAD X [] oj := fun _ _ _ _ H W ρ Q I _ h => Calls.spliced_nil ⟨[], H, [], I, .nil, ah.refl H, af.nil, h⟩
theorem aa (ha : PED X e te) (hr : PAD X es t) (hs : starEach (e :: es) X.env = (false, eval e X.env) :: starEach es X.env := by rfl) : PAD X (e :: es) (n5 te t) := by
 intro pos pins s σ H W ρ Q I rr h
 rw [hs]
 show wpAny _ _ (spliced ((false, eval e X.env) :: backTo pos (starEach es X.env))) _ _ s
 refine Calls.spliced_cons (thn (ha pins s σ H W ρ _ I rr h) fun u s1 ⟨v, H1, x, I1, r1, e1, hx, q1⟩ => ?_)
 exact thn (hr pos pins s1 σ H1 W ρ _ I1 (rr.same e1) q1) fun us s2 ⟨vs, H2, xs, I2, r2, e2, hxs, q2⟩ => ⟨v :: vs, H2, x :: xs, I2, .cons r1 r2, e1.trans e2, af.cons (hx.same e2) hxs, q2⟩
theorem ah.upd {H : Hp} {p : Addr} {o : HO} (h : H p = none) (n : NT o := by exact True.intro) : ah H (upd H p o) := ⟨fun b u e _ => by rw [aq (aM e h)]; exact e, fun b ps e => ⟨#[], by rw [aq (aM e h), e]; simp⟩, cG.upd n (.inl h)⟩
def oy (t : DA) : DE := fun ρ Q => t ρ fun ds => ds.length <= sizeLine /\ Q (.tup ds)
def rC (t : DA) : DE := fun ρ Q => t ρ fun ds => ds.length <= sizeLine /\ Q (.lst true ds)
theorem aR {x1} (h : PAD X es t) : PED X (.Tuple es x1 pos) (oy t) := by
 intro pins s σ H W ρ Q I rr hq
 refine wpAny_Tuple_spliced (thn (h pos pins s σ H W ρ _ I rr hq) fun us s1 ⟨vs, H1, ds, I1, r, e1, hd, z, q⟩ => ?_)
 rw [<- hd.len] at z
 refine ⟨by rw [<- r.length]; exact z, ?_⟩
 have hf : H1 s1.heap.objs.size = none := I1.hok.fresh (zAG _)
 refine ⟨.ref s1.heap.objs.size, L2.upd H1 s1.heap.objs.size (.tup vs), _, I1.laid (t' := s1.toks) (fun b u e => zAA _ e) (zAG _) ⟨z, us, r, ⟨_, zAD _ rfl, rfl, _, rfl⟩⟩, rfl, e1.trans (ah.upd hf), Den.tup (SqT.of ax) (hd.same (ah.upd hf)), q⟩
theorem Inv.kfresh {pins : List (Addr × Obj)} {σ : St} {H : Hp} {s : Shared} (I : Inv X pins σ H s) : X.K.lookup s.heap.objs.size = none := by
 cases e : X.K.lookup s.heap.objs.size with
 | none => rfl
 | some o => exact absurd (zAC (I.kIn _ _ e)) (zAc _)
theorem cC (h : PAD X es t) : PED X (.List es pos) (rC t) := by
 intro pins s σ H W ρ Q I rr hq
 refine wpAny_List_spliced (thn (h pos pins s σ H W ρ _ I rr hq) fun us s1 ⟨vs, H1, ds, I1, r, e1, hd, z, q⟩ => ?_)
 rw [<- hd.len] at z
 refine ⟨by rw [<- r.length]; exact z, ?_⟩
 have hf : H1 s1.heap.objs.size = none := I1.hok.fresh (zAG _)
 exact ⟨.ref s1.heap.objs.size, L2.upd H1 s1.heap.objs.size (.lst vs), _, I1.laid (t' := s1.toks) (fun b u e => zAA _ e) (zAG _) ⟨z, us, 0, r, zAD _ rfl⟩, rfl, e1.trans (ah.upd hf),
  Den.lst ((rr.same e1).fresh hf) (.new ax (Inv.kfresh I1)) (hd.same (ah.upd hf)), q⟩
end
abbrev DSp := List D -> (D -> Prop) -> (Value -> Prop) -> Prop
def aG (K : PySem.W.Frag) (sp : DSp) : Sp := fun vs H Q E => ∃ (P : Addr -> Prop) (ds : List D) (Qd : D -> Prop) (Ed : Value -> Prop), fq K H /\ (∀ a, P a -> ∃ o, H a = some o) /\ af K (fun t a => t = true ∨ P a) H ds vs /\ sp ds Qd Ed ∧
 (∀ d v H', ah H H' -> Den K (fun t a => P a ∨ (t = true /\ ∃ o, H a = some o)) H' d v -> Qd d -> Q v H') /\ ∀ c a H', ah H H' -> Ed c -> E c a H'
mutual
def aA : D -> D
 | .tup ds => .tup (aF ds)
 | .lst _ ds => .lst false (aF ds)
 | .obj C ns ds => .obj C ns (aF ds)
 | .non => .non | .bl b => .bl b | .int i => .int i | .str x => .str x | .exc c => .exc c
def aF : List D -> List D
 | [] => []
 | d :: ds => aA d :: aF ds
end
section
variable {K : PySem.W.Frag} {P : Bool -> Addr -> Prop} {P' : Addr -> Prop} {H : Hp}
mutual
theorem Den.aA (h : ∀ t a, P' a -> P t a) : ∀ (d : D) (v : V), Den K P H d v -> Den K (fun t a => t = true ∨ P' a) H (PD.aA d) v
 | .non, _, q => by simpa only [Den, PD.aA] using q
 | .bl _, _, q => by simpa only [Den, PD.aA] using q
 | .int _, _, q => by simpa only [Den, PD.aA] using q
 | .str _, _, q => by simpa only [Den, PD.aA] using q
 | .exc _, _, q => by simpa only [Den, PD.aA] using q
 | .tup ds, _, q => by
  simp only [Den, PD.aA] at q ⊢
  obtain ⟨a, vs, e, q1, q2⟩ := q
  exact ⟨a, vs, e, q1, af.aA h ds vs q2⟩
 | .obj C ns ds, _, q => by
  simp only [Den, PD.aA] at q ⊢
  obtain ⟨a, dx, vs, e, q1, l, k, q2⟩ := q
  exact ⟨a, dx, vs, e, q1, l, k, af.aA h ds vs q2⟩
 | .lst t ds, _, q => by
  simp only [Den, PD.aA] at q ⊢
  obtain ⟨a, vs, e, p, q1, q2⟩ := q
  exact ⟨a, vs, e, fun z => z.elim (fun z => by cases z) fun z => p (h t a z), .any q1.1, af.aA h ds vs q2⟩
theorem af.aA (h : ∀ t a, P' a -> P t a) : ∀ (ds : List D) (vs : List V), af K P H ds vs -> af K (fun t a => t = true ∨ P' a) H (PD.aF ds) vs
 | [], _, q => by simpa only [af, PD.aF] using q
 | d :: ds, _, q => by
  simp only [af, PD.aF] at q ⊢
  obtain ⟨v, r, e, h1, h2⟩ := q
  exact ⟨v, r, e, Den.aA h d v h1, af.aA h ds r h2⟩
end
end
theorem Den.back {K : PySem.W.Frag} {W : Own} {H H' : Hp} {d : D} {v : V} (tr : ∀ t a, W.bad t a -> ∃ o, H a = some o) (h : Den K (fun t a => W.bad false a ∨ (t = true /\ ∃ o, H a = some o)) H' d v) : Den K W.bad H' d v :=
 h.fewer fun t a z => by
  cases t with
  | false => exact .inl z
  | true => exact .inr ⟨rfl, tr true a z⟩
section
variable {X : Cx} {CX : CXT} {k : Nat} {f : Addr} {fd : FuncData} {ps : List Str} {sp : DSp} {x : Str} {p pos : Pos} {e : Expr} {es : List Expr} {t : DA}
def je (sp : DSp) (dds : List D) (t : DA) : DE := fun ρ Q => t ρ fun ds => sp (aF ds ++ dds) Q fun _ => False
def rR : D -> V
 | .non => .non | .bl b => .bl b | .int i => .int i | .str x => .str x | _ => .non
def o9 : D -> Prop
 | .tup _ => False | .lst _ _ => False | .exc _ => False | .obj _ _ _ => False | _ => True
theorem af.my {K : PySem.W.Frag} {P : Bool -> Addr -> Prop} {H : Hp} : ∀ {dds : List D}, (∀ d ∈ dds, o9 d) -> af K P H dds (dds.map rR)
 | [], _ => af.nil
 | d :: r, h => by
  refine af.cons ?_ (af.my fun x hx => h x (zAK _ hx))
  have := h d zAO
  cases d with
  | non => exact Den.non
  | bl b => exact Den.bl b
  | int i => exact Den.int i
  | str x => exact Den.str x
  | tup _ => exact this.elim
  | lst _ _ => exact this.elim
  | exc _ => exact this.elim
  | obj _ _ _ => exact this.elim
theorem o6 {dds : List D} {dsv : List Value} (F : aC X.prog X.w X.K X.mg X.base CX k f fd ps (aG X.K sp)) (hr : aW k X.A) (hb : Binds X.K fd ps dsv) (hd : Vals (dds.map rR) dsv) (hs : ∀ d ∈ dds, o9 d) (hx : Passes CX X E0)
  {pins : List (Addr × Obj)} {σ : St} {H : Hp} {s : Shared} {W : Own} {ρ : Ro} {us : List Value} {vs : List V} {ds : List D} {Q : D -> Prop} (I : Inv X pins σ H s) (rr : Rel X W H σ ρ) (r : Vals vs us) (hds : af X.K W.bad H ds vs)
  (q : sp (aF ds ++ dds) Q fun _ => False) : wpAny (model X.prog X.w) X.A (call (.ref f) us) (DP X pins σ W H Q) X.xe s := by
 refine thn (vt (Q := fun v H' => ah H H' /\ ∃ d, Den X.K W.bad H' d v /\ Q d) F hr hb hd hx I r ⟨W.bad false, aF ds ++ dds, Q, fun _ => False, rr.tab, rr.tracked false, (af.aA (fun _ _ => Own.bad_up) ds vs hds).append (af.my hs), q, fun d v H' e h1 h2 => ⟨e, d, Den.back rr.tracked h1, h2⟩, fun _ _ _ _ z => z.elim⟩)
  fun u s2 ⟨v, H2, I2, r2, e2, d, h1, h2⟩ => ⟨v, H2, d, I2, r2, e2, h1, h2⟩
theorem lu {dds : List D} {dsv : List Value} (F : aC X.prog X.w X.K X.mg X.base CX k f fd ps (aG X.K sp)) (hr : aW k X.A) (hg : Gl X x) (hm : X.mg x = some (.ref f)) (hk : PySem.W.keepIn X.K (.ref f) = true) (hb : Binds X.K fd ps dsv) (hd : Vals (dds.map rR) dsv) (hs : ∀ d ∈ dds, o9 d) (hx : Passes CX X E0)
  (ha : PAD X (e :: es) t) (hdb : (x == ("__debug__" : Str)) = false := by decide) (he : starEach (e :: es) X.env = (false, eval e X.env) :: starEach es X.env := by rfl) (hpl : (backTo pos (starEach es X.env)).any (·.1) = false := by rfl) :
  PED X (.Call (.Name x p) (e :: es) [] pos) (je sp dds t) := by
 intro pins s σ H W ρ Q I rr h
 refine wpAny_Call_Name_kw (iI I hg hm ?_ hdb)
 refine PySem.W.callWith_K (h₀ := X.base) I.ok.mod.kin hk (thn (ha pos pins s σ H W ρ _ I rr h) fun us s1 ⟨vs, H1, ds, I1, r, e1, hds, q⟩ => ⟨I1.kIn, ?_⟩) he hpl
 exact thn (o6 F hr hb hd hs hx I1 (rr.same e1) r hds q) fun _ _ z => z.up e1
def dCB (r : List D -> (D -> Prop) -> Prop) (t : DA) : DE := fun ρ Q => t ρ fun ds => r ds Q
def d0 (X : Cx) (f : Value) (r : List D -> (D -> Prop) -> Prop) : Prop :=
 ∀ (pins : List (Addr × Obj)) (s : Shared) (σ : St) (H : Hp) (W : Own) (ds : List D) (vs : List V) (us : List Value) (Q : D -> Prop), Inv X pins σ H s -> (∀ t a, W.bad t a -> ∃ o, H a = some o) -> Vals vs us -> af X.K W.bad H ds vs -> r ds Q →
  wpAny (model X.prog X.w) X.A (call f us) (DP X pins σ W H Q) X.xe s
theorem d0.of {f : Value} {r : List V -> Hp -> VK -> Prop} {rd : List D -> (D -> Prop) -> Prop} (h : iA X f r) (k : ∀ P H ds vs Q, (∀ t a, P t a -> ∃ o, H a = some o) -> af X.K P H ds vs -> rd ds Q -> r vs H fun v' H' => ah H H' /\ ∃ d', Den X.K P H' d' v' /\ Q d') : d0 X f rd := by
 intro pins s σ H W ds vs us Q I tr r hd q
 exact thn (h pins s σ H vs us _ I r (k _ H ds vs Q tr hd q)) fun _ s2 ⟨w', H2, I2, r2, e2, d, hd, q2⟩ => ⟨w', H2, d, I2, r2, e2, hd, q2⟩
variable {id T : String} {r : List D -> (D -> Prop) -> Prop}
theorem bc (hc : d0 X (.builtin id) r) (hg : Gl X x) (hm : X.mg x = none) (hv : bootBuiltins x = some (.builtin id)) (ha : PAD X (e :: es) t) (hn : x ≠ "__name__" := by decide) (hdb : (x == ("__debug__" : Str)) = false := by decide)
  (hst : starEach (e :: es) X.env = (false, eval e X.env) :: starEach es X.env := by rfl) (hpl : (backTo pos (starEach es X.env)).any (·.1) = false := by rfl) :
  PED X (.Call (.Name x p) (e :: es) [] pos) (dCB r t) := by
 intro pins s σ H W ρ Q I rr h
 refine wpAny_Call_Name_kw (dG I hg hm hv ?_ hn hdb)
 exact PyProof.Rows.callWith_builtin1 (thn (ha pos pins s σ H W ρ _ I rr h) fun us s1 ⟨vs, H1, ds, I1, rv, e1, hd, q⟩ => thn (hc pins s1 σ H1 W ds vs us Q I1 (rr.same e1).tracked rv hd q) fun _ _ z => z.up e1) hst hpl
end
end PD
namespace PD
open PySem PySem.Spec PyProof.Rows L2 PX
mutual
def pyD : D -> PyData
 | .non => .none
 | .bl b => .bool b
 | .int i => .int i
 | .str x => .str x
 | .tup ds => .tuple (bH ds)
 | .lst _ ds => .list (bH ds)
 | .exc _ => .none
 | .obj _ _ _ => .none
def bH : List D -> List PyData
 | [] => []
 | d :: ds => pyD d :: bH ds
end
mutual
def plD : D -> Bool
 | .tup ds => gs ds
 | .lst _ ds => gs ds
 | .exc _ => false
 | .obj _ _ _ => false
 | _ => true
def gs : List D -> Bool
 | [] => true
 | d :: ds => plD d && gs ds
end
def eqD (x y : D) : Bool := PyData.eqv (pyD x) (pyD y)
def okD (x : D) : Prop := plD x = true /\ SeqAt.shaped (pyD x) = true
section
variable {X : Cx} {pins : List (Addr × Obj)} {σ : St} {H : Hp} {s : Shared} {P : Bool -> Addr -> Prop}
mutual
theorem dD (I : Inv X pins σ H s) : ∀ (d : D) (v : V) (u : Value), Den X.K P H d v -> RelV v u -> plD d = true -> ∃ as, Reads s.heap u (pyD d) as
 | .non, _, _, h, r, _ => by have e := h.non_; subst e; cases r; rw [pyD]; exact ⟨_, .none⟩
 | .bl b, _, _, h, r, _ => by have e := h.bl_; subst e; cases r; rw [pyD]; exact ⟨_, .bool b⟩
 | .int i, _, _, h, r, _ => by have e := h.int_; subst e; obtain ⟨t, rfl⟩ := r; rw [pyD]; exact ⟨_, .int i t⟩
 | .str x, _, _, h, r, _ => by have e := h.str_; subst e; obtain ⟨t, rfl⟩ := r; rw [pyD]; exact ⟨_, .str x t⟩
 | .tup ds, _, _, h, r, pl => by
  rw [plD] at pl
  obtain ⟨a, vs, e, hq, hd⟩ := h.tup_
  subst e
  cases r
  obtain ⟨its, rv, ⟨o, h1, h2, n, h3⟩, _⟩ := I.tuple hq.w
  obtain ⟨as, q⟩ := gh I ds vs its hd rv pl
  rw [pyD]
  exact ⟨as, reads_tuple_at h1 h2 h3 (by simpa using q)⟩
 | .lst _ ds, _, _, h, r, pl => by
  rw [plD] at pl
  obtain ⟨a, vs, e, _, hq, hd⟩ := h.lst_
  subst e
  cases r
  obtain ⟨its, rv, ⟨o, n, h1, h2, _, h3⟩, _⟩ := I.list hq
  obtain ⟨as, q⟩ := gh I ds vs its hd rv pl
  rw [pyD]
  exact ⟨_, reads_list_at h1 h2 h3 (by simpa using q)⟩
 | .exc _, _, _, _, _, pl => by rw [plD] at pl; cases pl
 | .obj _ _ _, _, _, _, _, pl => by rw [plD] at pl; cases pl
theorem gh (I : Inv X pins σ H s) : ∀ (ds : List D) (vs : List V) (us : List Value), af X.K P H ds vs -> Vals vs us -> gs ds = true -> ∃ as, ReadsAll s.heap us (bH ds) as
 | [], _, _, h, r, _ => by simp only [af] at h; subst h; cases r; rw [bH]; exact ⟨_, .nil⟩
 | d :: ds, _, _, h, r, pl => by
  rw [gs, zAk] at pl
  simp only [af] at h
  obtain ⟨v, r', rfl, h1, h2⟩ := h
  cases r with
  | cons ra rb =>
   obtain ⟨as, q⟩ := dD I d v _ h1 ra pl.1
   obtain ⟨bs, q'⟩ := gh I ds _ _ h2 rb pl.2
   rw [bH]
   exact ⟨_, .cons q q'⟩
end
def sy : RD2 := fun x y Q => okD x /\ okD y /\ Q (.bl (eqD x y))
def sA : RD2 := fun x y Q => okD x /\ okD y /\ Q (.bl (!eqD x y))
theorem fb (hu : X.A.units + 64 < cLine) : OpD X (compareOp .Eq) sy := by
 intro pins s σ H W x y v u vv uu Q I _ rv ru hx hy q
 obtain ⟨h1, h2, q⟩ := q
 obtain ⟨as, ra⟩ := dD I x v vv hx rv h1.1
 obtain ⟨bs, rb⟩ := dD I y u uu hy ru h2.1
 exact eq_dataH ra rb h1.2 h2.2 hu ⟨.bl _, H, _, I, rfl, ah.refl H, Den.bl _, q⟩
theorem oX (hu : X.A.units + 64 < cLine) : OpD X (compareOp .NotEq) sA := by
 intro pins s σ H W x y v u vv uu Q I _ rv ru hx hy q
 obtain ⟨h1, h2, q⟩ := q
 obtain ⟨as, ra⟩ := dD I x v vv hx rv h1.1
 obtain ⟨bs, rb⟩ := dD I y u uu hy ru h2.1
 exact ne_dataH ra rb h1.2 h2.2 hu ⟨.bl _, H, _, I, rfl, ah.refl H, Den.bl _, q⟩
theorem bX : OpD X (compareOp .Eq) (fA fun i j => .bl (decide (i = j))) := OpD.of vK fun P H x y v u Q hx hy ⟨i, j, e1, e2, q⟩ => by
 subst e1 e2
 have a := hx.int_
 have b := hy.int_
 subst a b
 refine ⟨rfl, ah.refl H, _, Den.bl _, ?_⟩
 rw [show decide (V.int i = V.int j) = decide (i = j) from by rw [iD]; rfl]
 exact q
theorem lY : OpD X (compareOp .NotEq) (fA fun i j => .bl (!decide (i = j))) := OpD.of vO fun P H x y v u Q hx hy ⟨i, j, e1, e2, q⟩ => by
 subst e1 e2
 have a := hx.int_
 have b := hy.int_
 subst a b
 refine ⟨rfl, ah.refl H, _, Den.bl _, ?_⟩
 rw [show decide (V.int i = V.int j) = decide (i = j) from by rw [iD]; rfl]
 exact q
def gr : D -> Bool
 | .non => true
 | _ => false
theorem pU {K : PySem.W.Frag} {d : D} {v : V} (h : Den K P H d v) : decide (v = .non) = gr d := by
 cases d with
 | non => have := h.non_; subst this; rfl
 | bl b => have := h.bl_; subst this; rfl
 | int b => have := h.int_; subst this; rfl
 | str b => have := h.str_; subst this; rfl
 | tup ds => obtain ⟨a, vs, e, _⟩ := h.tup_; subst e; rfl
 | lst _ ds => obtain ⟨a, vs, e, _⟩ := h.lst_; subst e; rfl
 | exc c => obtain ⟨a, e, _⟩ := h.exc_; subst e; rfl
 | obj C ns ds => obtain ⟨a, dx, vs, e, _⟩ := h.obj_; subst e; rfl
theorem u9 : OpD X (compareOp .Is) (fun x y Q => y = .non /\ Q (.bl (gr x))) := OpD.of vg fun P H x y v u Q hx hy ⟨e, q⟩ => by
 subst e
 refine ⟨hy.non_, ah.refl H, _, Den.bl _, ?_⟩
 rw [pU hx]
 exact q
end
section
variable {X : Cx}
theorem sZ {K : PySem.W.Frag} {P : Bool -> Addr -> Prop} {H : Hp} {x y : D} {vs : List V} (h : af K P H [x, y] vs) : ∃ v u, vs = [v, u] /\ Den K P H x v /\ Den K P H y u := by
 simp only [af] at h
 obtain ⟨v, r, e, h1, u, r', e', h2, e''⟩ := h
 subst e' e'' e
 exact ⟨v, u, rfl, h1, h2⟩
theorem jg {K : PySem.W.Frag} {P : Bool -> Addr -> Prop} {H : Hp} {x : D} {vs : List V} (h : af K P H [x] vs) : ∃ v, vs = [v] /\ Den K P H x v := by
 simp only [af] at h
 obtain ⟨v, r, e, h1, e'⟩ := h
 subst e' e
 exact ⟨v, rfl, h1⟩
theorem la (hc : X.calm = true) : d0 X (.builtin "max") (fun ds Q => ∃ i j : Int, ds = [.int i, .int j] /\ Q (.int (max i j))) := d0.of (pz hc) fun P H ds vs Q _ hd ⟨i, j, e, q⟩ => by
 subst e
 obtain ⟨v, u, rfl, h1, h2⟩ := sZ hd
 have e1 := h1.int_
 have e2 := h2.int_
 subst e1 e2
 refine ⟨i, j, rfl, ah.refl H, _, Den.int _, ?_⟩
 have : (if j > i then j else i) = max i j := by split <;> omega
 rw [this]
 exact q
theorem cO : d0 X (.builtin "len") (fun ds Q => ∃ xs, ((∃ t, ds = [.lst t xs]) ∨ ds = [.tup xs]) /\ Q (.int (xs.length : Int))) := d0.of k8 fun P H ds vs Q _ hd ⟨xs, e, q⟩ => by
 rcases e with ⟨tg, e⟩ | e
 ·subst e
  obtain ⟨v, rfl, h1⟩ := jg hd
  obtain ⟨a, ws, e, _, hq, hw⟩ := h1.lst_
  subst e
  refine ⟨a, ws, rfl, .inl hq, ah.refl H, _, Den.int _, ?_⟩
  rw [hw.len]
  exact q
 ·subst e
  obtain ⟨v, rfl, h1⟩ := jg hd
  obtain ⟨a, ws, e, hq, hw⟩ := h1.tup_
  subst e
  refine ⟨a, ws, rfl, .inr hq.w, ah.refl H, _, Den.int _, ?_⟩
  rw [hw.len]
  exact q
def tyD : D -> String
 | .non => "NoneType" | .bl _ => "bool" | .int _ => "int" | .str _ => "str" | .tup _ => "tuple" | .lst _ _ => "list" | .exc _ => "object" | .obj _ _ _ => "object"
def tyV : D -> Value
 | .exc c => .ref c
 | .obj C _ _ => .ref C
 | d => .type (tyD d)
variable {e : Expr} {te : DE} {p p' pos : Pos} {T : String} {x : Str}
theorem ni {P : Program} {w : World} {H : Hp} {h : Heap} {a C dx : Addr} {fs : List (Str × V)} (x : aI P w H h a (.ins C dx fs)) : ∃ od, PySem.W.InstAt h a (PySem.W.instObj C dx) C (some od) := by
 obtain ⟨d, z, ne, ob, mA, n, r, q⟩ := x
 obtain ⟨od, hI, _⟩ := gQ.look ⟨ob, n, ne⟩
 exact ⟨od, hI⟩
theorem lQ {pins : List (Addr × Obj)} {σ : St} {H : Hp} {s : Shared} {P : Bool -> Addr -> Prop} {A : Around} {E : Value -> Shared -> Prop} {Q : Value -> Shared -> Prop} {c : Value} {b : Bool} {d : D} {v : V} {u : Value} (I : Inv X pins σ H s) (h : Den X.K P H d v) (r : RelV v u)
  (e : PySem.W.kitOne X.K (tyV d) c = some b) (q : ∀ tk, Q (.bool b) { s with toks := tk }) : wpAny (model X.prog X.w) A (call (.builtin "isinstance") [u, c]) Q E s := by
 cases d with
 | non => have z := h.non_; subst z; cases r; exact PySem.W.kia_one PySem.W.kitx_none I.kIn True.intro e (fun z => nomatch z) q
 | bl y => have z := h.bl_; subst z; cases r; exact PySem.W.kia_one PySem.W.kitx_bool I.kIn True.intro e (fun z => nomatch z) q
 | int i => have z := h.int_; subst z; obtain ⟨t, rfl⟩ := r; exact PySem.W.kia_one PySem.W.kitx_int I.kIn True.intro e (fun z => nomatch z) q
 | str y => have z := h.str_; subst z; obtain ⟨t, rfl⟩ := r; exact PySem.W.kia_one PySem.W.kitx_str I.kIn True.intro e (fun z => nomatch z) q
 | tup ds =>
  obtain ⟨a, vs, z, hq, _⟩ := h.tup_
  subst z
  cases r
  obtain ⟨its, rv, ⟨o, h1, h2, n, h3⟩, _⟩ := I.tuple hq.w
  exact PySem.W.kia_one PySem.W.kitx_tuple I.kIn ⟨o, h1, h2⟩ e (fun z => nomatch z) q
 | lst _ ds =>
  obtain ⟨a, vs, z, _, hq, _⟩ := h.lst_
  subst z
  cases r
  obtain ⟨its, rv, ⟨o, n, h1, h2, _, h3⟩, _⟩ := I.list hq
  exact PySem.W.kia_one PySem.W.kitx_list I.kIn ⟨o, h1, h2⟩ e (fun z => nomatch z) q
 | exc c' =>
  obtain ⟨a, z, hq, k⟩ := h.exc_
  subst z
  cases r
  exact PySem.W.kia_one (lS k) I.kIn (I.hok a _ hq).1 e (fun z => nomatch z) q
 | obj C ns ds =>
  obtain ⟨a, dx, vs, z, hq, _, k, _⟩ := h.obj_
  subst z
  cases r
  obtain ⟨od, hI⟩ := ni (I.hok a _ hq)
  exact PySem.W.kia_one (PySem.W.kitx_own k.pg k.hd k.at_ k.get k.takes k.obj) I.kIn hI e (fun z => nomatch z) q
theorem mJ (K : PySem.W.Frag) (S T : String) : PySem.W.kitOne K (.type S) (.type T) = if S = T then some true else if PySem.W.kitMeta T = true then (fastBuiltinMro S).map (·.contains (.type T)) else none := by
 unfold PySem.W.kitOne PySem.W.kitCls PySem.W.subIn
 by_cases h : S = T
 ·subst h; simp
 ·have : (Value.type S == Value.type T) = false := by
   rw [beq_eq_false_iff_ne]
   intro e
   injection e with e
   exact h e
  rw [this, if_neg zAE, if_neg h]
def isT (T : String) (d : D) : Bool := tyD d == T || (tyD d == "bool" && T == "int")
theorem kit_ans (K : PySem.W.Frag) (d : D) (hk : ∀ c, d = .exc c -> et K c) (ho : ∀ C ns ds, d = .obj C ns ds -> cK K C) (hT : T = "int" ∨ T = "bool" ∨ T = "tuple" ∨ T = "list" ∨ T = "str") : PySem.W.kitOne K (tyV d) (.type T) = some (isT T d) := by
 by_cases hx : ∃ c, d = .exc c
 ·obtain ⟨c, rfl⟩ := hx
  show PySem.W.kitOne K (.ref c) (.type T) = _
  rw [(hk c rfl).not T hT]
  show _ = some ("object" == T || ("object" == "bool" && T == "int"))
  rcases hT with e | e | e | e | e <;> subst e <;> decide +kernel
 by_cases hy : ∃ C ns ds, d = .obj C ns ds
 ·obtain ⟨C, ns, ds, rfl⟩ := hy
  show PySem.W.kitOne K (.ref C) (.type T) = _
  rw [(ho C ns ds rfl).not T hT]
  show _ = some ("object" == T || ("object" == "bool" && T == "int"))
  rcases hT with e | e | e | e | e <;> subst e <;> decide +kernel
 have hv : tyV d = .type (tyD d) := by cases d <;> first | rfl | exact absurd ⟨_, rfl⟩ hx | exact absurd ⟨_, _, _, rfl⟩ hy
 rw [hv, mJ]
 unfold isT
 have hS : tyD d = "NoneType" ∨ tyD d = "bool" ∨ tyD d = "int" ∨ tyD d = "str" ∨ tyD d = "tuple" ∨ tyD d = "list" := by cases d <;> first | exact absurd ⟨_, rfl⟩ hx | exact absurd ⟨_, _, _, rfl⟩ hy | simp [tyD]
 generalize tyD d = S at hS ⊢
 rcases hT with e | e | e | e | e <;> subst e <;> rcases hS with e | e | e | e | e | e <;> subst e <;> decide +kernel
def dIs (T : String) (te : DE) : DE := fun ρ Q => te ρ fun d => Q (.bl (isT T d))
theorem aO (hg : Gl X "isinstance") (hm : X.mg "isinstance" = none) (hgT : Gl X x) (hmT : X.mg x = none) (hv : bootBuiltins x = some (.type T)) (hT : T = "int" ∨ T = "bool" ∨ T = "tuple" ∨ T = "list" ∨ T = "str") (he : PED X e te)
  (hn : x ≠ "__name__" := by decide) (hdb : (x == ("__debug__" : Str)) = false := by decide)
  (hst : starEach [e, .Name x p'] X.env = (false, eval e X.env) :: starEach [.Name x p'] X.env := by rfl) (hst2 : starEach [.Name x p'] X.env = (false, eval (.Name x p') X.env) :: starEach [] X.env := by rfl) (hst3 : (backTo pos (starEach [.Name x p'] X.env)).any (·.1) = false := by rfl) :
  PED X (.Call (.Name "isinstance" p) [e, .Name x p'] [] pos) (dIs T te) := by
 intro pins s σ H W ρ Q I rr h
 have hpa : PA X [e, .Name x p'] (cX (kN X te) (cX (tC (.ty T)) j1)) := bL he.pe (bL (jW hgT hmT hv rfl hn hdb) eI hst2) hst
 refine wpAny_Call_Name_kw (dG I hg hm boot_isinstance ?_ (by decide) (by decide))
 refine PyProof.Rows.callWith_builtin1 (thn (hpa pos pins s σ H (fun vs H1 => ∃ v d, vs = [v, .ty T] /\ ah H H1 /\ Den X.K W.bad H1 d v /\ Q (.bl (isT T d))) I ⟨W, ρ, _, rr, h, fun v H1 d e1 hd q1 => ⟨v, d, rfl, e1, hd, q1⟩⟩) fun us s1 ⟨vs, H1, I1, rv, v, d, ev, e1, hd, q1⟩ => ?_) hst hst3
 subst ev
 cases rv with
 | cons r1 rr =>
  cases rr with
  | cons r2 rr =>
   cases rr
   cases (show _ = Value.type T from r2)
   exact lQ I1 hd r1 (kit_ans X.K d (fun c z => by subst z; exact hd.exc_.choose_spec.2.2) (fun C ns ds z => by subst z; obtain ⟨_, _, _, _, _, _, k, _⟩ := hd.obj_; exact k) hT) fun tk => ⟨.bl _, H1, _, I1.tok tk, rfl, e1, Den.bl _, q1⟩
end
section
variable {X : Cx} {pos : Pos}
theorem SPD.up {pins : List (Addr × Obj)} {W0 W : Own} {H0 H : Hp} {E : d4} {f : Flow} {s' : Shared} (g : Fwd W0 H0 W H) (h : SPD X pins W H E f s') : SPD X pins W0 H0 E f s' := by
 obtain ⟨W', σ', H', I, fw, q⟩ := h
 exact ⟨W', σ', H', I, g.trans fw, q⟩
variable {st : Stmt} {rest : List Stmt} {t u : DS} {e : Expr} {te : DE}
def oi : DS := fun E ρ => E.nx ρ
def ou (t u : DS) : DS := fun E ρ => t { E with nx := u E } ρ
theorem aB : b6 X [] oi := fun _ _ σ H W ρ E I r h => wpAny_execs_nil ⟨W, σ, H, I, Fwd.refl W H, ρ, r, h⟩
theorem ai (h1 : PSD X st t) (h2 : b6 X rest u) : b6 X (st :: rest) (ou t u) := by
 intro pins s σ H W ρ E I r h
 refine wpAny_execs_cons (thn (h1 pins s σ H W ρ { E with nx := u E } I r h) fun f s1 ⟨W', σ', H', I', fw, q⟩ => ?_)
 cases f with
 | next =>
  obtain ⟨ρ', r', q⟩ := q
  exact thn (h2 pins s1 σ' H' W' ρ' E I' r' q) fun _ _ z => z.up fw
 | ret v => exact ⟨W', σ', H', I', fw, q⟩
 | brk => exact ⟨W', σ', H', I', fw, q⟩
 | cont => exact ⟨W', σ', H', I', fw, q⟩
theorem ao (h1 : PSD X st t) : b6 X [st] t := by
 intro pins s σ H W ρ E I r h
 refine wpAny_execs_cons (thn (h1 pins s σ H W ρ E I r h) fun f s1 q => ?_)
 cases f with
 | next => exact wpAny_execs_nil q
 | ret v => exact q
 | brk => exact q
 | cont => exact q
def rH (te : DE) : DS := fun E ρ => te ρ E.rt
theorem ar (he : PED X e te) : PSD X (.Return (some e) pos) (rH te) := by
 intro pins s σ H W ρ E I r h
 exact wpAny_Return_some (thn (he pins s σ H W ρ _ I r h) fun u s1 ⟨v, H1, d, I1, r1, e1, hd, q1⟩ => ⟨W, σ, H1, I1, Fwd.same e1, v, d, r1, hd, q1⟩)
def sQ (te : DE) : DS := fun E ρ => te ρ fun _ => E.nx ρ
def rq (c : DT) (t u : DS) : DS := fun E ρ => c ρ fun b => if b = true then t E ρ else u E ρ
theorem aJ {c : Expr} {a b : List Stmt} {tc : DT} (hc : PTD X c tc) (ha : b6 X a t) (hb : b6 X b u) : PSD X (.If c a b pos) (rq tc t u) := by
 intro pins s σ H W ρ E I r h
 refine wpAny_If (thn (hc pins s σ H W ρ _ I r h) fun d s1 ⟨H1, I1, e1, q1⟩ => ?_)
 cases d with
 | true => exact thn (ha pins s1 σ H1 W ρ E I1 (r.same e1) q1) fun _ _ z => z.up (Fwd.same e1)
 | false => exact thn (hb pins s1 σ H1 W ρ E I1 (r.same e1) q1) fun _ _ z => z.up (Fwd.same e1)
theorem Rel.put {X : Cx} {W : Own} {H : Hp} {σ : St} {ρ : Ro} {i : Nat} {d : D} {v : V} (r : Rel X W H σ ρ) (hi : i < σ.length) (hd : Den X.K W.bad H d v) : Rel X (W.drop i) H (σ.set i (some v)) (ρ.set i (some (.val d))) where
 val := fun j x h => by
  by_cases hj : j = i
  ·subst hj
   refine ⟨v, by simp [hi], ?_⟩
   by_cases hl : j < ρ.length
   ·rw [zAX hl] at h
    cases h
    exact hd.fewer fun _ _ => Own.drop_bad
   ·rw [zAp (by simpa using hl)] at h
    cases h
  ·rw [zAL (Ne.symm hj)] at h
   obtain ⟨w, h1, h2⟩ := r.val j x h
   exact ⟨w, by rw [zAL (Ne.symm hj)]; exact h1, h2.fewer fun _ _ => Own.drop_bad⟩
 own := fun j x h => by
  by_cases hj : j = i
  ·subst hj
   by_cases hl : j < ρ.length
   ·rw [zAX hl] at h; cases h
   ·rw [zAp (by simpa using hl)] at h; cases h
  ·rw [zAL (Ne.symm hj)] at h
   obtain ⟨a, vs, h1, h2, h3, h4⟩ := r.own j x h
   exact ⟨a, vs, by show (if j = i then none else W.O j) = _; rw [if_neg hj]; exact h1, by rw [zAL (Ne.symm hj)]; exact h2, h3, by rw [List.length_set]; exact h4.fewer (fun _ _ => Own.drop_bad) (Own.drop_sub hi)⟩
 inj := fun j k a h1 h2 => by
  have h1' : (if j = i then none else W.O j) = some a := h1
  have h2' : (if k = i then none else W.O k) = some a := h2
  by_cases e1 : j = i
  ·rw [if_pos e1] at h1'; cases h1'
  ·by_cases e2 : k = i
   ·rw [if_pos e2] at h2'; cases h2'
   ·rw [if_neg e1] at h1'
    rw [if_neg e2] at h2'
    exact r.inj j k a h1' h2'
 kn := fun j a h1 => by
  have h1' : (if j = i then none else W.O j) = some a := h1
  by_cases e1 : j = i
  ·rw [if_pos e1] at h1'; cases h1'
  ·rw [if_neg e1] at h1'
   exact r.kn j a h1'
 ke := fun j a h1 => by
  have h1' : (if j = i then none else W.O j) = some a := h1
  by_cases e1 : j = i
  ·rw [if_pos e1] at h1'; cases h1'
  ·rw [if_neg e1] at h1'
   exact r.ke j a h1'
 bt := r.bt
 st := r.st
 ent := r.ent
 tab := r.tab
theorem Fwd.drop (W : Own) (H : Hp) (i : Nat) : Fwd W H (W.drop i) H := ⟨rfl, rfl, fun _ _ _ h _ => h, fun j a h => by
 have h' : (if j = i then none else W.O j) = some a := h
 by_cases e1 : j = i
 ·rw [if_pos e1] at h'; cases h'
 ·rw [if_neg e1] at h'; exact .inl ⟨j, h'⟩, fun _ ps h => ⟨#[], by rw [h]; simp⟩, id⟩
theorem Inv.ilt {pins : List (Addr × Obj)} {σ : St} {H : Hp} {s : Shared} {i : Nat} {x : Str} (I : Inv X pins σ H s) (hi : X.N[i]? = some x) : i < σ.length := by
 rw [I.len]
 exact (zAI.mp hi).1
def ox (i : Nat) (te : DE) : DS := fun E ρ => te ρ fun d => E.nx (ρ.set i (some (.val d)))
theorem aD {x : Str} {pos' : Pos} (i : Nat) (hN : X.N.Nodup) (he : PED X e te) (hi : X.N[i]? = some x := by rfl) (hx : Loc X.env.scope x := by first | exact Or.inl rfl | exact Or.inr rfl) (hs : swapsWith e (some (.Name x pos')) pos.line X.env = pure false := by rfl)
  (hf : X.fn x = true ∨ X.env.scope.names.lookup x = some .local := by first | exact .inl rfl | exact .inr rfl | assumption) : PSD X (.Assign [.Name x pos'] e pos) (ox i te) := by
 intro pins s σ H W ρ E I r h
 refine wpAny_Assign_Name (thn (he pins s σ H W ρ _ I r h) fun u s1 ⟨v, H1, d, I1, r1, e1, hd, q1⟩ => ?_) hs
 exact eY I1 hN hi hx r1 (fun s2 I2 => ⟨W.drop i, _, H1, I2, (Fwd.same e1).trans (Fwd.drop W H1 i), _, (r.same e1).put (Inv.ilt I1 hi) hd, q1⟩) hf
theorem PSD.of {ts : TS} {t : DS} (h : PS X st ts) (k : ∀ σ H W ρ E, Rel X W H σ ρ -> σ.length = X.N.length -> t E ρ -> ts ⟨(fun σ' H' => ∃ W' ρ', Fwd W H W' H' /\ Rel X W' H' σ' ρ' /\ E.nx ρ'), (fun v H' => ∃ W' d, Fwd W H W' H' /\ Den X.K W'.bad H' d v /\ E.rt d),
   (fun σ' H' => ∃ W' ρ', Fwd W H W' H' /\ Rel X W' H' σ' ρ' /\ E.bk ρ'), (fun σ' H' => ∃ W' ρ', Fwd W H W' H' /\ Rel X W' H' σ' ρ' /\ E.ct ρ')⟩ σ H) : PSD X st t := by
 intro pins s σ H W ρ E I r ht
 refine thn (h pins s σ H _ I (k σ H W ρ E r I.len ht)) fun f s1 q => ?_
 cases f with
 | next => obtain ⟨σ', H', I', W', ρ', fw, r', q⟩ := q; exact ⟨W', σ', H', I', fw, ρ', r', q⟩
 | brk => obtain ⟨σ', H', I', W', ρ', fw, r', q⟩ := q; exact ⟨W', σ', H', I', fw, ρ', r', q⟩
 | cont => obtain ⟨σ', H', I', W', ρ', fw, r', q⟩ := q; exact ⟨W', σ', H', I', fw, ρ', r', q⟩
 | ret u => obtain ⟨v, σ', H', I', rv, W', d, fw, hd, q⟩ := q; exact ⟨W', σ', H', I', fw, v, d, rv, hd, q⟩
end
section
variable {X : Cx} {pos : Pos}
theorem uT {X : Cx} {W W' : Own} {H H' : Hp} {σ : St} {ρ : Ro} (r : Rel X W H σ ρ) (f : Fwd W H W' H') (a : Addr) (o : HO) (n : Sol o) (q : H a = some o) : H' a = some o :=
 f.kp a _ (fun i z => by obtain ⟨_, _, o', q', m⟩ := r.kn i a z; rw [q] at q'; cases q'; exact m.sol n) q n.nt
theorem uS {X : Cx} {W W' : Own} {H H' : Hp} {σ : St} {ρ : Ro} (r : Rel X W H σ ρ) (f : Fwd W H W' H') (a : Addr) (vs : List V) (q : SqT X.K H a vs) : SqT X.K H' a vs := by
 exact f.keep a _ (fun i e => by
  obtain ⟨_, _, o', q', m⟩ := r.kn i a e
  have q2 : H a = some (.tup vs) := q
  rw [q'] at q2
  cases q2
  exact m) q
theorem uR {X : Cx} {W W' : Own} {H H' : Hp} {σ' : St} {ρ' : Ro} (r' : Rel X W' H' σ' ρ') (f : Fwd W H W' H') (t : Bool) (a : Addr) (vs : List V) (p : ¬ W.bad t a) (q : SqG X.K H t a vs) : ¬ W'.bad t a /\ SqG X.K H' t a vs := by
 have no : ∀ i, W.O i ≠ some a := fun i e => p (.inr (.inl ⟨i, e⟩))
 refine ⟨fun b => ?_, ?_, fun z => ⟨f.keep a _ no (q.2 z).1, (q.2 z).2⟩⟩
 ·rcases b with b | ⟨i, b⟩ | ⟨e, b⟩
  ·rw [f.B] at b; exact p (.inl b)
  ·rcases f.new i a b with ⟨j, z⟩ | z
   ·exact no j z
   ·rcases q.1 with (q | ⟨o, q⟩) | ⟨o, its, n, q, _⟩
    ·rw [z] at q; cases q
    ·rw [z] at q; cases q
    ·rw [(r'.kn i a b).1] at q; cases q
  ·rw [f.S] at b; exact p (.inr (.inr ⟨e, b⟩))
 ·rcases q.1 with (q | ⟨o, q⟩) | q
  ·exact .inl (.inl (f.keep a _ no q))
  ·exact .inl (.inr ⟨o, f.keep a _ no q⟩)
  ·exact .inr q
theorem Den.fwd {X : Cx} {W W' : Own} {H H' : Hp} {σ σ' : St} {ρ ρ' : Ro} {d : D} {v : V} (r : Rel X W H σ ρ) (r' : Rel X W' H' σ' ρ') (f : Fwd W H W' H') (h : Den X.K W.bad H d v) : Den X.K W'.bad H' d v :=
 Den.map (uS r f) (uR r' f) (uT r f) d v h
abbrev DG := D -> Ro -> (Ro -> Prop) -> Prop
def PGD (X : Cx) (target : Expr) (g : DG) : Prop :=
 ∀ (pins : List (Addr × Obj)) (s : Shared) (σ : St) (H : Hp) (W : Own) (ρ : Ro) (d : D) (v : V) (u : Value) (Q : Ro -> Prop), Inv X pins σ H s -> Rel X W H σ ρ -> RelV v u -> Den X.K W.bad H d v -> g d ρ Q →
  wpAny (model X.prog X.w) X.A (assign target X.env u) (fun _ s' => ∃ W' σ' H' ρ', Inv X pins σ' H' s' /\ Fwd W H W' H' /\ Rel X W' H' σ' ρ' /\ Q ρ') X.xe s
abbrev DGs := List D -> Ro -> (Ro -> Prop) -> Prop
def kU (X : Cx) (ts : List Expr) (t : DGs) : Prop :=
 ∀ (pins : List (Addr × Obj)) (s : Shared) (σ : St) (H : Hp) (W : Own) (ρ : Ro) (ds : List D) (vs : List V) (us : List Value) (Q : Ro -> Prop), Inv X pins σ H s -> Rel X W H σ ρ -> Vals vs us -> af X.K W.bad H ds vs -> t ds ρ Q →
  wpAny (model X.prog X.w) X.A (assignInOrder ((assignEach ts X.env).map (·.2)) us) (fun _ s' => ∃ W' σ' H' ρ', Inv X pins σ' H' s' /\ Fwd W H W' H' /\ Rel X W' H' σ' ρ' /\ Q ρ') X.xe s
theorem af.fwd {X : Cx} {W W' : Own} {H H' : Hp} {σ σ' : St} {ρ ρ' : Ro} (r : Rel X W H σ ρ) (r' : Rel X W' H' σ' ρ') (f : Fwd W H W' H') : ∀ {ds : List D} {vs : List V}, af X.K W.bad H ds vs -> af X.K W'.bad H' ds vs
 | [], _, h => by simpa only [af] using h
 | d :: ds, _, h => by
  simp only [af] at h ⊢
  obtain ⟨v, q, e, h1, h2⟩ := h
  exact ⟨v, q, e, Den.fwd r r' f h1, af.fwd r r' f h2⟩
def gW (i : Nat) : DG := fun d ρ Q => Q (ρ.set i (some (.val d)))
theorem bg {x : Str} (i : Nat) (hN : X.N.Nodup) (hi : X.N[i]? = some x := by rfl) (hx : Loc X.env.scope x := by first | exact Or.inl rfl | exact Or.inr rfl)
  (hf : X.fn x = true ∨ X.env.scope.names.lookup x = some .local := by first | exact .inl rfl | exact .inr rfl | assumption) : PGD X (.Name x pos) (gW i) := by
 intro pins s σ H W ρ d v u Q I r rv hd h
 exact wpAny_assign_Name (eY I hN hi hx rv (fun s' I' => ⟨W.drop i, _, H, _, I', Fwd.drop W H i, r.put (Inv.ilt I hi) hd, h⟩) hf)
def gm : DGs := fun ds ρ Q => ds = [] /\ Q ρ
def bG (g : DG) (u : DGs) : DGs := fun ds ρ Q => ∃ d r, ds = d :: r /\ g d ρ fun ρ' => u r ρ' Q
theorem jS : kU X [] gm := by
 intro pins s σ H W ρ ds vs us Q I r rv hd h
 obtain ⟨e, h⟩ := h
 subst e
 simp only [af] at hd
 subst hd
 cases rv
 exact assignInOrder_nil ⟨W, σ, H, ρ, I, Fwd.refl W H, r, h⟩
theorem c9 {e : Expr} {es : List Expr} {g : DG} {u : DGs} (h1 : PGD X e g) (h2 : kU X es u) (hs : (assignEach (e :: es) X.env).map (·.2) = assign e X.env :: (assignEach es X.env).map (·.2) := by rfl) : kU X (e :: es) (bG g u) := by
 intro pins s σ H W ρ ds vs us Q I r rv hd h
 obtain ⟨d, dr, e1, h⟩ := h
 subst e1
 simp only [af] at hd
 obtain ⟨v, vr, e2, hd1, hd2⟩ := hd
 subst e2
 cases rv with
 | cons ra rb =>
  rw [hs]
  refine assignInOrder_cons (thn (h1 pins s σ H W ρ d v _ _ I r ra hd1 h) fun _ s1 ⟨W1, σ1, H1, ρ1, I1, f1, r1, q1⟩ => ?_)
  exact thn (h2 pins s1 σ1 H1 W1 ρ1 dr vr _ Q I1 r1 rb (af.fwd r r1 f1 hd2) q1) fun _ s2 ⟨W2, σ2, H2, ρ2, I2, f2, r2, q2⟩ => ⟨W2, σ2, H2, ρ2, I2, f1.trans f2, r2, q2⟩
theorem lO {h h' : Heap} {it l : Addr} {items : Array Value} (hl : h.IsList l items) (hs : Heap.SameBut it h h') (hne : l ≠ it) : h'.IsList l items := by
 obtain ⟨o, ho, r⟩ := hl
 exact ⟨o, (hs.2 l hne).trans ho, r⟩
theorem j8 {prog : Program} {w : World} {A : Around} {E : Value -> Shared -> Prop} {it l : Addr} {items : Array Value} (hne : l ≠ it) : ∀ (n i : Nat) (s : Shared) (Q : List Value -> Shared -> Prop), s.heap.IsListIter it l i -> s.heap.IsList l items -> i + n <= items.size →
  (∀ h', h'.IsListIter it l (i + n) -> Heap.SameBut it s.heap h' -> Q ((items.toList.drop i).take n) { s with heap := h' }) -> wpAny (model prog w) A (draw (.ref it) n) Q E s
 | 0, i, s, Q, hit, _, _, hQ => by
  show wpAny _ _ (pure []) Q E s
  exact wpAny_pure (by simpa using hQ s.heap hit (Heap.SameBut.refl ..))
 | n + 1, i, s, Q, hit, hl, hle, hQ => by
  have hlt : i < items.size := by omega
  show wpAny _ _ (pyNext (.ref it) >>= _) Q E s
  refine wpAny_bind (wpAny_pyNext_list_item hit hl (x := items[i]) (by simp [hlt]) fun h₁ hit₁ hs₁ => ?_)
  refine wpAny_bind (wpAny_holding (j8 hne n (i + 1) _ _ hit₁ (lO hl hs₁ hne) (by omega) fun h₂ hit₂ hs₂ => wpAny_pure ?_))
  have hd : items.toList.drop i = items[i] :: items.toList.drop (i + 1) := by simp [List.drop_eq_getElem_cons, hlt]
  have := hQ h₂ (by rw [show i + (n + 1) = i + 1 + n by omega]; exact hit₂) (hs₁.trans hs₂)
  rw [hd, List.take_succ_cons] at this
  exact this
theorem i7 {prog : Program} {w : World} {A : Around} {E : Value -> Shared -> Prop} {s : Shared} {l : Addr} {items : Array Value} {Q : List Value -> Shared -> Prop} (hh : A.handled = none) (hl : s.heap.IsList l items)
  (hQ : ∀ h', Heap.ExtBut s.heap.objs.size s.heap h' -> Q items.toList { s with heap := h' }) : wpAny (model prog w) A (unpackItems (.ref l) items.size none) Q E s := by
 have hlt : l ≠ s.heap.objs.size := by obtain ⟨o, ho, _⟩ := hl; exact zAP (zAC ho)
 unfold unpackItems
 refine wpAny_bind ?_
 ·unfold notIterableAtAll
  refine wpAny_bind (wpAny_specialOf hl.typeIs F.slot_list_iter.lookup ?_)
  refine wpAny_pure ?_
  simp only [zAb, if_false]
  refine wpAny_bind (wpAny_holding (wpAny_pyIter_list hl ?_))
  have hl0 : (s.heap.push { cls := .type "list_iterator", data := .fields #[.ref l, rawInt 0] }).IsList l items := by
   obtain ⟨o, ho, r⟩ := hl
   exact ⟨o, zAA _ ho, r⟩
  refine wpAny_bind (wpAny_holding (j8 hlt items.size 0 _ _ ⟨_, zAD _ rfl, rfl, rfl⟩ hl0 (by omega) fun h₁ hit₁ hs₁ => ?_))
  have hall : List.take items.size (List.drop 0 items.toList) = items.toList := by
   rw [List.drop_zero]; exact zAx (by simp)
  rw [hall]
  rw [if_neg (by simp)]
  have hl₁ : h₁.IsList l items := lO hl0 hs₁ hlt
  refine wpAny_bind (wpAny_holding (wpAny_pyNext_list_end hh hit₁ hl₁ (by simp) fun h₂ he₂ => ?_))
  simp only [Option.isSome_none, zAb, if_false]
  refine wpAny_pure (hQ h₂ fun b o hb e => he₂ b o hb (hs₁.extBut b o hb (zAA _ e)))
def d6 (n : Nat) (t : DGs) : DG := fun d ρ Q => ∃ ds, (d = .tup ds ∨ ∃ t, d = .lst t ds) /\ ds.length = n /\ t ds ρ Q
theorem lN {es : List Expr} {k : Nat} {t : DGs} {n : Nat} (hc : X.calm = true) (h : kU X es t) (hn : (assignEach es X.env).length = n := by rfl) (hst : (assignEach es X.env).findIdx? (·.1) = none := by rfl) : PGD X (.Tuple es k pos) (d6 n t) := by
 intro pins s σ H W ρ d v u Q I r rv hd hw
 obtain ⟨ds, ed, hl, hw⟩ := hw
 rcases ed with ed | ⟨tg, ed⟩
 ·subst ed
  obtain ⟨a, vs, e1, hq, hds⟩ := hd.tup_
  subst e1
  cases rv
  obtain ⟨its, rvs, ht, hz⟩ := I.tuple hq.w
  refine assign_Tuple_tuple (I.ok.hd hc) ht (by simp [hn, <- hl, <- rvs.length, hds.len]) hst fun h' hx => ?_
  have I1 : Inv X pins σ H { s with heap := h' } := I.kept (t' := s.toks) fun b o e => hx b o (zAP (zAC e)) e
  exact h pins _ σ H W ρ ds vs _ Q I1 r (by simpa using rvs) hds hw
 ·subst ed
  obtain ⟨a, vs, e1, _, hq, hds⟩ := hd.lst_
  subst e1
  cases rv
  obtain ⟨its, rvs, ht, hz⟩ := I.list hq
  rw [assign_Tuple]
  refine wpAny_bind (wpAny_standAt ?_)
  unfold unpack
  rw [hst, show (assignEach es X.env).length = its.toArray.size by simp [hn, <- hl, <- rvs.length, hds.len]]
  refine wpAny_bind (wpAny_holding (i7 (I.ok.hd hc) ht.isList fun h' hx => ?_))
  have I1 : Inv X pins σ H { s with heap := h' } := I.kept (t' := s.toks) fun b o e => hx b o (zAP (zAC e)) e
  exact h pins _ σ H W ρ ds vs _ Q I1 r (by simpa using rvs) hds hw
def rm (te : DE) (g : DG) : DS := fun E ρ => te ρ fun d => g d ρ E.nx
theorem uP {tg e : Expr} {te : DE} {g : DG} (he : PED X e te) (hg : PGD X tg g) (hs : swapsWithSole [tg] e pos.line X.env = pure false := by rfl) (hw : swappedStores [tg] e X.env = pure none := by rfl)
  (h1 : (assignEach [tg] X.env).map (·.2) = [assign tg X.env] := by rfl) : PSD X (.Assign [tg] e pos) (rm te g) := by
 intro pins s σ H W ρ E I r h
 refine wpAny_Assign_stores (thn (he pins s σ H W ρ _ I r h) fun u s1 ⟨v, H1, d, I1, r1, e1, hd, q1⟩ => ?_) hs hw
 rw [h1]
 exact thn (hg pins s1 σ H1 W ρ d v u _ I1 (r.same e1) r1 hd q1) fun _ s2 ⟨W2, σ2, H2, ρ2, I2, f2, r2, q2⟩ => ⟨W2, σ2, H2, I2, (Fwd.same e1).trans f2, ρ2, r2, q2⟩
def YD (K : PySem.W.Frag) (W : Own) (H : Hp) (J : It) (ds : List D) : Prop := ∀ (P' : Bool -> Addr -> Prop) (H' : Hp), (∀ a vs, SqT K H a vs -> SqT K H' a vs) -> (∀ t a vs, ¬ W.bad t a -> SqG K H t a vs -> ¬ P' t a /\ SqG K H' t a vs) -> (∀ a o, Sol o -> H a = some o -> H' a = some o) -> ∀ i, (i < ds.length -> J.go i H') /\ (∀ x H3, J.yld i H' x H3 -> i < ds.length -> ah H' H3 /\ ∃ d, ds[i]? = some d /\ Den K P' H3 d x) /\ (ds.length <= i -> J.stop i H')
def PID (X : Cx) (tg iter : Expr) (wi : DA) : Prop :=
 ∀ (pins : List (Addr × Obj)) (s : Shared) (σ : St) (H : Hp) (W : Own) (ρ : Ro) (R : List D -> Prop), Inv X pins σ H s -> Rel X W H σ ρ -> wi ρ R →
  wpAny (model X.prog X.w) X.A (eval iter X.env) (fun v s1 => wpAny (model X.prog X.w) X.A (pyIter v) (fun itv s2 => ∃ (it : Addr) (fp : List Addr) (tn : Nat -> Heap -> Prop) (J : It) (H' : Hp) (ds : List D), itv = .ref it /\ Inv X pins σ H' s2 /\ ah H H' ∧
   Turn X.prog X.w X.K tg J fp it tn /\ tn 0 s2.heap /\ (∀ b ∈ fp, cJ X pins H' b) /\ YD X.K W H' J ds /\ R ds) X.xe s1) X.xe s
theorem PID.of {tg iter : Expr} {wi : TI} {wd : DA} (h : PI X tg iter wi) (k : ∀ σ H W ρ R, Rel X W H σ ρ -> wd ρ R -> wi σ H fun J H' => ah H H' /\ ∃ ds, YD X.K W H' J ds /\ R ds) : PID X tg iter wd := by
 intro pins s σ H W ρ R I r hw
 refine thn (h pins s σ H _ I (k σ H W ρ R r hw)) fun v s1 h1 => thn h1 fun itv s2 h2 => ?_
 obtain ⟨it, fp, tn, J, H', e, I2, T, st, f2, e2, ds, y, q⟩ := h2
 exact ⟨it, fp, tn, J, H', ds, e, I2, e2, T, st, f2, y, q⟩
def og (ti : DE) : DA := fun ρ R => ti ρ fun d => ∃ t ds, d = .lst t ds /\ R ds
theorem bC {tg iter : Expr} {ti : DE} (h : PED X iter ti) : PID X tg iter (og ti) := by
 refine PID.of (uh h.pe) fun σ H W ρ R r hw => ⟨W, ρ, _, r, hw, fun v H1 d e1 hd q => ?_⟩
 obtain ⟨tg', ds, rfl, q⟩ := q
 obtain ⟨a, vs, rfl, na, hq, hds⟩ := hd.lstG_
 refine ⟨a, rfl, ⟨vs, hq.1⟩, e1, ds, ?_, q⟩
 intro P' H' hT hL hX i
 have hq' : SqL X.K H' a vs := (hL _ a vs na hq).2.1
 have hl := hds.len
 refine ⟨fun hi => ?_, fun x H3 y hi => ?_, fun hi => ⟨vs, hq', by omega⟩⟩
 ·obtain ⟨v, hv, _⟩ := hds.get (i := i) (d := ds[i]) (by simp [hi])
  exact ⟨vs, v, hq', hv⟩
 ·obtain ⟨e3, y⟩ := y
  subst e3
  obtain ⟨d, h1, h2⟩ := hds.bu (y vs hq')
  exact ⟨ah.refl _, d, h1, Den.map hT hL hX d _ h2⟩
def fC (lo step : Int) (n : Nat) : List D := (List.range n).map fun (i : Nat) => D.int (lo + i * step)
theorem i5 (lo step : Int) (n : Nat) : (fC lo step n).length = n := by simp [fC]
theorem mm {lo step : Int} {n i : Nat} (h : i < n) : (fC lo step n)[i]? = some (D.int (lo + i * step)) := by simp [fC, h]
def uE (lo c : Int) (n : Nat) : It := ⟨fun i _ => i < n, fun i H x H' => H' = H /\ x = .int (lo + i * c), fun i _ => n <= i⟩
theorem sN (K : PySem.W.Frag) (W : Own) (H : Hp) (lo c : Int) (n : Nat) : YD K W H (uE lo c n) (fC lo c n) := fun P' H' _ _ _ i => by
 rw [i5]
 refine ⟨fun h => h, fun x H3 y hi => ?_, fun h => h⟩
 obtain ⟨e, ex⟩ := y
 subst e ex
 exact ⟨ah.refl _, _, mm hi, Den.int _⟩
theorem mT {P : Program} {w : World} {K : PySem.W.Frag} {tg : Expr} (it : Addr) (lo c : Int) (n : Nat) : Turn P w K tg (uE lo c n) [it] it (fun i h => IsRangeIter h it (lo + (i : Nat) * c) ((n : Int) - (i : Nat)) c) where
 mem := by simp
 obj := fun i h st b hb => by
  have e : b = it := by simpa using hb
  subst e
  exact ⟨_, st, fun v z => by
   have z' : Data.fields _ = Data.cell v := z
   cases z'⟩
 keep := fun i h h' st k => k it (by simp) _ st
 item := by
  intro X hP hw hK hc i pins s σ H E I hf st hg
  subst hP hw hK
  obtain ⟨f0, f1, f2, f3, f4, f5⟩ := hf it (by simp)
  have W := Walks.range (prog := X.prog) (w := X.w) (I.ok.hd hc) it lo c n
  refine W.item i s _ _ hg st fun v h' tk hv st' kk => ?_
  obtain ⟨t, rfl⟩ := hv
  have I1 : Inv X pins σ H { s with heap := h', toks := tk } := I.turned (fun b o hb e => kk b o (by simpa using hb) e) f0 f1 f3 f4 f5
  exact ⟨_, rfl, tw (s := { s with heap := h', toks := tk }) (n := "range_iterator") st' rfl rfl (by decide) ⟨.int (lo + i * c), H, I1, ⟨t, rfl⟩, ⟨rfl, rfl⟩, st', fun b hb => (hf b hb).1⟩⟩
 done := by
  intro X hP hw hK hc i pins s σ H E I hf st hg
  subst hP hw hK
  obtain ⟨f0, f1, f2, f3, f4, f5⟩ := hf it (by simp)
  exact wpAny_pyNext_range_end (I.ok.hd hc) st (by have : n <= i := hg; omega) fun h' eb => ⟨rfl, I.turned (t' := s.toks) (fun b o hb e => eb b o hb e) f0 f1 f3 f4 f5⟩
 self := fun _ _ _ _ _ st h => wpAny_pyIter_rangeiter st h
def eJ (lo hi c : Int) : Nat := (Builtin.Range.rangeSize lo hi c).toNat
theorem qR {a b c : Int} (ha : -(2 ^ 40) <= a) (ha' : a < 2 ^ 40) (hb : -(2 ^ 40) <= b) (hb' : b < 2 ^ 40) (hc : 0 < c) (hc' : c < 2 ^ 20) : Builtin.Range.small a b c = true /\ 0 <= Builtin.Range.rangeSize a b c := by
 have hd : a < b -> 0 <= (b - a - 1) / c /\ (b - a - 1) / c <= b - a - 1 := fun h => ⟨Int.ediv_nonneg (by omega) (by omega), Int.ediv_le_self _ (by omega)⟩
 have hm : a < b -> (b - a - 1) / c * c <= b - a - 1 := fun h => Int.ediv_mul_le _ (by omega)
 unfold Builtin.Range.small Builtin.Range.rangeSize
 rw [if_pos (show c > 0 from hc)]
 by_cases h : a < b
 ·obtain ⟨h1, h2⟩ := hd h
  have h3 := hm h
  rw [if_pos h]
  generalize (b - a - 1) / c = q at h1 h2 h3 ⊢
  have h4 : 0 <= q * c := Int.mul_nonneg h1 (by omega)
  simp only [Builtin.Range.rangeFitsLong, zAk, Bool.or_eq_true, decide_eq_true_eq, beq_iff_eq]
  have e : (q + 1 - 1) * c = q * c := by rw [Int.add_sub_cancel]
  have e' : (q + 1) * c = q * c + c := by rw [Int.add_mul, Int.one_mul]
  constructor
  ·rw [if_pos (show c > 0 from hc)]
   simp only [zAk, decide_eq_true_eq]
   omega
  ·omega
 ·rw [if_neg h]
  simp only [Builtin.Range.rangeFitsLong, zAk, Bool.or_eq_true, decide_eq_true_eq, beq_iff_eq]
  constructor
  ·simp; omega
  ·exact Int.le_refl _
theorem qN {pins : List (Addr × Obj)} {σ : St} {H : Hp} {s : Shared} {W : Own} {R : List D -> Prop} {E : Value -> Shared -> Prop} {tg : Expr} {lo hi c : Int} {t u v : Tok} {tk : Nat} (I : Inv X pins σ H s) (h1 : -(2 ^ 40) <= lo) (h2 : lo < 2 ^ 40) (h3 : -(2 ^ 40) <= hi) (h4 : hi < 2 ^ 40) (h5 : 0 < c) (h6 : c < 2 ^ 20)
  (q : R (fC lo c (eJ lo hi c))) : wpAny (model X.prog X.w) X.A (pyIter (.ref s.heap.objs.size)) (fun itv s2 => ∃ (it : Addr) (fp : List Addr) (tn : Nat -> Heap -> Prop) (J : It) (H' : Hp) (ds : List D), itv = .ref it /\ Inv X pins σ H' s2 /\ ah H H' ∧
   Turn X.prog X.w X.K tg J fp it tn /\ tn 0 s2.heap /\ (∀ b ∈ fp, cJ X pins H' b) /\ YD X.K W H' J ds /\ R ds) E { s with heap := s.heap.push { cls := .type "range", data := .fields #[.int lo t, .int hi u, .int c v] }, toks := tk } := by
 obtain ⟨sm, nn⟩ := qR h1 h2 h3 h4 h5 h6
 refine wpAny_pyIter_range (IsRange.new ..) sm ?_
 have I1 : Inv X pins σ H { s with heap := s.heap.push { cls := .type "range", data := .fields #[.int lo t, .int hi u, .int c v] }, toks := tk } := I.kept fun b o e => zAA _ e
 refine ⟨(s.heap.push { cls := .type "range", data := .fields #[.int lo t, .int hi u, .int c v] }).objs.size, [(s.heap.push { cls := .type "range", data := .fields #[.int lo t, .int hi u, .int c v] }).objs.size], _, _, H, _, rfl,
  I1.kept (t' := tk) fun b o e => zAA _ e, ah.refl H, mT _ lo c (eJ lo hi c), ?_, fun b hb => ?_, sN _ _ _ _ _ _, q⟩
 ·have e1 : lo + ((0 : Nat) : Int) * c = lo := by simp
  have e2 : ((eJ lo hi c : Nat) : Int) - ((0 : Nat) : Int) = Builtin.Range.rangeSize lo hi c := by unfold eJ; omega
  show IsRangeIter _ _ (lo + ((0 : Nat) : Int) * c) (((eJ lo hi c : Nat) : Int) - ((0 : Nat) : Int)) c
  rw [e1, e2]
  exact zAD _ rfl
 ·have e : b = (s.heap.push { cls := .type "range", data := .fields #[.int lo t, .int hi u, .int c v] }).objs.size := by simpa using hb
  subst e
  exact I1.fpOk (zAG _) (I1.hok.fresh (zAG _))
def CR3 (i : Int) : Prop := -(2 ^ 40) <= i /\ i < 2 ^ 40
def sW (ta : DA) : DA := fun ρ R => ta ρ fun ds => ∃ i j c : Int, ds = [.int i, .int j, .int c] /\ CR3 i /\ CR3 j /\ 0 < c /\ c < 2 ^ 20 /\ R (fC i c (eJ i j c))
def sV (ta : DA) : DA := fun ρ R => ta ρ fun ds => ∃ i j : Int, ds = [.int i, .int j] /\ CR3 i /\ CR3 j /\ R (fC i 1 (eJ i j 1))
def ot (ta : DA) : DA := fun ρ R => ta ρ fun ds => ∃ j : Int, ds = [.int j] /\ CR3 j /\ R (fC 0 1 (eJ 0 j 1))
theorem qq {tg a : Expr} {ta : DA} {p pos : Pos} (hg : Gl X "range") (hm : X.mg "range" = none) (ha : PAD X [a] ta) (hs : starEach [a] X.env = (false, eval a X.env) :: starEach [] X.env := by rfl) (hs2 : (backTo pos (starEach [] X.env)).any (·.1) = false := by rfl) :
  PID X tg (.Call (.Name "range" p) [a] [] pos) (ot ta) := by
 intro pins s σ H W ρ R I r h
 refine Call_ (dG I hg hm boot_range (PyProof.Rows.callWith_type1 (thn (ha pos pins s σ H W ρ _ I r h) fun us s1 ⟨vs, H1, ds, I1, r1, e1, hd, q1⟩ => ?_) hs hs2))
 obtain ⟨j, e, ⟨b1, b2⟩, q⟩ := q1
 subst e
 obtain ⟨v1, rfl, d1⟩ := jg hd
 have z1 := d1.int_
 subst z1
 cases r1 with
 | cons ra rr =>
  cases rr
  obtain ⟨t, rfl⟩ := ra
  refine call_range_1 ?_
  exact thn (qN (W := W) (R := R) I1 (by decide) (by decide) b1 b2 (by decide) (by decide) q) fun itv s2 ⟨it, fp, tn, J, H', ds, x1, x2, x3, x4, x5, x6, x7, x8⟩ => ⟨it, fp, tn, J, H', ds, x1, x2, e1.trans x3, x4, x5, x6, x7, x8⟩
def n9 (wi : DA) (g : DG) (tb : DS) : DS := fun E ρ => wi ρ fun ds => ∃ Pv : Nat -> Ro -> Prop, Pv 0 ρ ∧
 (∀ j x ρ', ds[j]? = some x -> Pv j ρ' -> g x ρ' fun ρ2 => tb { E with nx := Pv (j + 1), ct := Pv (j + 1), bk := E.nx } ρ2) /\ ∀ ρ', Pv ds.length ρ' -> E.nx ρ'
theorem ck {tg iter : Expr} {body : List Stmt} {wi : DA} {g : DG} {tb : DS} (hp : PassesOwn (model X.prog X.w) X.A X.env X.xe) (hc : X.calm = true) (hi : PID X tg iter wi) (hg : PGD X tg g) (hb : b6 X body tb)
  (hs : ∀ x, foldedSetIterable iter X.env x = pure x := by intro _; rfl) : PSD X (.For tg iter body [] pos) (n9 wi g tb) := by
 intro pins s σ H W ρ E I r h
 refine wpAny_For (thn (hi pins s σ H W ρ _ I r h) fun v s1 h1 => thn h1 fun itv s2 h2 => ?_) hs
 obtain ⟨it, fp, tn, J, H2, ds, e, I2, e2, T, st2, f2, yd, Pv, p0, turn, pd⟩ := h2
 subst e
 have r2 := r.same e2
 have stat : ∀ {H' : Hp}, (∀ b ∈ fp, H' b = none) -> ∀ b ∈ fp, cJ X pins H' b := fun hn b hb => ⟨hn b hb, (f2 b hb).2⟩
 refine codeAny_forLoop_any (fun n s' => ∃ i W' σ' H' ρ', n = ds.length - i /\ i <= ds.length /\ Inv X pins σ' H' s' /\ tn i s'.heap /\ (∀ b ∈ fp, H' b = none) /\ Fwd W H2 W' H' /\ Rel X W' H' σ' ρ' /\ Pv i ρ') ?_ ds.length ⟨0, W, σ, H2, ρ, by simp, zAZ _, I2, st2, fun b hb => (f2 b hb).1, Fwd.refl W H2, r2, p0⟩
 rintro n s3 ⟨i, W3, σ3, H3, ρ3, en, hle, I3, st3, fr3, fw3, r3, p3⟩
 obtain ⟨yg, yy, ys⟩ := yd W3.bad H3 (uS r2 fw3) (uR r3 fw3) (uT r2 fw3) i
 by_cases hlt : i < ds.length
 ·refine wpAny_passesOwn hp (thn (T.item X rfl rfl rfl hc i pins s3 σ3 H3 X.xe I3 (stat fr3) st3 (yg hlt)) fun rr s4 ⟨u, hr, h4⟩ => ?_)
  subst hr
  refine wpAny_passesOwn hp (thn h4 fun _ s5 ⟨x, H5, I5, r5, y5, st5, fr5⟩ => ?_)
  obtain ⟨e5, d, hd, hden⟩ := yy x H5 y5 hlt
  have I5' := I5.pinned (stat fr5) (T.obj _ _ st5)
  have rl5 := r3.same e5
  refine wpAny_passesOwn hp (thn (hg _ s5 σ3 H5 W3 ρ3 d x u _ I5' rl5 r5 hden (turn i d ρ3 hd p3)) fun _ s6 ⟨W6, σ6, H6, ρ6, I6, f6, r6, q6⟩ => ?_)
  refine wpAny_passesOwn hp (thn (hb _ s6 σ6 H6 W6 ρ6 _ I6 r6 q6) fun f s7 q7 => ?_)
  obtain ⟨W7, σ7, H7, I7, f7, q7⟩ := q7
  have fw7 : Fwd W H2 W7 H7 := fw3.trans ((Fwd.same e5).trans (f6.trans f7))
  have fw70 : Fwd W H W7 H7 := (Fwd.same e2).trans fw7
  have again : ∀ {ρ7 : Ro}, Rel X W7 H7 σ7 ρ7 -> Pv (i + 1) ρ7 -> ∃ m, m < n /\ ∃ i W' σ' H' ρ', m = ds.length - i /\ i <= ds.length /\ Inv X pins σ' H' s7 /\ tn i s7.heap /\ (∀ b ∈ fp, H' b = none) /\ Fwd W H2 W' H' /\ Rel X W' H' σ' ρ' /\ Pv i ρ' := fun {ρ7} r7 p7 => by
   refine ⟨ds.length - (i + 1), by omega, i + 1, W7, σ7, H7, ρ7, rfl, hlt, I7.unpinned, T.keep _ _ _ st5 fun b hb o e => (I7.pin (b, o) (zAS _ (zAS _ (d8 hb e)))).1, fun b hb => ?_, fw7, r7, p7⟩
   obtain ⟨o, e, d⟩ := T.obj _ _ st5 b hb
   exact (I7.pin (b, o) (zAS _ (zAS _ (d8 hb e)))).2.1
  cases f with
  | next => obtain ⟨ρ7, r7, n7⟩ := q7; exact again r7 n7
  | cont => obtain ⟨ρ7, r7, n7⟩ := q7; exact again r7 n7
  | brk => obtain ⟨ρ7, r7, q7⟩ := q7; exact ⟨W7, σ7, H7, I7.unpinned, fw70, ρ7, r7, q7⟩
  | ret v => obtain ⟨x7, d7, r7, h7, q7⟩ := q7; exact ⟨W7, σ7, H7, I7.unpinned, fw70, x7, d7, r7, h7, q7⟩
 ·have e : i = ds.length := by omega
  refine wpAny_passesOwn hp (thn (T.done X rfl rfl rfl hc i pins s3 σ3 H3 X.xe I3 (stat fr3) st3 (ys (by omega))) fun rr s4 ⟨hr, I4⟩ => ?_)
  subst hr
  subst e
  exact wpAny_execs_nil ⟨W3, σ3, H3, I4, (Fwd.same e2).trans fw3, ρ3, r3, pd ρ3 p3⟩
def uI (i j : Nat) (ta : DA) : DS := fun E ρ => ta ρ fun ds => ∃ d e, ds = [d, e] /\ E.nx ((ρ.set i (some (.val d))).set j (some (.val e)))
end
def az (N : List Str) (ds : List D) : Ro := ds.map (fun d => some (.val d)) ++ List.replicate (N.length - ds.length) none
theorem Rel.start {X : Cx} {P : Addr -> Prop} {H : Hp} {N : List Str} {ds : List D} {vs : List V} (hP : ∀ a, P a -> ∃ o, H a = some o) (h : af X.K (fun t a => t = true ∨ P a) H ds vs) (hH : X.H₀ = H) (hT : fq X.K H) : Rel X ⟨P, fun _ => none, fun a => ∃ o, H a = some o⟩ H (start N vs) (az N ds) where
 val := fun i d e => by
  unfold az at e
  have hl := h.len
  by_cases hi : i < ds.length
  ·rw [zAe (by simpa using hi), zAQ] at e
   cases q : ds[i]? with
   | none => rw [q] at e; cases e
   | some d' =>
    rw [q] at e
    have e' : d' = d := by simpa using e
    subst e'
    obtain ⟨v, h1, h2⟩ := h.get q
    refine ⟨v, ?_, h2.fewer fun tg a z => ?_⟩
    ·unfold L2.start
     rw [zAe (by simpa [hl] using hi), zAQ, h1]
     rfl
    ·rcases z with z | ⟨j, z⟩ | ⟨z, _⟩
     ·exact .inr z
     ·cases z
     ·exact .inl z
  ·rw [zAV (by simpa using hi), zAl] at e
   split at e <;> cases e
 own := fun i d e => by
  unfold az at e
  by_cases hi : i < ds.length
  ·rw [zAe (by simpa using hi), zAQ] at e
   cases q : ds[i]? with
   | none => rw [q] at e; cases e
   | some d' => rw [q] at e; cases e
  ·rw [zAV (by simpa using hi), zAl] at e
   split at e <;> cases e
 inj := fun i j a h _ => by cases h
 kn := fun i a h => by cases h
 ke := fun i a h => by cases h
 bt := hP
 st := fun _ z => z
 ent := by rw [hH]; exact ah.refl H
 tab := hT
end PD
namespace PD
open PySem PySem.Spec PyProof.Rows L2 PX
theorem aI.there {P : Program} {w : World} {H : Hp} {h : Heap} {a : Addr} {o : HO} (x : aI P w H h a o) : ∃ u, h.get? a = some u := by
 cases o with
 | lst xs => obtain ⟨_, _, _, _, e⟩ := x; exact ⟨_, e⟩
 | tup xs => obtain ⟨_, _, _, ob, e, _⟩ := x; exact ⟨ob, e⟩
 | dK kvs => obtain ⟨_, _, _, _, ob, _, _, e, _⟩ := x; exact ⟨ob, e⟩
 | dT kvs => obtain ⟨_, _, _, _, ob, _, _, e, _⟩ := x; exact ⟨ob, e⟩
 | set S n => obtain ⟨ob, _, _, _, e, _⟩ := x; exact ⟨ob, e⟩
 | ins C dx fs => obtain ⟨_, _, _, e, _⟩ := x; exact ⟨_, e⟩
 | own y => exact x
 | xd fs => obtain ⟨_, ⟨ob, _, _, e, _⟩, _⟩ := x; exact ⟨ob, e⟩
 | rng lo hi => obtain ⟨_, _, _, e⟩ := x; exact ⟨_, e⟩
 | frz ob u => obtain ⟨e, _⟩ := x; exact ⟨ob, e⟩
 | tbl ps => exact ⟨_, x⟩
 | met f y => exact ⟨_, x⟩
 | ext φ => obtain ⟨_, e, _⟩ := x; exact e
theorem HOk.keptT {P : Program} {w : World} {H : Hp} {h h' : Heap} (x : HOk P w H h) (k : ∀ b u, (∃ o, H b = some o) -> h.get? b = some u -> h'.get? b = some u) : HOk P w H h' := fun a o e =>
 (x a o e).stay (fun b u hb q => k b u (by
  rcases hb with z | z
  ·subst z; exact ⟨o, e⟩
  ·exact ⟨_, z⟩) q) (fun _ q => q) fun _ _ q => q
structure Fl (P : Program) (w : World) (l : List Env) (h₀ : Heap) (H₀ H : Hp) (B h : Heap) : Prop where
 un : Un (frs l) [] H₀ H h₀ h
 hok : HOk P w H h
 fr : ∀ b ∈ frs l, H₀ b = none /\ ∃ o, h₀.get? b = some o /\ ∀ vs, o.data ≠ .fields vs
 cov : ∀ b o, h.get? b = some o -> ((∃ u, H b = some u) ∨ ∃ o', h₀.get? b = some o') -> b ∉ frs l -> B.get? b = some o
section
variable {P : Program} {w : World} {l : List Env} {h₀ : Heap} {H₀ H : Hp} {B h h' : Heap}
theorem Fl.free (F : Fl P w l h₀ H₀ H B h) {b : Addr} (hb : b ∈ frs l) : H b = none := by
 obtain ⟨n, o, e, _⟩ := F.fr b hb
 exact F.un.free b o e n (by simp)
theorem Fl.step (F : Fl P w l h₀ H₀ H B h) (st : B.StaysIn h') (sl : h.UpToSlots h') : Fl P w l h₀ H₀ H B h' := by
 have fr1 : ∀ b o, b ∈ frs l -> h₀.get? b = some o -> ∃ s', h'.get? b = some { o with slots := s' } := fun b o hb e => by
  obtain ⟨n, o', e', hd⟩ := F.fr b hb
  rw [e] at e'
  cases e'
  obtain ⟨s1, e1⟩ := F.un.slot b o e n hb (by simp)
  obtain ⟨s2, e2⟩ := sl b _ e1 hd
  exact ⟨s2, e2⟩
 have kp : ∀ b o, h.get? b = some o -> ((∃ u, H b = some u) ∨ ∃ o', h₀.get? b = some o') -> b ∉ frs l -> h'.get? b = some o := fun b o e c n => st b o (F.cov b o e c n)
 refine ⟨⟨fun b o e n hb hx => kp b o (F.un.keep b o e n hb hx) (.inr ⟨o, e⟩) hb, fun b o e n hb hx => fr1 b o hb e, F.un.free, fun b o e hx => ?_, F.un.tups, F.un.frzs, F.un.tbls⟩, PD.HOk.keptT F.hok (fun b u hu e => kp b u e (.inl hu) fun z => ?_), F.fr, fun b o e c n => ?_⟩
 ·by_cases hb : b ∈ frs l
  ·obtain ⟨s2, e2⟩ := fr1 b o hb e
   exact ⟨_, e2⟩
  ·obtain ⟨o', e1⟩ := F.un.there b o e hx
   exact ⟨o', kp b o' e1 (.inr ⟨o, e⟩) hb⟩
 ·obtain ⟨o, q⟩ := hu
  rw [F.free z] at q
  cases q
 ·have : ∃ o1, h.get? b = some o1 := by
   rcases c with ⟨u, c⟩ | ⟨o', c⟩
   ·exact PD.aI.there (F.hok b u c)
   ·exact F.un.there b o' c (by simp)
  obtain ⟨o1, e1⟩ := this
  have q := kp b o1 e1 c n
  rw [e] at q
  cases q
  exact F.cov b o e1 c n
end
def CX1 (P : Program) (w : World) : CXT := fun outer H s E e s' => ∃ (ea c : Addr) (H' : Hp) (B : Heap) (a0 : Value), e = .ref ea /\ s'.os = s.os /\ AllBare s'.gens /\ Fl P w outer s.heap H H' B s'.heap /\ ah H H' /\ H' ea = none /\ s.heap.get? ea = none ∧
 Heap.FlyingW B outer ea (.ref c) a0 s'.heap /\ E (.ref c) none H'
theorem jv {P : Program} {w : World} {X : Cx} : Passes (CX1 P w) X E0 := fun _ _ _ _ _ _ _ h => by
 obtain ⟨_, _, _, _, _, _, _, _, _, _, _, _, _, z⟩ := h
 exact z.elim
def MadeX (X : Cx) (Ed : Value -> Prop) : Prop := ∀ (pins : List (Addr × Obj)) (σ : St) (H : Hp) (W : Own) (ρ : Ro) (s : Shared) (e c : Addr) (vs : List Value) (h' : Heap), Inv X pins σ H s -> Rel X W H σ ρ -> Heap.MadeExcOf s.heap h' e (.ref c) vs -> Ed (.ref c) -> X.xe (.ref e) { s with heap := h' }
def dm (X : Cx) (Ed : Value -> Prop) : Prop := ∀ (pins : List (Addr × Obj)) (σ : St) (H : Hp) (W : Own) (ρ : Ro) (s : Shared) (e : Value) (s' : Shared), Inv X pins σ H s -> Rel X W H σ ρ -> CX1 X.prog X.w X.stack H s (fun c _ _ => Ed c) e s' -> X.xe e s'
section
variable {P : Program} {w : World} {K : PySem.W.Frag} {mg : Str -> Option Value} {base : Heap} {N : List Str} {qual : Str} {sc : Scope} {f : Addr} {cd : Value} {A : Around} {outer : List Env} {s₀ : Shared} {H₀ : Hp} {E : XK}
theorem lg {pins : List (Addr × Obj)} {σ : St} {H : Hp} {s : Shared} {B h' : Heap} {e c : Addr} {a0 : Value} (I : Inv (bQ (CX1 P w) P w K mg base N qual sc f cd A outer s₀ H₀ E) pins σ H s) (hS : ah H₀ H) (hn : H e = none) (hn0 : s₀.heap.get? e = none)
  (cov : ∀ b o, s.heap.get? b = some o -> ((∃ u, H b = some u) ∨ ∃ o', s₀.heap.get? b = some o') -> b ∉ frs (envOfC qual sc s₀.heap.objs.size f cd :: outer) -> B.get? b = some o)
  (fl : Heap.FlyingW B outer e (.ref c) a0 h') (sl : s.heap.UpToSlots h') (hE : E (.ref c) none H) : CX1 P w outer H₀ s₀ E (.ref e) { s with heap := h' } := by
 have nf : ∀ b, ((∃ u, H b = some u) ∨ ∃ o', s₀.heap.get? b = some o') -> b ∉ frs outer -> b ∉ frs (envOfC qual sc s₀.heap.objs.size f cd :: outer) := fun b c n z => by
  rcases c with ⟨u, c⟩ | ⟨o', c⟩
  ·have := I.stkFree b z
   rw [c] at this
   cases this
  ·rcases zAN.mp (I.stkSub b z) with q | q
   ·have h1 := zAC c
    have h2 : s₀.heap.objs.size <= b := by rw [q]; exact I.ok.above
    exact absurd (zAH h1 h2) (zAc _)
   ·exact n q
 have F : Fl P w outer s₀.heap H₀ H B s.heap := ⟨I.base, I.hok, fun b hb => ⟨I.ok.frf b hb, by
  obtain ⟨_, o, e, d⟩ := I.ok.funs.mem hb
  exact ⟨o, e, d⟩⟩, fun b o e c n => cov b o e c (nf b c n)⟩
 exact ⟨e, c, H, B, a0, rfl, I.os, I.bare, F.step fl.1 sl, hS, hn, hn0, fl, hE⟩
theorem vJ {Ed : Value -> Prop} (hE : ∀ c a H', ah H₀ H' -> Ed c -> E c a H') : MadeX (bQ (CX1 P w) P w K mg base N qual sc f cd A outer s₀ H₀ E) Ed := by
 intro pins σ H W ρ s e c vs h' I r hx hd
 show wpAny (model P w) (A.deeper (envOfC qual sc s₀.heap.objs.size f cd)) (leaving (envOfC qual sc s₀.heap.objs.size f cd) (.ref e)) _ _ _
 refine wpAny_leaves_madeW (base := PySem.W.hideAll s.heap (frs (envOfC qual sc s₀.heap.objs.size f cd :: outer))) (h := s.heap) (outer := outer) I.ok.frames rfl (fun b o q => PySem.W.of_hideAll _ q)
  (PySem.W.funFrames_hide I.stack fun env he b hb => List.mem_filterMap.mpr ⟨env, he, hb⟩) hx fun h'' t x1 _ _ x4 => ?_
 have ne : ∀ {h1 : Heap}, (∀ b o, h1.get? b = some o -> ∃ o', s.heap.get? b = some o') -> h1.get? e = none := fun {h1} k => by
  cases q : h1.get? e with
  | none => rfl
  | some o =>
   obtain ⟨o', q'⟩ := k e o q
   rw [hx.new] at q'
   cases q'
 refine lg (s := s) (h' := h'') I r.ent ?_ (ne fun b o q => I.base.there b o q (by intro z; cases z)) (fun b o q _ n => PySem.W.hideAll_get _ q n) x1 (fun b o q d => ?_) (hE _ _ _ r.ent hd)
 ·cases q : H e with
  | none => rfl
  | some u =>
   obtain ⟨o, z⟩ := PD.aI.there (I.hok e u q)
   rw [hx.new] at z
   cases z
 ·exact x4 b o (hx.keeps b o q) d
theorem uf {Ed : Value -> Prop} (hE : ∀ c a H', ah H₀ H' -> Ed c -> E c a H') : dm (bQ (CX1 P w) P w K mg base N qual sc f cd A outer s₀ H₀ E) Ed := by
 intro pins σ H W ρ s e s' I r hx
 obtain ⟨ea, c, H', B, a0, rfl, os, bare, F, sm, hn, hn0, fl, hd⟩ := hx
 show wpAny (model P w) (A.deeper (envOfC qual sc s₀.heap.objs.size f cd)) (leaving (envOfC qual sc s₀.heap.objs.size f cd) (.ref ea)) _ _ _
 refine wpAny_leaves_onW (outer := outer) I.ok.frames rfl fl fun h'' x1 x2 => ?_
 have I' := I.call' os F.un F.hok bare (by intro b z; cases z)
 refine lg (s := s') (h' := h'') I' (r.ent.trans sm) hn ?_ (fun b o q z n => F.cov b o q (z.elim .inl fun ⟨o', z⟩ => .inr (I.base.there b o' z (by intro q; cases q))) n) x1 x2 (hE _ _ _ (r.ent.trans sm) hd)
 cases q : s₀.heap.get? ea with
 | none => rfl
 | some o =>
  obtain ⟨o', q'⟩ := I.base.there ea o q (by intro z; cases z)
  rw [hn0] at q'
  cases q'
end
section
variable {X : Cx} {k : Nat} {f : Addr} {fd : FuncData} {ps : List Str} {sp : DSp} {x : Str} {p pos : Pos} {e : Expr} {es : List Expr} {t : DA}
def pF (sp : DSp) (Ed : Value -> Prop) (dds : List D) (t : DA) : DE := fun ρ Q => t ρ fun ds => sp (aF ds ++ dds) Q Ed
end
section
variable {X : Cx} {pos : Pos}
theorem rO {st : Stmt} : PSD X st (fun _ _ => False) := fun _ _ _ _ _ _ _ _ _ h => h.elim
theorem Rel.wish {W : Own} {H : Hp} {σ : St} {ρ : Ro} (r : Rel X W H σ ρ) (E : Value -> Shared -> Prop) : Rel (X.wish E) W H σ ρ := ⟨r.val, r.own, r.inj, r.kn, r.ke, r.bt, r.st, r.ent, r.tab⟩
theorem Rel.unwish {W : Own} {H : Hp} {σ : St} {ρ : Ro} {E : Value -> Shared -> Prop} (r : Rel (X.wish E) W H σ ρ) : Rel X W H σ ρ := ⟨r.val, r.own, r.inj, r.kn, r.ke, r.bt, r.st, r.ent, r.tab⟩
theorem SPD.unwish {pins : List (Addr × Obj)} {W : Own} {H : Hp} {E : d4} {f : Flow} {s' : Shared} {XE : Value -> Shared -> Prop} (h : SPD (X.wish XE) pins W H E f s') : SPD X pins W H E f s' := by
 obtain ⟨W', σ', H', I, fw, q⟩ := h
 refine ⟨W', σ', H', I.unwish, fw, ?_⟩
 cases f with
 | next => obtain ⟨ρ', r, q⟩ := q; exact ⟨ρ', r.unwish, q⟩
 | brk => obtain ⟨ρ', r, q⟩ := q; exact ⟨ρ', r.unwish, q⟩
 | cont => obtain ⟨ρ', r, q⟩ := q; exact ⟨ρ', r.unwish, q⟩
 | ret u => exact q
theorem b6.nox {st : List Stmt} {t : DS} (h : b6 X.nox st t) : b6 X st t := fun pins s σ H W ρ E I r hw =>
 wpAny_mono (h pins s σ H W ρ E (I.wish _) (r.wish _) hw) (fun _ _ q => q.unwish) fun _ _ z => False.elim z
def uL (K : PySem.W.Frag) (C : Addr) (i : Nat) (sp : DSp) (t : DA) (su : DS) : DS := fun E ρ => t ρ fun ds => sp (aF ds) (fun _ => E.nx ρ) fun cv => ∃ c, cv = .ref c /\ et K c /\ PySem.W.exmOne K (.ref c) (.ref C) = some true ∧
 su ⟨fun ρ' => E.nx (ρ'.set i none), E.rt, fun ρ' => E.bk (ρ'.set i none), fun ρ' => E.ct (ρ'.set i none)⟩ (ρ.set i (some (.val (.exc c))))
def rB (K : PySem.W.Frag) (c : Value) (te : DE) : DE := fun ρ Q => te ρ fun d => ∃ b, PySem.W.kitOne K (tyV d) c = some b /\ Q (.bl b)
theorem d5 {e : Expr} {te : DE} {p p' : Pos} {x : Str} {cv : V} {c : Value} (hg : Gl X "isinstance") (hm : X.mg "isinstance" = none) (hx : PE X (.Name x p') (tC cv)) (rc : ∀ u, RelV cv u -> u = c) (he : PED X e te)
  (hst : starEach [e, .Name x p'] X.env = (false, eval e X.env) :: starEach [.Name x p'] X.env := by rfl) (hst2 : starEach [.Name x p'] X.env = (false, eval (.Name x p') X.env) :: starEach [] X.env := by rfl) (hst3 : (backTo pos (starEach [.Name x p'] X.env)).any (·.1) = false := by rfl) :
  PED X (.Call (.Name "isinstance" p) [e, .Name x p'] [] pos) (rB X.K c te) := by
 intro pins s σ H W ρ Q I rr h
 have hpa : PA X [e, .Name x p'] (cX (kN X te) (cX (tC cv) j1)) := bL he.pe (bL hx eI hst2) hst
 refine wpAny_Call_Name_kw (dG I hg hm boot_isinstance ?_ (by decide) (by decide))
 refine PyProof.Rows.callWith_builtin1 (thn (hpa pos pins s σ H (fun vs H1 => ∃ v d, vs = [v, cv] /\ ah H H1 /\ Den X.K W.bad H1 d v /\ ∃ b, PySem.W.kitOne X.K (tyV d) c = some b /\ Q (.bl b)) I ⟨W, ρ, _, rr, h, fun v H1 d e1 hd q1 => ⟨v, d, rfl, e1, hd, q1⟩⟩) fun us s1 ⟨vs, H1, I1, rv, v, d, ev, e1, hd, b, kb, q1⟩ => ?_) hst hst3
 subst ev
 cases rv with
 | cons r1 rr =>
  cases rr with
  | cons r2 rr =>
   cases rr
   have := rc _ r2
   subst this
   exact lQ I1 hd r1 kb fun tk => ⟨.bl _, H1, _, I1.tok tk, rfl, e1, Den.bl _, q1⟩
end
def nU (base : Heap) (l : List Env) (e : Addr) (cls a0 : Value) (h : Heap) : Prop := base.StaysIn h /\ base.get? e = none /\ h.FunFrames base l /\ ∃ fl, h.TracedAtW base e cls a0 fl
section
variable {M : Model} {A : Around} {E : Value -> Shared -> Prop} {s : Shared} {base : Heap} {l outer : List Env} {env : Env} {e L : Addr} {cls a0 : Value}
theorem t8 {Q : Unit -> Shared -> Prop} (hfr : A.frames = some (env :: outer)) (hf : env.frame = some L) (R : nU base (env :: outer) e cls a0 s.heap)
  (h : ∀ h', nU base (env :: outer) e cls a0 h' -> s.heap.UpToSlots h' -> Q () { s with heap := h' }) : wpAny M A (noteFrame (.ref e) env) Q E s := by
 obtain ⟨k1, k2, k3, fl, oe, vs, T, oT, ts, g1, g2, g3, g4, g5, g6, g7, g8, g9⟩ := id R
 by_cases hfl : (fl == rawInt L) = true
 ·have efl : fl = rawInt L := by simpa using hfl
  subst efl
  exact wpAny_noteFrame_againW (base := base) (cls := cls) (a0 := a0) hf ⟨oe, vs, T, oT, ts, g1, g2, g3, g4, g5, g6, g7, g8, g9⟩ (h _ R (Heap.UpToSlots.refl _))
 ·obtain ⟨ec, g0⟩ := g2
  subst ec
  unfold noteFrame
  simp only [hf]
  refine wpAny_bind (wpAny_field g1 g3 g4 ?_)
  rw [if_pos (by simp)]
  refine wpAny_bind (wpAny_field g7 g8 g9 ?_)
  rw [if_neg hfl]
  refine wpAny_bind (wpAny_setField g7 g8 (Array.getElem?_eq_some_iff.mp g9).1 ?_)
  have oth : ∀ b, b ≠ T -> (s.heap.update T (Obj.mapFields (·.setIfInBounds 3 Value.none))).get? b = s.heap.get? b := fun b hb => Heap.get?_update_other _ _ (Ne.symm hb)
  have nrec : ∀ b o, s.heap.get? b = some o -> (∀ vs, o.data ≠ .fields vs) -> b ≠ T := fun b o hb hn q => by
   rw [q, g7] at hb
   cases hb
   exact hn ts g8
  refine wpAny_entryW (base := base) hfr (k3.of_keeps fun b o hb hn => ⟨o, (oth b (nrec b o hb hn)).trans hb, rfl⟩) hf ((oth e (Ne.symm g6)).trans g1) (fun b o hb => (oth b fun q => by rw [q, g5] at hb; cases hb).trans (k1 b o hb)) k2 g3 (Array.getElem?_eq_some_iff.mp g4).1 g0 fun h' hN => ?_
  obtain ⟨n1, n2, n3, n4⟩ := hN
  exact h h' ⟨n1, k2, n2, _, n3⟩ fun b o hb hn => n4 b o ((oth b (nrec b o hb hn)).trans hb) hn
theorem rZ {Q : Unit -> Shared -> Prop} (hfr : A.frames = some (env :: outer)) (hf : env.frame = some L) (R : nU base (env :: outer) e cls a0 s.heap)
  (h : ∀ h', Heap.FlyingW base outer e cls a0 h' -> s.heap.UpToSlots h' -> Q () { s with heap := h' }) : wpAny M A (leaving env (.ref e)) Q E s := by
 unfold leaving
 refine wpAny_bind (t8 hfr hf R fun h1 R1 s1 => ?_)
 obtain ⟨k1, k2, k3, fl, k4⟩ := R1
 refine wpAny_setFlight_noneW (base := base) k1 k3 k4 fun h2 m1 m2 m3 m4 => ?_
 obtain ⟨_, _, m2⟩ := m2
 exact h h2 ⟨m1, k2, m2, m3⟩ (s1.trans fun b o hb hn => ⟨o.slots, m4 b o hb hn⟩)
end
def nW (X : Cx) (Ed : Value -> Prop) : Prop := ∀ (pins : List (Addr × Obj)) (σ : St) (H : Hp) (W : Own) (ρ : Ro) (s s' : Shared) (ea c : Addr) (H' : Hp) (B : Heap) (a0 : Value), Inv X pins σ H s -> Rel X W H σ ρ -> s'.os = s.os -> AllBare s'.gens -> Fl X.prog X.w X.stack s.heap H H' B s'.heap -> ah H H' -> H' ea = none -> s.heap.get? ea = none →
 nU B X.stack ea (.ref c) a0 s'.heap -> Ed (.ref c) -> X.xe (.ref ea) s'
section
variable {P : Program} {w : World} {K : PySem.W.Frag} {mg : Str -> Option Value} {base : Heap} {N : List Str} {qual : Str} {sc : Scope} {f : Addr} {cd : Value} {A : Around} {outer : List Env} {s₀ : Shared} {H₀ : Hp} {E : XK}
theorem vE {Ed : Value -> Prop} (hE : ∀ c a H', ah H₀ H' -> Ed c -> E c a H') : nW (bQ (CX1 P w) P w K mg base N qual sc f cd A outer s₀ H₀ E) Ed := by
 intro pins σ H W ρ s s' ea c H' B a0 I r os bare F sm hn hn0 R hd
 show wpAny (model P w) (A.deeper (envOfC qual sc s₀.heap.objs.size f cd)) (leaving (envOfC qual sc s₀.heap.objs.size f cd) (.ref ea)) _ _ _
 refine rZ (outer := outer) I.ok.frames rfl R fun h'' x1 x2 => ?_
 have I' := I.call' os F.un F.hok bare (by intro b z; cases z)
 refine lg (s := s') (h' := h'') I' (r.ent.trans sm) hn ?_ (fun b o q z n => F.cov b o q (z.elim .inl fun ⟨o', z⟩ => .inr (I.base.there b o' z (by intro q; cases q))) n) x1 x2 (hE _ _ _ (r.ent.trans sm) hd)
 cases q : s₀.heap.get? ea with
 | none => rfl
 | some o =>
  obtain ⟨o', q'⟩ := I.base.there ea o q (by intro z; cases z)
  rw [hn0] at q'
  cases q'
end
section
variable {P : Program} {w : World} {K : PySem.W.Frag} {mg : Str -> Option Value} {base : Heap}
structure aw (K : PySem.W.Frag) (x qual : Str) (st : Stmt) (f : Addr) (fd : FuncData) : Prop where
 ex : ∃ (oc : Value) (od : Option Addr) (dV kV doc pm : Value) (an : Option Addr) (cdv ct : Value) (osl : Array (Option Value)),
  fd = PySem.W.fnOf x qual (bj st) (aU st) (ak st) dV kV doc pm an cdv ct /\ K.lookup f = some ⟨oc, od, .func fd, osl⟩ /\ PySem.W.codeIn K cdv qual = true
 kp : PySem.W.keepIn K (.ref f) = true
theorem aw.okC {x qual : Str} {st : Stmt} {f : Addr} {fd : FuncData} {N ps : List Str} {k : Nat} {sp : DSp} (F : aw K x qual st f fd) (S : ay N ps (ak st)) (len : ∀ ds Q E, sp ds Q E -> ds.length = ps.length)
  (hbody : ∀ (cdv : Value), fd.code = cdv -> ∀ (A : Around) (outer : List Env) (s : Shared) (H : Hp) (E : XK) (Ed : Value -> Prop), aW k (A.deeper (envOfC qual (ak st) s.heap.objs.size f cdv)) -> MadeX (bQ (CX1 P w) P w K mg base N qual (ak st) f cdv A outer s H E) Ed -> dm (bQ (CX1 P w) P w K mg base N qual (ak st) f cdv A outer s H E) Ed -> nW (bQ (CX1 P w) P w K mg base N qual (ak st) f cdv A outer s H E) Ed →
   ∃ t, b6 (bQ (CX1 P w) P w K mg base N qual (ak st) f cdv A outer s H E) (aU st) t /\ ∀ ds Q, sp ds Q Ed -> t { nx := fun _ => Q .non, rt := Q } (az N ds)) : aC P w K mg base (CX1 P w) (k + 1) f fd ps (aG K sp) := by
 obtain ⟨oc, od, dV, kV, doc, pm, an, cdv, ct, osl, rfl, lk, hcd⟩ := F.ex
 refine oJ lk hcd S (fun vs H Q E h => ?_) fun A outer s H vs Q E hr h => ?_
 ·obtain ⟨_, ds, _, _, _, _, hd, hs, _⟩ := h
  rw [hd.len]
  exact len ds _ _ hs
 ·obtain ⟨Pb, ds, Qd, Ed, hT, hP, hd, hs, kq, ke⟩ := h
  obtain ⟨t, ht, k⟩ := hbody cdv rfl A outer s H E Ed hr (vJ ke) (uf ke) (vE ke)
  refine ⟨_, ht.ps, ⟨Pb, fun _ => none, fun a => ∃ o, H a = some o⟩, _, _, Rel.start hP hd rfl hT, k ds Qd hs, fun W' σ' H' ρ' f r q => ?_, fun W' H' v d f hd' q => ?_, fun _ _ _ _ _ _ q => q, fun _ _ _ _ _ _ q => q⟩
  ·exact kq .non .non H' ⟨fun b o e n => f.kp b o (fun i z => by cases z) e n, f.tb, f.ok⟩ Den.non q
  ·refine kq d v H' ⟨fun b o e n => f.kp b o (fun i z => by cases z) e n, f.tb, f.ok⟩ (hd'.fewer fun t a z => ?_) q
   rcases z with z | z
   ·exact .inl (by rw [f.B]; exact z)
   ·exact .inr (.inr ⟨z.1, by rw [f.S]; exact z.2⟩)
theorem aw.okX {x qual : Str} {st : Stmt} {f : Addr} {fd : FuncData} {N ps : List Str} {k : Nat} {sp : DSp} (F : aw K x qual st f fd) (S : ay N ps (ak st)) (len : ∀ ds Q E, sp ds Q E -> ds.length = ps.length)
  (hbody : ∀ (cdv : Value) (A : Around) (outer : List Env) (s : Shared) (H : Hp) (E : XK) (Ed : Value -> Prop), aW k (A.deeper (envOfC qual (ak st) s.heap.objs.size f cdv)) -> MadeX (bQ (CX1 P w) P w K mg base N qual (ak st) f cdv A outer s H E) Ed -> dm (bQ (CX1 P w) P w K mg base N qual (ak st) f cdv A outer s H E) Ed -> nW (bQ (CX1 P w) P w K mg base N qual (ak st) f cdv A outer s H E) Ed →
   ∃ t, b6 (bQ (CX1 P w) P w K mg base N qual (ak st) f cdv A outer s H E) (aU st) t /\ ∀ ds Q, sp ds Q Ed -> t { nx := fun _ => Q .non, rt := Q } (az N ds)) : aC P w K mg base (CX1 P w) (k + 1) f fd ps (aG K sp) := aw.okC F S len fun cdv _ => hbody cdv
theorem aw.okN {x qual : Str} {st : Stmt} {f : Addr} {fd : FuncData} {N ps : List Str} {k : Nat} {sp : DSp} (F : aw K x qual st f fd) (S : ay N ps (ak st)) (len : ∀ ds Q E, sp ds Q E -> ds.length = ps.length)
  (hbody : ∀ (cdv : Value) (A : Around) (outer : List Env) (s : Shared) (H : Hp) (E : XK), aW k (A.deeper (envOfC qual (ak st) s.heap.objs.size f cdv)) →
   ∃ t, b6 (bQ (CX1 P w) P w K mg base N qual (ak st) f cdv A outer s H E).nox (aU st) t /\ ∀ ds Q Ed, sp ds Q Ed -> t { nx := fun _ => Q .non, rt := Q } (az N ds)) : aC P w K mg base (CX1 P w) (k + 1) f fd ps (aG K sp) :=
 aw.okX F S len fun cdv A outer s H E Ed hr _ _ _ => by
  obtain ⟨t, ht, k⟩ := hbody cdv A outer s H E hr
  exact ⟨t, ht.nox, fun ds Q h => k ds Q Ed h⟩
theorem el {x qual : Str} {st : Stmt} {f : Addr} {oc : Value} {od an : Option Addr} {osl : Array (Option Value)} {dV kV doc pm cdv ct : Value} (l : K.lookup f = some ⟨oc, od, .func (PySem.W.fnOf x qual (bj st) (aU st) (ak st) dV kV doc pm an cdv ct), osl⟩)
  (c : PySem.W.codeIn K cdv qual = true) (k : PySem.W.keepIn K (.ref f) = true) : aw K x qual st f (PySem.W.fnOf x qual (bj st) (aU st) (ak st) dV kV doc pm an cdv ct) := ⟨⟨oc, od, dV, kV, doc, pm, an, cdv, ct, osl, rfl, l, c⟩, k⟩
end
end PD
namespace PD
open PySem PySem.Spec PyProof.Rows L2
def Has (P : Program) (w : World) (K : PySem.W.Frag) (mg : Str -> Option Value) (base : Heap) (x : Str) (k : Nat) (ps : List Str) (sp : DSp) : Prop :=
 ∃ f fd, aC P w K mg base (CX1 P w) k f fd ps (aG K sp) /\ mg x = some (.ref f) /\ PySem.W.keepIn K (.ref f) = true /\ Binds K fd ps []
section
variable {X : Cx} {k : Nat} {ps : List Str} {sp : DSp} {x : Str} {p pos : Pos} {e : Expr} {es : List Expr} {t : DA}
theorem au (h : Has X.prog X.w X.K X.mg X.base x k ps sp) (hr : aW k X.A) (ha : PAD X (e :: es) t) (hg : Gl X x := by rfl) (hdb : (x == ("__debug__" : Str)) = false := by decide)
  (he : starEach (e :: es) X.env = (false, eval e X.env) :: starEach es X.env := by rfl) (hpl : (backTo pos (starEach es X.env)).any (·.1) = false := by rfl) : PED X (.Call (.Name x p) (e :: es) [] pos) (je sp [] t) := by
 obtain ⟨f, fd, F, hm, hk, hb⟩ := h
 exact lu (dds := []) (dsv := []) F hr hg hm hk hb .nil (by simp) jv ha hdb he hpl
end
theorem pC {CX : CXT} {P : Program} {w : World} {K : PySem.W.Frag} {mg : Str -> Option Value} {base : Heap} {N : List Str} {qual : Str} {sc : Scope} {f : Addr} {cd : Value} {A : Around} {outer : List Env} {s : Shared} {H : Hp} {E : XK} : (bQ CX P w K mg base N qual sc f cd A outer s H E).K = K := rfl
theorem nR (c : Addr) : tyV (.exc c) = .ref c := rfl
theorem j9 (c : Addr) : gr (.exc c) = false := rfl
def jA : DSp := fun ds Q _ => ∃ ns : List Int, ds = [.lst false (ns.map .int)] /\ ns.length <= 63 /\ Q (.bl true)
theorem j7 {K : PySem.W.Frag} {P : Bool -> Addr -> Prop} {H : Hp} : ∀ ns : List Int, af K P H (ns.map D.int) (ns.map V.int)
 | [] => af.nil
 | n :: r => af.cons (Den.int n) (j7 r)
theorem u4 {K : PySem.W.Frag} {H : Hp} {a : Addr} {ns : List Int} (hl : ns.length <= 63) (hS : SqL K H a (ns.map V.int)) (hT : fq K H) : aG K jA [.ref a] H (fun v _ => v = .bl true) fun _ _ _ => False :=
 ⟨fun _ => False, [.lst false (ns.map D.int)], fun d => d = .bl true, fun _ => False, hT, fun _ z => z.elim, af.one (Den.lst (fun z => z.elim (fun z => by cases z) id) (.any hS) (j7 ns)), ⟨ns, rfl, hl, rfl⟩, fun d v H' _ hd e => by subst e; exact hd.bl_, fun _ _ _ _ z => z.elim⟩
theorem walk {l : PySem.W.OpenLaw} {q : Program} {loose : List Str} {XP : (Str -> Option Value) -> Heap -> Prop} {YP : World -> Heap -> Prop} {d : DefRec} {K : Params -> PySem.W.Frag} {k : Nat} {x : Str} (hn : l.most = some 63) (hdf : d.params.defaults = []) (hr : aW k callerA)
  (hY : ∀ (w : World) (h : Heap), YP w h -> (K w.params).In h) (hT : ∀ w : World, tabOf (K w.params) = none)
  (F : ∀ (w : World) (mg : Str -> Option Value) (fa : Addr) (h : Heap), (K w.params).In h -> h.Ns mainGlobals mg -> mg d.name = some (.ref fa) →
   ∃ fd : FuncData, (∀ (s : Shared) (u : Value), BindsTo s fd ⟨[u], []⟩ [(x, u)]) /\ ∀ base : Heap, (K w.params).In base -> base.Ns mainGlobals mg -> aC l.prog w (K w.params) mg base (CX1 l.prog w) k fa fd [x] (aG (K w.params) jA)) :
  PySem.W.WalkO q loose XP YP l.row.toRowW d [] (fun f vs => PySem.call f vs) :=
 L2.uy (n := 63) (k := k) (x := x) (CX := fun w => CX1 l.prog w) (sp := fun w => aG (K w.params) jA) hn (by decide) hdf hr hY F (fun w _ a ns hl hO hS => u4 hl hS ⟨fun P ps e => (by rcases hO P with z | ⟨o, xs, z⟩ <;> rw [z] at e <;> cases e), fun P e => (by rw [hT w] at e; cases e)⟩) fun _ _ _ _ _ z => by obtain ⟨_, _, _, _, _, _, _, _, _, _, _, _, _, q⟩ := z; exact q.elim
theorem at0 {α : Type} (a : α) (r : List α) : atI (a :: r) 0 = some a := cZ (j := 0) rfl
theorem at1 {α : Type} (a b : α) (r : List α) : atI (a :: b :: r) 1 = some b := cZ (j := 1) rfl
theorem at2 {α : Type} (a b c : α) (r : List α) : atI (a :: b :: c :: r) 2 = some c := cZ (j := 2) rfl
theorem at3 {α : Type} (a b c d : α) (r : List α) : atI (a :: b :: c :: d :: r) 3 = some d := cZ (j := 3) rfl
theorem de (ds : List D) (i : Int) (Q : D -> Prop) : ib (.tup ds) (.int i) Q = ∃ d, atI ds i = some d /\ Q d := by
 apply propext
 constructor
 ·rintro ⟨ds', i', d, e1, e2, h, q⟩
  rcases e1 with e1 | ⟨_, e1⟩
  ·cases e1; cases e2; exact ⟨d, h, q⟩
  ·cases e1
 ·rintro ⟨d, h, q⟩
  exact ⟨ds, i, d, .inl rfl, rfl, h, q⟩
theorem mi (t : Bool) (ds : List D) (i : Int) (Q : D -> Prop) : ib (.lst t ds) (.int i) Q = ∃ d, atI ds i = some d /\ Q d := by
 apply propext
 constructor
 ·rintro ⟨ds', i', d, e1, e2, h, q⟩
  rcases e1 with e1 | ⟨_, e1⟩
  ·cases e1
  ·cases e1; cases e2; exact ⟨d, h, q⟩
 ·rintro ⟨d, h, q⟩
  exact ⟨ds, i, d, .inr ⟨t, rfl⟩, rfl, h, q⟩
theorem aZ (i : Int) : aA (.int i) = .int i := by rw [aA]
theorem gD (b : Bool) : aA (.bl b) = .bl b := by rw [aA]
theorem fj : aA .non = .non := by rw [aA]
theorem kB (x : Str) : aA (.str x) = .str x := by rw [aA]
theorem kx (c : Addr) : aA (.exc c) = .exc c := by rw [aA]
theorem bw (ds : List D) : aA (.tup ds) = .tup (aF ds) := by rw [aA]
theorem ky (t : Bool) (ds : List D) : aA (.lst t ds) = .lst false (aF ds) := by rw [aA]
theorem aV : aF [] = [] := by rw [aF]
theorem aP (d : D) (ds : List D) : aF (d :: ds) = aA d :: aF ds := by rw [aF]
theorem eg {α : Type} (f : α -> D) (h : ∀ x, aA (f x) = f x) : ∀ xs : List α, aF (xs.map f) = xs.map f
 | [] => by rw [zAi, aF]
 | x :: r => by rw [zAF, aF, h, eg f h r]
theorem dA (ns : List Int) : aF (ns.map D.int) = ns.map D.int := eg _ aZ ns
theorem nK (C : Int -> Int -> Prop) (g : Int -> Int -> D) (i j : Int) (Q : D -> Prop) : rdI C g (.int i) (.int j) Q = (C i j /\ Q (g i j)) := by
 apply propext
 constructor
 ·rintro ⟨i', j', e1, e2, h, q⟩
  cases e1; cases e2; exact ⟨h, q⟩
 ·rintro ⟨h, q⟩
  exact ⟨i, j, rfl, rfl, h, q⟩
theorem mh (g : Int -> Int -> D) (i j : Int) (Q : D -> Prop) : fA g (.int i) (.int j) Q = Q (g i j) := by
 apply propext
 constructor
 ·rintro ⟨i', j', e1, e2, q⟩
  cases e1; cases e2; exact q
 ·intro q
  exact ⟨i, j, rfl, rfl, q⟩
theorem pP (d : D) (r : Ro) (Q : D -> Prop) : oA 0 (some (.val d) :: r) Q = Q d := by
 apply propext
 constructor
 ·rintro ⟨d', e, q⟩
  cases e; exact q
 ·intro q; exact ⟨d, rfl, q⟩
theorem pQ (n : Nat) (x : Option Sl) (r : Ro) (Q : D -> Prop) : oA (n + 1) (x :: r) Q = oA n r Q := rfl
theorem tH (x y : Option Sl) (r : Ro) : List.set (x :: r) 0 y = y :: r := rfl
theorem tI (n : Nat) (x y : Option Sl) (r : Ro) : List.set (x :: r) (n + 1) y = x :: List.set r n y := rfl
theorem tm (k : Bool) (R : Bool -> Prop) : (∃ c, (D.bl k) = .bl c /\ R c) = R k := by
 apply propext
 constructor
 ·rintro ⟨c, e, q⟩; cases e; exact q
 ·intro q; exact ⟨k, rfl, q⟩
theorem p5 (k : Int) (R : Int -> Prop) : (∃ c, (D.int k) = .int c /\ R c) = R k := by
 apply propext
 constructor
 ·rintro ⟨c, e, q⟩; cases e; exact q
 ·intro q; exact ⟨k, rfl, q⟩
theorem eh {α : Type} (k : α) (R : α -> Prop) : (∃ c, some k = some c /\ R c) = R k := by
 apply propext
 constructor
 ·rintro ⟨c, e, q⟩; cases e; exact q
 ·intro q; exact ⟨k, rfl, q⟩
theorem sz3 (a b c : D) : ([a, b, c] : List D).length <= sizeLine := by rw [sizeLine_eq]; show 3 <= 16777216; decide
theorem sz2 (a b : D) : ([a, b] : List D).length <= sizeLine := by rw [sizeLine_eq]; show 2 <= 16777216; decide
theorem sz4 (a b c d : D) : ([a, b, c, d] : List D).length <= sizeLine := by rw [sizeLine_eq]; show 4 <= 16777216; decide
theorem ny (t : Bool) (xs : List D) (R : List D -> Prop) : (∃ ys, ((∃ t', [D.lst t xs] = [.lst t' ys]) ∨ [D.lst t xs] = [.tup ys]) /\ R ys) = R xs := by
 apply propext
 constructor
 ·rintro ⟨c, e, q⟩
  rcases e with ⟨_, e⟩ | e
  ·cases e; exact q
  ·cases e
 ·intro q; exact ⟨xs, .inl ⟨t, rfl⟩, q⟩
theorem nA (xs : List D) (R : List D -> Prop) : (∃ ys, ((∃ t', [D.tup xs] = [.lst t' ys]) ∨ [D.tup xs] = [.tup ys]) /\ R ys) = R xs := by
 apply propext
 constructor
 ·rintro ⟨c, e, q⟩
  rcases e with ⟨_, e⟩ | e
  ·cases e
  ·cases e; exact q
 ·intro q; exact ⟨xs, .inr rfl, q⟩
theorem qL (a b : D) (R : D -> D -> Prop) : (∃ d e, [a, b] = [d, e] /\ R d e) = R a b := by
 apply propext
 constructor
 ·rintro ⟨_, _, e, q⟩; cases e; exact q
 ·intro q; exact ⟨a, b, rfl, q⟩
theorem nr (ds : List D) : isT "tuple" (.tup ds) = true := by
 show (("tuple" : String) == "tuple" || (("tuple" : String) == "bool" && ("tuple" : String) == "int")) = true
 decide
theorem kl (t : Bool) (ds : List D) : isT "tuple" (.lst t ds) = false := by
 show (("list" : String) == "tuple" || (("list" : String) == "bool" && ("tuple" : String) == "int")) = false
 decide
theorem nk (t : Bool) (ds : List D) : isT "list" (.lst t ds) = true := by
 show (("list" : String) == "list" || (("list" : String) == "bool" && ("list" : String) == "int")) = true
 decide
theorem kj (ds : List D) : isT "list" (.tup ds) = false := by
 show (("tuple" : String) == "list" || (("tuple" : String) == "bool" && ("list" : String) == "int")) = false
 decide
theorem nj (i : Int) : isT "int" (.int i) = true := by
 show (("int" : String) == "int" || (("int" : String) == "bool" && ("int" : String) == "int")) = true
 decide
theorem jl (i : Int) : isT "bool" (.int i) = false := by
 show (("int" : String) == "bool" || (("int" : String) == "bool" && ("bool" : String) == "int")) = false
 decide
theorem kh : gr .non = true := rfl
theorem ki (ds : List D) : gr (.tup ds) = false := rfl
theorem kg (t : Bool) (ds : List D) : gr (.lst t ds) = false := rfl
theorem ka (i : Int) : gr (.int i) = false := rfl
theorem nC (i : Int) : okD (.int i) := by unfold okD; rw [pyD, plD] <;> first | exact ⟨rfl, rfl⟩ | (intros; contradiction)
theorem nD : okD .non := by unfold okD; rw [pyD, plD] <;> first | exact ⟨rfl, rfl⟩ | (intros; contradiction)
theorem vc (a b c : Int) : okD (.tup [.int a, .int b, .int c]) := by unfold okD; simp only [pyD, bH, plD, gs]; exact ⟨rfl, rfl⟩
theorem pZ (a b c x y z : Int) : eqD (.tup [.int a, .int b, .int c]) (.tup [.int x, .int y, .int z]) = (decide (a = x) && (decide (b = y) && decide (c = z))) := by
 unfold eqD
 simp only [pyD, bH, PyData.eqv, PyData.eqvAll, Bool.and_true]
 rfl
abbrev T3 (a b c : Int) : D := .tup [.int a, .int b, .int c]
theorem CD.lit {i n : Int} (h : n ≠ 0 /\ n.natAbs < 2 ^ 64 := by decide) : CD i n := ⟨h.1, zAH h.2 (Nat.pow_le_pow_right (by decide) (by decide))⟩
theorem nN (a b d : Int) (R : Int -> Int -> Int -> Prop) : (∃ i j c : Int, [D.int a, D.int b, D.int d] = [.int i, .int j, .int c] /\ R i j c) = R a b d := by
 apply propext
 constructor
 ·rintro ⟨_, _, _, e, q⟩; cases e; exact q
 ·intro q; exact ⟨a, b, d, rfl, q⟩
theorem nM (a b : Int) (R : Int -> Int -> Prop) : (∃ i j : Int, [D.int a, D.int b] = [.int i, .int j] /\ R i j) = R a b := by
 apply propext
 constructor
 ·rintro ⟨_, _, e, q⟩; cases e; exact q
 ·intro q; exact ⟨a, b, rfl, q⟩
theorem nL (a : Int) (R : Int -> Prop) : (∃ i : Int, [D.int a] = [.int i] /\ R i) = R a := by
 apply propext
 constructor
 ·rintro ⟨_, e, q⟩; cases e; exact q
 ·intro q; exact ⟨a, rfl, q⟩
theorem qO {lo c : Int} {n j : Nat} {x : D} (h : (fC lo c n)[j]? = some x) : j < n /\ x = .int (lo + j * c) := by
 by_cases hj : j < n
 ·rw [mm hj] at h
  exact ⟨hj, (zAT h).symm⟩
 ·rw [zAp (by rw [i5]; omega)] at h
  cases h
theorem um {lo hi c : Int} {j : Nat} (hc : 0 < c) (h : j < eJ lo hi c) : lo + j * c < hi := by
 unfold eJ Builtin.Range.rangeSize at h
 rw [if_pos (show c > 0 from hc)] at h
 by_cases hl : lo < hi
 ·rw [if_pos hl] at h
  have h1 : (j : Int) <= (hi - lo - 1) / c := by omega
  have h2 := (Int.le_ediv_iff_mul_le hc).mp h1
  omega
 ·rw [if_neg hl] at h
  simp at h
theorem rh {ns : List Int} {k : Int} (h0 : 0 <= k) (h1 : k < ns.length) : atI (ns.map D.int) k = some (.int (ns.getD k.toNat 0)) := by
 have e : k = ((k.toNat : Nat) : Int) := by omega
 have hl : k.toNat < ns.length := by omega
 have q : atI (ns.map D.int) ((k.toNat : Nat) : Int) = some (.int (ns.getD k.toNat 0)) := cZ (by simp [zAQ, List.getElem?_eq_getElem hl, zA2])
 rw [<- e] at q
 exact q
theorem iR {xs ys : List Int} (h : xs.map D.int = ys.map D.int) : xs = ys := by
 induction xs generalizing ys with
 | nil => cases ys with
  | nil => rfl
  | cons y r => simp at h
 | cons x r ih => cases ys with
  | nil => simp at h
  | cons y q =>
   simp only [zAF, zAB, D.int.injEq] at h
   rw [h.1, ih h.2]
theorem gdN (n : Nat) (t : DGs) (tg : Bool) (ds : List D) (h : ds.length = n) (ρ : Ro) (Q : Ro -> Prop) : d6 n t (.lst tg ds) ρ Q = t ds ρ Q := by
 apply propext
 unfold d6
 constructor
 ·rintro ⟨ds', e, _, h⟩
  rcases e with e | ⟨_, e⟩
  ·cases e
  ·cases e; exact h
 ·intro q; exact ⟨ds, .inr ⟨tg, rfl⟩, h, q⟩
theorem oM (n : Nat) (t : DGs) (ds : List D) (h : ds.length = n) (ρ : Ro) (Q : Ro -> Prop) : d6 n t (.tup ds) ρ Q = t ds ρ Q := by
 apply propext
 unfold d6
 constructor
 ·rintro ⟨ds', e, _, h⟩
  rcases e with e | ⟨_, e⟩
  ·cases e; exact h
  ·cases e
 ·intro q; exact ⟨ds, .inl rfl, h, q⟩
theorem gdc (g : DG) (u : DGs) (x : D) (r : List D) (ρ : Ro) (Q : Ro -> Prop) : bG g u (x :: r) ρ Q = g x ρ fun ρ' => u r ρ' Q := by
 apply propext
 unfold bG
 constructor
 ·rintro ⟨d, r', e, h⟩; cases e; exact h
 ·intro h; exact ⟨x, r, rfl, h⟩
theorem gdn (ρ : Ro) (Q : Ro -> Prop) : gm [] ρ Q = Q ρ := by apply propext; unfold gm; simp
theorem gd2 (g1 g2 : DG) (tg : Bool) (a b : D) (ρ : Ro) (Q : Ro -> Prop) : d6 2 (bG g1 (bG g2 gm)) (.lst tg [a, b]) ρ Q = g1 a ρ fun ρ1 => g2 b ρ1 Q := by
 (first | rw [gdN 2 _ _ _ rfl] | rw [gdN 3 _ _ _ rfl]); simp only [gdc, gdn]
theorem uU (g1 g2 : DG) (a b : D) (ρ : Ro) (Q : Ro -> Prop) : d6 2 (bG g1 (bG g2 gm)) (.tup [a, b]) ρ Q = g1 a ρ fun ρ1 => g2 b ρ1 Q := by
 (first | rw [oM 2 _ _ rfl] | rw [oM 4 _ _ rfl]); simp only [gdc, gdn]
theorem gd3 (g1 g2 g3 : DG) (tg : Bool) (a b c : D) (ρ : Ro) (Q : Ro -> Prop) : d6 3 (bG g1 (bG g2 (bG g3 gm))) (.lst tg [a, b, c]) ρ Q = g1 a ρ fun ρ1 => g2 b ρ1 fun ρ2 => g3 c ρ2 Q := by
 (first | rw [gdN 2 _ _ _ rfl] | rw [gdN 3 _ _ _ rfl]); simp only [gdc, gdn]
theorem oK (g1 g2 g3 g4 : DG) (a b c d : D) (ρ : Ro) (Q : Ro -> Prop) : d6 4 (bG g1 (bG g2 (bG g3 (bG g4 gm)))) (.tup [a, b, c, d]) ρ Q = g1 a ρ fun ρ1 => g2 b ρ1 fun ρ2 => g3 c ρ2 fun ρ3 => g4 d ρ3 Q := by
 (first | rw [oM 2 _ _ rfl] | rw [oM 4 _ _ rfl]); simp only [gdc, gdn]
end PD
namespace PD
open PySem PySem.Spec PyProof.Rows L2
section
variable {X : Cx} {pos : Pos}
theorem Rel.putG {W : Own} {H H' : Hp} {σ : St} {ρ : Ro} {i : Nat} {p : Addr} {x : OS} {o : HO} (r : Rel X W H σ ρ) (hi : i < σ.length) (sm : ah H H') (hp : H p = none) (hk : X.K.lookup p = none) (h' : H' p = some o) (hd : bJ X.K (fun t b => W.bad t b ∨ b = p) H' (W.sub σ.length i) x o) :
  Rel X ((W.drop i).put i p) H' (σ.set i (some (.ref p))) (ρ.set i (some (.ob x))) /\ Fwd W H ((W.drop i).put i p) H' := by
 have hO : ∀ j a, ((W.drop i).put i p).O j = some a -> (j = i /\ a = p) ∨ (j ≠ i /\ W.O j = some a) := fun j a h => by
  have h1 : (if j = i then some p else (if j = i then none else W.O j)) = some a := h
  by_cases e : j = i
  ·rw [if_pos e] at h1; cases h1; exact .inl ⟨e, rfl⟩
  ·rw [if_neg e, if_neg e] at h1; exact .inr ⟨e, h1⟩
 have hOi : ((W.drop i).put i p).O i = some p := by show (if i = i then some p else _) = _; rw [if_pos rfl]
 have hOj : ∀ j, j ≠ i -> ((W.drop i).put i p).O j = W.O j := fun j n => by show (if j = i then some p else (if j = i then none else W.O j)) = _; rw [if_neg n, if_neg n]
 have hS : ∀ j k b, W.sub σ.length j k = some b -> ((W.drop i).put i p).sub σ.length j k = some b := fun j k b e => (hOj _ (mD hi)).trans e
 have bad' : ∀ t a, ((W.drop i).put i p).bad t a -> W.bad t a ∨ a = p := fun t a z => by
  rcases z with z | ⟨j, z⟩ | z
  ·exact .inl (.inl z)
  ·rcases hO j a z with ⟨_, q⟩ | ⟨_, q⟩
   ·exact .inr q
   ·exact .inl (.inr (.inl ⟨j, q⟩))
  ·exact .inl (.inr (.inr z))
 have nb : ∀ {t : Bool} {a : Addr} {ws : List V}, SqG X.K H t a ws -> a ≠ p := fun {t a ws} q z => by
  subst z
  rcases q.1 with (q | ⟨o, q⟩) | ⟨o, its, n, q, _⟩
  ·rw [hp] at q; cases q
  ·rw [hp] at q; cases q
  ·rw [hk] at q; cases q
 have up : ∀ (d : D) (v : V), Den X.K W.bad H d v -> Den X.K ((W.drop i).put i p).bad H' d v := Den.map (fun _ _ q => SqT.same sm q) (fun t a ws n q => ⟨fun z => (bad' t a z).elim n (nb q), q.same sm⟩) (fun a _ n q => sm.kp a _ q n.nt)
 have ups : ∀ (ds : List D) (vs' : List V), af X.K W.bad H ds vs' -> af X.K ((W.drop i).put i p).bad H' ds vs' := af.map (fun _ _ q => SqT.same sm q) (fun t a ws n q => ⟨fun z => (bad' t a z).elim n (nb q), q.same sm⟩) (fun a _ n q => sm.kp a _ q n.nt)
 refine ⟨⟨fun j d h => ?_, fun j x h => ?_, fun j k a h1 h2 => ?_, fun j a h1 => ?_, fun j a h1 => ?_, fun a h => let ⟨_, q⟩ := r.bt a h; sm.ex q, fun a h => let ⟨_, q⟩ := r.st a h; sm.ex q, r.ent.trans sm, r.tab.same sm⟩, rfl, rfl, fun b o _ q n => sm.kp b o q n, fun j a h => ?_, sm.tb, sm.ok⟩
 ·by_cases hj : j = i
  ·subst hj
   rw [List.getElem?_set] at h
   split at h
   ·split at h <;> cases h
   ·omega
  ·rw [zAL (Ne.symm hj)] at h
   obtain ⟨w, h1, h2⟩ := r.val j d h
   exact ⟨w, by rw [zAL (Ne.symm hj)]; exact h1, up d w h2⟩
 ·by_cases hj : j = i
  ·subst hj
   rw [List.getElem?_set] at h
   split at h
   ·split at h
    ·cases h
     exact ⟨p, _, hOi, by simp [hi], h', by rw [List.length_set]; exact hd.fewer (fun t a z => bad' t a z) (hS _)⟩
    ·cases h
   ·omega
  ·rw [zAL (Ne.symm hj)] at h
   obtain ⟨a, ws, h1, h2, h3, h4⟩ := r.own j x h
   exact ⟨a, ws, (hOj j hj).trans h1, by rw [zAL (Ne.symm hj)]; exact h2, sm.kp _ _ h3 h4.mut.nt, by rw [List.length_set]; exact h4.map ups fun k b q => ⟨hS j k b q, fun _ z => sm _ _ z⟩⟩
 ·rcases hO j a h1 with ⟨e1, q1⟩ | ⟨e1, q1⟩ <;> rcases hO k a h2 with ⟨e2, q2⟩ | ⟨e2, q2⟩
  ·rw [e1, e2]
  ·subst q1
   obtain ⟨_, _, ws, q, _⟩ := r.kn k _ q2
   rw [hp] at q; cases q
  ·subst q2
   obtain ⟨_, _, ws, q, _⟩ := r.kn j _ q1
   rw [hp] at q; cases q
  ·exact r.inj j k a q1 q2
 ·rcases hO j a h1 with ⟨e1, q1⟩ | ⟨e1, q1⟩
  ·subst q1
   exact ⟨hk, ⟨fun z => (by obtain ⟨o, q⟩ := r.bt _ z; rw [hp] at q; cases q), fun z => (by obtain ⟨o, q⟩ := r.st _ z; rw [hp] at q; cases q)⟩, _, h', hd.mut⟩
  ·obtain ⟨a1, a2, ws, a3, a4⟩ := r.kn j a q1
   exact ⟨a1, a2, ws, sm.kp _ _ a3 a4.nt, a4⟩
 ·rcases hO j a h1 with ⟨e1, q1⟩ | ⟨e1, q1⟩
  ·subst q1; exact r.ent.free hp
  ·exact r.ke j a q1
 ·rcases hO j a h with ⟨e1, q1⟩ | ⟨e1, q1⟩
  ·subst q1; exact .inr hp
  ·exact .inl ⟨j, q1⟩
theorem Rel.putOwn2 {W : Own} {H H' : Hp} {σ : St} {ρ : Ro} {i : Nat} {p : Addr} {ds : List D} {vs : List V} (r : Rel X W H σ ρ) (hi : i < σ.length) (sm : ah H H') (hp : H p = none) (hk : X.K.lookup p = none) (h' : H' p = some (.lst vs)) (hd : af X.K (fun t b => W.bad t b ∨ b = p) H' ds vs) :
  Rel X ((W.drop i).put i p) H' (σ.set i (some (.ref p))) (ρ.set i (some (.own ds))) /\ Fwd W H ((W.drop i).put i p) H' := r.putG hi sm hp hk h' (.lst hd)
theorem af.apart {K : PySem.W.Frag} {P : Bool -> Addr -> Prop} {H : Hp} {a : Addr} {o : HO} {ds : List D} {us : List V} (n : H a = none) (k : K.lookup a = none) (h : af K P H ds us) (nt : NT o := by exact True.intro) : af K (fun t b => P t b ∨ b = a) (L2.upd H a o) ds us :=
 af.map (fun _ _ q => SqT.same (ah.upd n nt) q) (fun t b ws p q => ⟨(fun z => z.elim p fun z => by
  subst z
  rcases q.1 with (q | ⟨o, q⟩) | ⟨o, its, m, q, _⟩
  ·rw [n] at q; cases q
  ·rw [n] at q; cases q
  ·rw [k] at q; cases q), q.same (ah.upd n nt)⟩) (fun b _ m q => (ah.upd n nt).kp b _ q m.nt) ds us h
theorem Rel.mutG {W : Own} {H : Hp} {σ : St} {ρ : Ro} {i : Nat} {a : Addr} {x x' : OS} {o o' : HO} (r : Rel X W H σ ρ) (eo : ρ[i]? = some (some (.ob x))) (oa : W.O i = some a) (sa : σ[i]? = some (some (.ref a))) (ha : H a = some o) (hm : eA o) (hd : bJ X.K W.bad H (W.sub σ.length i) x' o') :
  Rel X W (L2.upd H a o') σ (ρ.set i (some (.ob x'))) /\ Fwd W H W (L2.upd H a o') := by
 have badA : ∀ t, W.bad t a := fun _ => .inr (.inl ⟨i, oa⟩)
 have noT : ∀ b ws, SqT X.K H b ws -> SqT X.K (L2.upd H a o') b ws := fun b ws q => by
  show L2.upd _ _ _ _ = _
  rw [aq (dn q ha (by intro z; subst z; exact hm))]
  exact q
 have noL : ∀ t b ws, ¬ W.bad t b -> SqG X.K H t b ws -> ¬ W.bad t b /\ SqG X.K (L2.upd H a o') t b ws := fun t b ws n q => by
  have hne : b ≠ a := fun e => n (e ▸ badA t)
  refine ⟨n, ?_, fun z => ⟨by rw [aq hne]; exact (q.2 z).1, (q.2 z).2⟩⟩
  rcases q.1 with (q | ⟨u, q⟩) | q
  ·exact .inl (.inl (by rw [aq hne]; exact q))
  ·exact .inl (.inr ⟨u, by rw [aq hne]; exact q⟩)
  ·exact .inr q
 have noX : ∀ b u, Sol u -> H b = some u -> L2.upd H a o' b = some u := fun b u n q => by rw [aq (dn q ha (by intro z; subst z; exact hm.sol n))]; exact q
 have hl' : i < ρ.length := (zAI.mp eo).1
 have il : i < σ.length := (zAI.mp sa).1
 have hSb : ∀ j k b, W.sub σ.length j k = some b -> W.sub σ.length j k = some b /\ ∀ us, H b = some (.lst us) -> L2.upd H a o' b = some (.lst us) := fun j k b q => ⟨q, fun us z => by rw [aq (fun e => mD il (r.inj _ _ a (by rw [<- e]; exact q) oa))]; exact z⟩
 have tr : ∀ b u, H b = some u -> ∃ u', L2.upd H a o' b = some u' := fun b u q => by
  by_cases hba : b = a
  ·subst hba; exact ⟨_, ax⟩
  ·exact ⟨u, by rw [aq hba]; exact q⟩
 refine ⟨⟨fun j d h => ?_, fun j y h => ?_, r.inj, fun j b hb => ?_, r.ke, fun b hb => let ⟨u, q⟩ := r.bt b hb; tr b u q, fun b hb => let ⟨u, q⟩ := r.st b hb; tr b u q, r.ent.ins (r.ke i a oa) ha hm hd.mut.nt, r.tab.upd hd.mut.nt (.inr ⟨o, ha, hm.ne, hm.nt⟩)⟩, Fwd.upd oa ha hm hd.mut.nt⟩
 ·by_cases hj : j = i
  ·subst hj
   rw [zAX hl'] at h; cases h
  ·rw [zAL (Ne.symm hj)] at h
   obtain ⟨w, h1, h2⟩ := r.val j d h
   exact ⟨w, h1, Den.map noT noL noX d w h2⟩
 ·by_cases hj : j = i
  ·subst hj
   rw [zAX hl'] at h
   cases h
   exact ⟨a, o', oa, sa, ax, hd.map (af.map noT noL noX) (hSb _)⟩
  ·rw [zAL (Ne.symm hj)] at h
   obtain ⟨b, ws, h1, h2, h3, h4⟩ := r.own j y h
   have hne : b ≠ a := fun e => hj (r.inj j i a (by rw [<- e]; exact h1) oa)
   exact ⟨b, ws, h1, h2, by rw [aq hne]; exact h3, h4.map (af.map noT noL noX) (hSb _)⟩
 ·obtain ⟨k1, k2, ws, k3, k4⟩ := r.kn j b hb
  refine ⟨k1, k2, ?_⟩
  by_cases hba : b = a
  ·subst hba; exact ⟨_, ax, hd.mut⟩
  ·exact ⟨ws, by rw [aq hba]; exact k3, k4⟩
theorem Rel.mut {W : Own} {H : Hp} {σ : St} {ρ : Ro} {i : Nat} {a : Addr} {ds ds' : List D} {vs vs' : List V} (r : Rel X W H σ ρ) (eo : ρ[i]? = some (some (.own ds))) (oa : W.O i = some a) (sa : σ[i]? = some (some (.ref a))) (ha : H a = some (.lst vs)) (hd : af X.K W.bad H ds' vs') :
  Rel X W (L2.upd H a (.lst vs')) σ (ρ.set i (some (.own ds'))) /\ Fwd W H W (L2.upd H a (.lst vs')) := r.mutG eo oa sa ha True.intro (.lst hd)
variable {es : List Expr} {t : DA}
def rG (i : Nat) (t : DA) : DS := fun E ρ => t ρ fun ds => ds.length <= sizeLine /\ E.nx (ρ.set i (some (.own ds)))
theorem lC {x : Str} {pos' lpos : Pos} (i : Nat) (hN : X.N.Nodup) (h : PAD X es t) (hi : X.N[i]? = some x := by rfl) (hx : Loc X.env.scope x := by first | exact Or.inl rfl | exact Or.inr rfl)
  (hs : swapsWith (.List es lpos) (some (.Name x pos')) pos.line X.env = pure false := by rfl) (hf : X.fn x = true ∨ X.env.scope.names.lookup x = some .local := by first | exact .inl rfl | exact .inr rfl | assumption) :
  PSD X (.Assign [.Name x pos'] (.List es lpos) pos) (rG i t) := by
 intro pins s σ H W ρ E I r hq
 refine wpAny_Assign_Name (wpAny_List_spliced (thn (h lpos pins s σ H W ρ _ I r hq) fun us s1 ⟨vs, H1, ds, I1, rv, e1, hd, z, q⟩ => ?_)) hs
 rw [<- hd.len] at z
 refine ⟨by rw [<- rv.length]; exact z, ?_⟩
 have hf1 : H1 s1.heap.objs.size = none := I1.hok.fresh (zAG _)
 have I2 := I1.laid (o := .lst vs) (t' := s1.toks) (fun b u e => zAA _ e) (zAG _) ⟨z, us, 0, rv, zAD _ rfl⟩
 have rp := (r.same e1).putOwn2 (Inv.ilt I1 hi) (ah.upd (o := .lst vs) hf1) hf1 (Inv.kfresh I1) ax (af.apart hf1 (Inv.kfresh I1) hd)
 exact eY (v := .ref s1.heap.objs.size) I2 hN hi hx rfl (fun s2 I3 => ⟨_, _, _, I3, (Fwd.same e1).trans rp.2, _, rp.1, q⟩) hf
def jI (i : Nat) (te : DE) : DS := fun E ρ => ∃ ds, ρ[i]? = some (some (.own ds)) /\ te ρ fun d => ds.length < sizeLine /\ E.nx (ρ.set i (some (.own (ds ++ [d]))))
theorem gU {x : Str} {e : Expr} {te : DE} {px apos cpos : Pos} (i : Nat) (he : PED X e te) (hi : X.N[i]? = some x := by rfl) (hv : Vis X.env.scope x := by first | exact Or.inl rfl | exact Or.inr (Or.inl rfl) | exact Or.inr (Or.inr rfl))
  (hd : (x == ("__debug__" : Str)) = false := by decide) (hcd : (x == ("__classdict__" : Str)) = false := by decide)
  (hbase : attributeBase (.Name x px) "append" X.env (eval (.Name x px) X.env) = eval (.Name x px) X.env := by rfl)
  (hfew : ((backTo cpos (starEach [e] X.env)).all (fun x => !x.1) && (backToKw cpos (keywordEach [] X.env)).all (fun x => x.1.isSome) && decide ([e].length + ([] : List Keyword).length + (if ([] : List Keyword).isEmpty then 0 else 1) < 30)) = true := by rfl)
  (hline : (apos.endLine == cpos.line) = true := by rfl) (hst : starEach [e] X.env = (false, eval e X.env) :: starEach [] X.env := by rfl) (hplain : (backTo cpos (starEach [] X.env)).any (·.1) = false := by rfl)
  (hs : swapsWith (.Call (.Attribute (.Name x px) "append" apos) [e] [] cpos) none pos.line X.env = pure false := by rfl) :
  PSD X (.Expr (.Call (.Attribute (.Name x px) "append" apos) [e] [] cpos) pos) (jI i te) := by
 have P0 := uj (pos := pos) (vQ PySem.F.plainAttrs_list PySem.F.slot_list_append PySem.F.type_list_append km (dH hi hv hd hcd) (bL he.pe eI hst) hbase hfew hline hst hplain) hs
 refine PSD.of P0 fun σ H W ρ E r hl h => ?_
 obtain ⟨ds, eo, h⟩ := h
 obtain ⟨a, vs, oa, sa, ha, hds⟩ := r.ownL i ds eo
 refine ⟨.ref a, sa, .inl ⟨rfl, _, SqL.of ha⟩, W, ρ, _, r, h, fun v H' d e1 hd' q => ?_⟩
 obtain ⟨z, q⟩ := q
 have ha' := e1 _ _ ha
 have r' := r.same e1
 have hds' := hds.same e1
 refine ⟨a, vs, v, rfl, rfl, ha', by rw [hds'.len]; exact z, ?_⟩
 obtain ⟨r2, f2⟩ := r'.mut (vs' := vs ++ [v]) eo oa sa ha' (hds'.append (af.one hd'))
 exact ⟨W, _, (Fwd.same e1).trans f2, r2, q⟩
theorem Rel.freeze {X : Cx} {W : Own} {H : Hp} {σ : St} {ρ : Ro} {i : Nat} {ds : List D} (r : Rel X W H σ ρ) (e : ρ[i]? = some (some (.own ds))) : Rel X (W.drop i) H σ (ρ.set i (some (.val (.lst true ds)))) := by
 obtain ⟨a, vs, oa, sa, ha, hds⟩ := r.ownL i ds e
 have il : i < σ.length := (zAI.mp sa).1
 have hl' : i < ρ.length := (zAI.mp e).1
 have nb : ¬ (W.drop i).bad true a := fun z => by
  rcases z with z | ⟨j, z⟩ | ⟨_, z⟩
  rotate_right
  ·exact (r.kn i a oa).2.1.2 z
  ·exact (r.kn i a oa).2.1.1 z
  ·have z' : (if j = i then none else W.O j) = some a := z
   by_cases ej : j = i
   ·rw [if_pos ej] at z'; cases z'
   ·rw [if_neg ej] at z'; exact ej (r.inj j i a z' oa)
 have hd : Den X.K (W.drop i).bad H (.lst true ds) (.ref a) := Den.lst nb (.new ha (r.kn i a oa).1) (hds.fewer fun _ _ => Own.drop_bad)
 refine ⟨fun j x h => ?_, fun j x h => ?_, fun j k b h1 h2 => ?_, fun j b h1 => ?_, fun j b h1 => ?_, r.bt, r.st, r.ent, r.tab⟩
 ·by_cases hj : j = i
  ·subst hj
   rw [zAX hl'] at h
   cases h
   exact ⟨.ref a, sa, hd⟩
  ·rw [zAL (Ne.symm hj)] at h
   obtain ⟨w, h1, h2⟩ := r.val j x h
   exact ⟨w, h1, h2.fewer fun _ _ => Own.drop_bad⟩
 ·by_cases hj : j = i
  ·subst hj
   rw [zAX hl'] at h; cases h
  ·rw [zAL (Ne.symm hj)] at h
   obtain ⟨b, ws, h1, h2, h3, h4⟩ := r.own j x h
   exact ⟨b, ws, by show (if j = i then none else W.O j) = _; rw [if_neg hj]; exact h1, h2, h3, h4.fewer (fun _ _ => Own.drop_bad) (Own.drop_sub il)⟩
 ·have h1' : (if j = i then none else W.O j) = some b := h1
  have h2' : (if k = i then none else W.O k) = some b := h2
  by_cases e1 : j = i
  ·rw [if_pos e1] at h1'; cases h1'
  ·by_cases e2 : k = i
   ·rw [if_pos e2] at h2'; cases h2'
   ·rw [if_neg e1] at h1'
    rw [if_neg e2] at h2'
    exact r.inj j k b h1' h2'
 ·have h1' : (if j = i then none else W.O j) = some b := h1
  by_cases e1 : j = i
  ·rw [if_pos e1] at h1'; cases h1'
  ·rw [if_neg e1] at h1'
   exact r.kn j b h1'
 ·have h1' : (if j = i then none else W.O j) = some b := h1
  by_cases e1 : j = i
  ·rw [if_pos e1] at h1'; cases h1'
  ·rw [if_neg e1] at h1'
   exact r.ke j b h1'
def jJ (i : Nat) (t : DS) : DS := fun E ρ => ∃ ds, ρ[i]? = some (some (.own ds)) /\ t E (ρ.set i (some (.val (.lst true ds))))
theorem gj {sts : List Stmt} {t : DS} (i : Nat) (h : b6 X sts t) : b6 X sts (jJ i t) := by
 intro pins s σ H W ρ E I r hq
 obtain ⟨ds, e, hq⟩ := hq
 exact thn (h pins s σ H (W.drop i) _ E I (r.freeze e) hq) fun _ _ z => z.up (Fwd.drop W H i)
end
def cL (env : Env) (ns : List Str) : List (Str × Addr) := ns.filterMap fun n => (env.cells.lookup n).map fun c => (n, c)
theorem gd {env : Env} : ∀ {ns : List Str} {x : Str} {c : Addr}, (cL env ns).lookup x = some c -> env.cells.lookup x = some c
 | [], _, _, h => by cases h
 | n :: r, x, c, h => by
  unfold cL at h
  rw [zAu] at h
  cases e : env.cells.lookup n with
  | none =>
   rw [e] at h
   exact gd (ns := r) h
  | some c' =>
   rw [e] at h
   have h' : List.lookup x ((n, c') :: cL env r) = some c := h
   rw [zAU] at h'
   cases q : x == n with
   | true =>
    rw [q] at h'
    have ex : x = n := by simpa using q
    subst ex
    rw [e]
    exact h'
   | false =>
    rw [q] at h'
    exact gd (ns := r) h'
theorem iX {env : Env} : ∀ {ns : List Str} {x : Str} {c : Addr}, x ∈ ns -> env.cells.lookup x = some c -> (cL env ns).lookup x = some c
 | [], _, _, h, _ => by cases h
 | n :: r, x, c, h, e => by
  unfold cL
  rw [zAu]
  by_cases ex : x = n
  ·subst ex
   rw [e]
   show List.lookup x ((x, c) :: _) = some c
   simp [zAU]
  ·have h' : x ∈ r := by
    rcases zAN.mp h with z | z
    ·exact absurd z ex
    ·exact z
   have ih := iX (ns := r) h' e
   cases q : env.cells.lookup n with
   | none => exact ih
   | some c' =>
    show List.lookup x ((n, c') :: cL env r) = some c
    rw [zAU]
    have : (x == n) = false := by simpa using ex
    rw [this]
    exact ih
structure CSc (osc sc : Scope) (xs ns : List Str) : Prop where
 kind : sc.kind = .function
 nocell : ∀ y ∈ sc.names, y.2 ≠ .cell
 names : ∀ y ∈ sc.names, y.2 = .local -> sc.names.lookup y.1 = some .local
 tgt : ∀ x ∈ xs, sc.names.lookup x = some .local
 free : ∀ y ∈ sc.names, y.2 = .free -> y.1 ∈ ns /\ osc.names.lookup y.1 = some .cell
 cells : ∀ n ∈ ns, sc.names.lookup n = some .free /\ osc.names.lookup n = some .cell
 nd : (xs ++ ns).Nodup
def aN (X : Cx) (sc : Scope) (ns xs : List Str) (C : Addr) (s₂ : Shared) (H₂ : Hp) (fp : List Addr) (XE : Value -> Shared -> Prop) : Cx :=
 { X with N := xs ++ ns, s₀ := s₂, H₀ := H₂, env := compEnvC sc (cL X.env ns) C X.env, outer := X.stack, stack := X.stack, ex := fp, fn := fun _ => false, pn := [], xe := XE }
theorem fR {env : Env} (hk : env.scope.kind = .function) : ∀ {names : List (Str × NameKind)} {n : Str}, names.lookup n = some .free -> env.kindOf n = some .cell →
  (names.map fun (n, k) => if (k == NameKind.free && env.scope.kind == .function && env.kindOf n == some .cell) then (n, NameKind.cell) else (n, k)).lookup n = some .cell
 | [], _, h, _ => by simp at h
 | (m, k) :: r, n, h, hc => by
  have ih := @fR env hk r n
  show List.lookup n ((if (k == NameKind.free && env.scope.kind == .function && env.kindOf m == some .cell) = true then (m, NameKind.cell) else (m, k)) :: _) = _
  cases hx : n == m with
  | true =>
   simp only [zAU, hx] at h
   cases h
   have e : n = m := by simpa using hx
   subst e
   rw [hk, hc]
   simp [zAU]
  | false =>
   simp only [zAU, hx] at h
   by_cases hcc : (k == NameKind.free && env.scope.kind == .function && env.kindOf m == some .cell) = true
   ·rw [if_pos hcc]; simp only [zAU, hx]; exact ih h hc
   ·rw [if_neg hcc]; simp only [zAU, hx]; exact ih h hc
theorem fB {env : Env} : ∀ {names : List (Str × NameKind)} {n : Str} {k : NameKind},
  (names.map fun (n, k) => if (k == NameKind.free && env.scope.kind == .function && env.kindOf n == some .cell) then (n, NameKind.cell) else (n, k)).lookup n = some k -> (k = .cell ∨ k = .free) →
  (∃ y ∈ names, y.1 = n /\ y.2 = .free) ∨ ∃ y ∈ names, y.1 = n /\ y.2 = .cell
 | [], _, _, h, _ => by simp at h
 | (m, j) :: r, n, k, h, hk => by
  have h' : List.lookup n ((if (j == NameKind.free && env.scope.kind == .function && env.kindOf m == some .cell) = true then (m, NameKind.cell) else (m, j)) :: (r.map fun (n, k) => if (k == NameKind.free && env.scope.kind == .function && env.kindOf n == some .cell) then (n, NameKind.cell) else (n, k))) = some k := h
  have up : ((∃ y ∈ r, y.1 = n /\ y.2 = .free) ∨ ∃ y ∈ r, y.1 = n /\ y.2 = .cell) -> ((∃ y ∈ (m, j) :: r, y.1 = n /\ y.2 = .free) ∨ ∃ y ∈ (m, j) :: r, y.1 = n /\ y.2 = .cell) := fun z => by
   rcases z with ⟨y, hy, q⟩ | ⟨y, hy, q⟩
   ·exact .inl ⟨y, zAK _ hy, q⟩
   ·exact .inr ⟨y, zAK _ hy, q⟩
  cases hx : n == m with
  | true =>
   have e : n = m := by simpa using hx
   subst e
   by_cases hcc : (j == NameKind.free && env.scope.kind == .function && env.kindOf n == some .cell) = true
   ·have : j = .free := by
     simp only [zAk] at hcc
     exact beq_iff_eq.mp hcc.1.1
    exact .inl ⟨(n, j), zAO, rfl, this⟩
   ·rw [if_neg hcc] at h'
    simp only [zAU, hx] at h'
    cases h'
    rcases hk with hk | hk
    ·exact .inr ⟨(n, j), zAO, rfl, hk⟩
    ·exact .inl ⟨(n, j), zAO, rfl, hk⟩
  | false =>
   by_cases hcc : (j == NameKind.free && env.scope.kind == .function && env.kindOf m == some .cell) = true
   ·rw [if_pos hcc] at h'; simp only [zAU, hx] at h'
    exact up (fB h' hk)
   ·rw [if_neg hcc] at h'; simp only [zAU, hx] at h'
    exact up (fB h' hk)
end PD
namespace PD
open PySem PySem.Spec PyProof.Rows L2
def bu (ρ : Ro) (j : Nat) : Option Sl := match ρ[j]? with
 | some (some (.val d)) => some (.val d)
 | _ => none
def ft (σ : St) (j : Nat) : Option V := match σ[j]? with
 | some (some v) => some v
 | _ => none
section
variable {X : Cx} {pins : List (Addr × Obj)} {σ : St} {H : Hp} {s : Shared} {sc : Scope} {ns : List Str} {js : List Nat} {xs : List Str} {fp : List Addr}
theorem Inv.comp {XE : Value -> Shared -> Prop} {s₁ : Shared} {H₁ : Hp} {C : Addr} (I : Inv X pins σ H s) (S : CSc X.env.scope sc xs ns) (hj : js.length = ns.length /\ ∀ (i : Nat) (j : Nat) (n : Str), js[i]? = some j -> ns[i]? = some n -> X.N[j]? = some n) (hfp : ∀ b ∈ fp, cJ X pins H b) (hfo : ∀ b ∈ fp, ∃ o, s.heap.get? b = some o) (hC : s.heap.objs.size <= C)
  (hos : s₁.os = s.os) (hg : AllBare s₁.gens) (hk : ∀ b o, s.heap.get? b = some o -> s₁.heap.get? b = some o) (hns : s₁.heap.Ns C fun _ => none) (hCn : H₁ C = none) (hs : ah H H₁) (hnew : ∀ b o, s.heap.get? b = some o -> H b = none -> H₁ b = none) (hok : HOk X.prog X.w H₁ s₁.heap) :
  Inv (aN X sc ns xs C s H fp XE) [] (List.replicate xs.length none ++ js.map (ft σ)) H₁ s₁ := by
 have kd : X.env.scope.kind = .function := I.ok.kind
 have cab : ∀ y c, (cL X.env ns).lookup y = some c -> X.env.cells.lookup y = some c := fun y c e => gd e
 have cold : ∀ y c, (cL X.env ns).lookup y = some c -> ∃ v, s.heap.IsCell c v := fun y c e => I.cell y c (cab y c e)
 refine ⟨⟨I.ok.mod, S.kind, I.ok.glob, I.ok.blt, hC, fun y z c h1 h2 => I.ok.inj y z c (cab y c h1) (cab z c h2), fun y hy => ?_, fun y c h _ => (by cases h), I.ok.hd, I.ok.frames, .inl rfl, fun b hb => ?_, I.bs, zAa I.ok.bsz I.sz, fun b o e hb => ?_, fun b hb z => ?_, I.stack, I.stkFree⟩,
  hos, hg, ⟨fun b o e n _ _ => hk b o e, fun b o e n _ _ => ⟨o.slots, hk b o e⟩, fun b o e n _ => hnew b o e n, fun b o e _ => ⟨o, hk b o e⟩, fun b xs e => hs b _ e, fun b o u e => hs b _ e, fun b ps e => hs.tb b ps e⟩, ⟨_, hns, fun i y v h1 h2 h3 => ?_⟩, fun y c e => ?_, hCn, fun y c e => ?_, fun p hp => absurd (show p ∈ ([] : List (Addr × Obj)) from hp) (by simp), hok, ?_⟩
 ·-- every cell of the block is one of the body's
  have hy' : ∃ k, ((relabel sc X.env).names.lookup y = some k) /\ (k = .cell ∨ k = .free) := by
   rcases hy with hy | hy
   ·exact ⟨_, hy, .inl rfl⟩
   ·exact ⟨_, hy, .inr rfl⟩
  obtain ⟨k, h1, h2⟩ := hy'
  rcases fB (env := X.env) h1 h2 with ⟨z, hz, e1, e2⟩ | ⟨z, hz, e1, e2⟩
  ·obtain ⟨m1, m2⟩ := S.free z hz e2
   subst e1
   obtain ⟨c, hc⟩ := I.ok.has z.1 (.inl m2)
   exact ⟨c, iX m1 hc⟩
  ·exact absurd e2 (S.nocell z hz)
 ·refine ⟨fun z => ?_, fun y c e z => ?_⟩
  ·have z' : b = C := z
   obtain ⟨o, ho⟩ := hfo b hb
   have hlt := zAC ho
   rw [z'] at hlt
   exact absurd (zAH hlt hC) (zAc _)
  ·exact (hfp b hb).2.2.2.2.1 y c (cab y c e) z
 ·obtain ⟨f0, f1, f2, f3, f4, f5⟩ := hfp b hb
  rcases f3 with f3 | f3
  ·exact I.ok.noex b o e f3
  ·exact absurd (zAH (zAC (I.ok.bs b o e).1) f3) (zAc _)
 ·obtain ⟨f0, f1, f2, f3, f4, f5⟩ := hfp b hb
  rcases zAN.mp (I.stkSub b z) with e | e
  ·exact f1 e
  ·exact f2 e
 ·by_cases hi : i < xs.length
  ·rw [zAe (by simpa using hi), zAl, if_pos hi] at h2
   cases h2
  ·have h1' : ns[i - xs.length]? = some y := by
    have h1 : (xs ++ ns)[i]? = some y := h1
    rw [zAV (by omega)] at h1
    exact h1
   have h2' : (js.map (ft σ))[i - xs.length]? = some (some v) := by
    rw [zAV (by simpa using hi)] at h2
    simpa using h2
   generalize i - xs.length = i at h1' h2'
   rw [zAQ] at h2'
   cases e : js[i]? with
   | none => rw [e] at h2'; cases h2'
   | some j =>
    rw [e] at h2'
    have h4 : ft σ j = some v := zAT h2'
    have h5 : σ[j]? = some (some v) := by
     unfold ft at h4
     split at h4
     ·rename_i u q
      cases h4
      exact q
     ·cases h4
    have hN := hj.2 i j y e h1'
    have mem : y ∈ ns := zAM h1'
    obtain ⟨c1, c2⟩ := S.cells y mem
    obtain ⟨m, hm, hl⟩ := I.loc
    obtain ⟨u, ru, lk⟩ := hl j y v hN h5 (.inr (.inl c2))
    refine ⟨u, ru, ?_⟩
    rcases lk with ⟨k1, _⟩ | ⟨_, c, e1, o, ho, hd⟩
    ·have k1' : X.env.scope.names.lookup y = some .local := k1
     rw [c2] at k1'; cases k1'
    ·exact .inr ⟨.inl (fR kd c1 c2), c, iX mem e1, o, hk c o ho, hd⟩
 ·obtain ⟨v, z⟩ := cold y c e
  obtain ⟨o, ho, hd⟩ := z
  exact ⟨v, o, hk c o ho, hd⟩
 ·obtain ⟨v, o, ho, hd⟩ := cold y c e
  exact hnew c o ho (I.freeC y c (cab y c e))
 ·show (List.replicate xs.length none ++ js.map (ft σ)).length = (xs ++ ns).length
  simp [hj.1]
def TsD (X : Cx) (ifs : List Expr) (t : DT) : Prop :=
 ∀ (pins : List (Addr × Obj)) (s : Shared) (σ : St) (H : Hp) (W : Own) (ρ : Ro) (Q : Bool -> Prop), Inv X pins σ H s -> Rel X W H σ ρ -> t ρ Q →
  wpAny (model X.prog X.w) X.A (forIn ifs true fun c r => if r = true then do let ok ← isTrue c X.env (eval c X.env); pure (ForInStep.yield ok) else pure (ForInStep.yield r)) (DTP X pins σ H Q) X.xe s
def ri : DT := fun _ Q => Q true
theorem mC {X : Cx} : TsD X [] ri := fun _ s σ H W ρ Q I r h => wpAny_tests_nil ⟨H, I, ah.refl H, h⟩
theorem vy {X : Cx} {c : Expr} {t : DT} (h : PTD X c t) : TsD X [c] t := fun pins s σ H W ρ Q I r q => wpAny_tests_one (h pins s σ H W ρ Q I r q)
def kS (n : Nat) (cap ρ : Ro) : Prop := ∃ r0 : Ro, r0.length = n /\ ρ = r0 ++ cap
theorem pB {prog : Program} {w : World} {A : Around} {s : Shared} {R : Result -> Shared -> Prop} {elt target iter : Expr} {ifs : List Expr} {scope : Scope} {pos : Pos} {it acc : Value} {env : Env} (I : Nat -> Shared -> Prop)
  (turn : ∀ n s, I n s -> wpAny (model prog w) A (pyNext it) (fun r s₁ => match r with
   | none => R (.ok .next) s₁
   | some v => wpAny (model prog w) A (letOwnedTupleGo target it v) (fun _ z₁ => wpAny (model prog w) A (assign target env v) (fun _ s₂ =>
     wpAny (model prog w) A (forIn ifs true fun c r => if r = true then do let ok ← isTrue c env (eval c env); pure (ForInStep.yield ok) else pure (ForInStep.yield r)) (fun ok s₃ => if ok = true then wpAny (model prog w) A (eval elt env) (fun x s₄ =>
       wpAny (model prog w) A (call (.builtin "list.append") [acc, x]) (fun _ s₅ => ∃ m, m < n /\ I m s₅) (notedBy (model prog w) A env fun e z => R (.error e) z) s₄) (notedBy (model prog w) A env fun e z => R (.error e) z) s₃
      else ∃ m, m < n /\ I m s₃) (notedBy (model prog w) A env fun e z => R (.error e) z) s₂) (notedBy (model prog w) A env fun e z => R (.error e) z) z₁) (notedBy (model prog w) A env fun e z => R (.error e) z) s₁) (notedBy (model prog w) A env fun e z => R (.error e) z) s)
  (n : Nat) (h : I n s) : codeAny (model prog w) A (.compLoop (.ListComp elt [⟨target, iter, ifs, 0⟩] scope pos) 0 it acc env) R s := by
 refine codeAny_loop rfl I (fun m z hI => ?_) n h
 show wpAny _ A ((compTurn (.ListComp elt [⟨target, iter, ifs, 0⟩] scope pos) 0 it acc env).onRaise (fun e => do noteFrame e env; theTreesLotGoes e)) _ _ z
 refine wpAny_noted ?_
 rw [compTurn_list]
 refine wpAny_bind (wpAny_standAt (wpAny_bind (wpAny_mono (turn m z hI) (fun r z1 g1 => ?_) fun _ _ q => q)))
 cases r with
 | none => exact wpAny_pure g1
 | some v =>
  refine wpAny_bind (wpAny_mono g1 (fun _ z2 g2 => ?_) fun _ _ q => q)
  refine wpAny_bind (wpAny_mono g2 (fun _ z3 g3 => wpAny_bind (wpAny_mono g3 (fun ok z4 g4 => ?_) fun _ _ q => q)) fun _ _ q => q)
  cases ok with
  | false => exact wpAny_pure ⟨rfl, g4⟩
  | true => exact wpAny_bind (wpAny_bind (wpAny_mono g4 (fun y z5 g5 => wpAny_bind (wpAny_mono g5 (fun _ z6 g6 => wpAny_pure (wpAny_pure ⟨rfl, g6⟩)) fun _ _ q => q)) fun _ _ q => q))
theorem Rel.mutB {X : Cx} {W : Own} {H : Hp} {σ : St} {ρ : Ro} {a : Addr} {vs vs' : List V} (r : Rel X W H σ ρ) (hB : W.B a) (ha : H a = some (.lst vs)) (h0 : X.H₀ a = none) :
  Rel X W (L2.upd H a (.lst vs')) σ ρ /\ ∀ ds us, af X.K W.bad H ds us -> af X.K W.bad (L2.upd H a (.lst vs')) ds us := by
 have noT : ∀ b ws, SqT X.K H b ws -> SqT X.K (L2.upd H a (.lst vs')) b ws := fun b ws q => by
  show L2.upd _ _ _ _ = _
  rw [aq (dn q ha (by intro z; cases z))]
  exact q
 have noL : ∀ t b ws, ¬ W.bad t b -> SqG X.K H t b ws -> ¬ W.bad t b /\ SqG X.K (L2.upd H a (.lst vs')) t b ws := fun t b ws n q => by
  have hne : b ≠ a := fun e => n (.inl (e ▸ hB))
  refine ⟨n, ?_, fun z => ⟨by rw [aq hne]; exact (q.2 z).1, (q.2 z).2⟩⟩
  rcases q.1 with (q | ⟨o, q⟩) | q
  ·exact .inl (.inl (by rw [aq hne]; exact q))
  ·exact .inl (.inr ⟨o, by rw [aq hne]; exact q⟩)
  ·exact .inr q
 have noX : ∀ b u, Sol u -> H b = some u -> L2.upd H a (.lst vs') b = some u := fun b u n q => by rw [aq (dn q ha (by intro z; subst z; exact n))]; exact q
 have tr : ∀ b o, H b = some o -> ∃ o', L2.upd H a (.lst vs') b = some o' := fun b o q => by
  by_cases hba : b = a
  ·subst hba; exact ⟨_, ax⟩
  ·exact ⟨o, by rw [aq hba]; exact q⟩
 refine ⟨⟨fun j d h => ?_, fun j y h => ?_, r.inj, fun j b hb => ?_, r.ke, fun b hb => let ⟨o, q⟩ := r.bt b hb; tr b o q, fun b hb => let ⟨o, q⟩ := r.st b hb; tr b o q, r.ent.ins h0 ha True.intro True.intro, r.tab.upd True.intro (.inr ⟨_, ha, (fun _ z => by cases z), True.intro⟩)⟩, af.map noT noL noX⟩
 ·obtain ⟨v, h1, h2⟩ := r.val j d h
  exact ⟨v, h1, Den.map noT noL noX d v h2⟩
 ·obtain ⟨b, o, h1, h2, h3, h4⟩ := r.own j y h
  exact ⟨b, o, h1, h2, by rw [aq (fun e => (r.kn j b h1).2.1.1 (by rw [e]; exact hB))]; exact h3, h4.map (af.map noT noL noX) fun k c q => ⟨q, fun us z => by rw [aq (fun e => (r.kn _ c q).2.1.1 (by rw [e]; exact hB))]; exact z⟩⟩
 ·obtain ⟨k1, k2, o, k3, k4⟩ := r.kn j b hb
  exact ⟨k1, k2, o, by rw [aq (fun e => k2.1 (by rw [e]; exact hB))]; exact k3, k4⟩
def cQ (X : Cx) (sc : Scope) (ns : List Str) (RR : Value -> Addr -> Result -> Shared -> Prop) (D C : Addr) : Value -> Shared -> Prop := notedBy (model X.prog X.w) X.A (compEnvC sc (cL X.env ns) C X.env) fun e s'' => RR (.ref D) C (.error e) s''
theorem dm.no {X : Cx} : dm X fun _ => False := fun _ _ _ _ _ _ _ _ _ _ h => by
 obtain ⟨_, _, _, _, _, _, _, _, _, _, _, _, _, z⟩ := h
 exact z.elim
theorem jd {elt iter tg : Expr} {ifs : List Expr} {pos : Pos} {g : DG} {te : DE} {tc : DT} {W : Own} {ρ : Ro} {J : It} {it : Addr} {tn : Nat -> Heap -> Prop} {ds : List D} {E : Value -> Shared -> Prop} {RR : Value -> Addr -> Result -> Shared -> Prop} (hc : X.calm = true) (S : CSc X.env.scope sc xs ns)
  (hj : js.length = ns.length /\ ∀ (i : Nat) (j : Nat) (n : Str), js[i]? = some j -> ns[i]? = some n -> X.N[j]? = some n)
  {Ed : Value -> Prop} (he : ∀ (C : Addr) (s₂ : Shared) (H₂ : Hp) (fp : List Addr) (XE : Value -> Shared -> Prop), dm (aN X sc ns xs C s₂ H₂ fp XE) Ed -> PED (aN X sc ns xs C s₂ H₂ fp XE) elt te) (ht : ∀ (C : Addr) (s₂ : Shared) (H₂ : Hp) (fp : List Addr) (XE : Value -> Shared -> Prop), dm (aN X sc ns xs C s₂ H₂ fp XE) Ed -> TsD (aN X sc ns xs C s₂ H₂ fp XE) ifs tc)
  (hx : ∀ D C : Addr, dm (aN X sc ns xs C s H fp (cQ X sc ns RR D C)) Ed) (I : Inv X pins σ H s) (r : Rel X W H σ ρ) (hg : ∀ (C : Addr) (s₂ : Shared) (H₂ : Hp) (fp : List Addr) (XE : Value -> Shared -> Prop), PGD (aN X sc ns xs C s₂ H₂ fp XE) tg g) (T : Turn X.prog X.w X.K tg J fp it tn) (st : tn 0 s.heap) (hfp : ∀ b ∈ fp, cJ X pins H b) (yd : YD X.K W H J ds) (hz : ds.length <= sizeLine)
  (Pv : Nat -> List D -> Prop) (p0 : Pv 0 []) (step : ∀ j d out ρ1, ds[j]? = some d -> Pv j out -> kS xs.length (js.map (bu ρ)) ρ1 -> g d ρ1 fun ρ2 => kS xs.length (js.map (bu ρ)) ρ2 /\ tc ρ2 fun b => if b = true then te ρ2 (fun e => Pv (j + 1) (out ++ [e])) else Pv (j + 1) out)
  (hRR : ∀ (D C : Addr) (s' : Shared) (H' : Hp) (m' : Str -> Option Value) (out : List PD.D), Inv X pins σ H' s' -> ah H H' -> s'.heap.Ns C m' -> H' C = none -> C ≠ X.env.locals -> X.s₀.heap.objs.size <= C -> (∀ y c, X.env.cells.lookup y = some c -> c ≠ C) -> (∀ p ∈ X.pn ++ pins, p.1 ≠ C) →
   (H D = none /\ X.K.lookup D = none /\ ∃ vs, H' D = some (.lst vs) /\ af X.K (fun t b => W.bad t b ∨ b = D) H' out vs) -> Pv ds.length out -> RR (.ref D) C (.ok .next) s') :
  wpAny (model X.prog X.w) X.A (newList []) (fun acc s₃ => wpAny (model X.prog X.w) X.A (newFunctionEnv sc X.env.globals (cL X.env ns) [] X.env.qual none .none (some X.env)) (fun cenv s₄ =>
   codeAny (model X.prog X.w) X.A (.compStart (.ListComp elt [⟨tg, iter, ifs, 0⟩] sc pos) 0 (.ref it) acc { cenv with scope := relabel sc X.env }) (RR acc cenv.locals) s₄) E s₃) E s := by
 refine wpAny_newObj_type (wpAny_newFunctionEnv S.nocell (by intro y hy; simp at hy) (fun h₁ hns₁ hsb₁ => ?_) S.kind)
 dsimp only at hns₁ hsb₁ ⊢
 generalize hH2 : s.heap.push { cls := .type "list", dict := none, data := .seq ([] : List Value).toArray } = HP at hns₁ hsb₁ ⊢
 have hC : HP.objs.size = s.heap.objs.size + 1 := by rw [<- hH2, zAm]
 have hDC : s.heap.objs.size ≠ HP.objs.size := by rw [hC]; exact zAP (Nat.lt_succ_self _)
 have hCle : s.heap.objs.size <= HP.objs.size := by rw [hC]; exact Nat.le_succ _
 have below : ∀ b, b < s.heap.objs.size -> b ≠ HP.objs.size := fun b hb => by rw [hC]; exact zAP (Nat.lt_succ_of_lt hb)
 have old : ∀ b o, s.heap.get? b = some o -> h₁.get? b = some o := fun b o e => hsb₁.extBut b o (below b (zAC e)) (zAA _ (hH2 ▸ zAA _ e))
 have hacc : h₁.get? s.heap.objs.size = some { cls := .type "list", data := .seq ([] : List Value).toArray } := hsb₁.extBut _ _ hDC (zAA _ (hH2 ▸ zAD _ rfl))
 generalize eD : s.heap.objs.size = D at hDC hacc
 generalize eC : HP.objs.size = C at *
 have hDf : H D = none := by rw [<- eD]; exact I.hok.fresh (zAG _)
 have hKD : X.K.lookup D = none := by rw [<- eD]; exact Inv.kfresh I
 have hCf : H C = none := I.hok.fresh hCle
 have hfo : ∀ b ∈ fp, ∃ o, s.heap.get? b = some o := fun b hb => let ⟨o, e, _⟩ := T.obj 0 s.heap st b hb; ⟨o, e⟩
 have leD : s.heap.objs.size <= D := Nat.le_of_eq eD
 have okk : HOk X.prog X.w (L2.upd H D (.lst [])) h₁ := I.hok.laid old leD ⟨zAZ _, [], 0, .nil, hacc⟩
 have upCD : ∀ o, L2.upd H D o C = none := fun o => by rw [aq (Ne.symm hDC)]; exact hCf
 have I1 : Inv (aN X sc ns xs C s H fp (cQ X sc ns RR D C)) [] (List.replicate xs.length none ++ js.map (ft σ)) (L2.upd H D (.lst [])) { s with heap := h₁, toks := s.toks + ([] : List (Str × Value)).length } :=
  Inv.comp I S hj hfp hfo hCle rfl I.bare old hns₁ (upCD _) (ah.upd hDf) (fun b o e n => by rw [aq (fun z => absurd (zAC e) (by rw [z]; exact Nat.not_lt.mpr leD))]; exact n) okk
 have nl : ∀ {a : Addr} {ws : List V}, SqL X.K H a ws -> a ≠ D := fun {a ws} q z => by
  subst z
  rcases q with (q | ⟨o, q⟩) | ⟨o, its, n, q, _⟩
  ·rw [hDf] at q; cases q
  ·rw [hDf] at q; cases q
  ·rw [hKD] at q; cases q
 let W' : Own := ⟨fun a => W.bad false a ∨ a = D, fun _ => none, W.S⟩
 have bad' : ∀ t a, W'.bad t a ↔ (W.bad t a ∨ a = D) := fun t a => ⟨fun z => by
  rcases z with (z | z) | ⟨_, q⟩ | ⟨z1, z2⟩
  ·exact .inl (Own.bad_up z)
  ·exact .inr z
  ·cases q
  ·exact .inl (.inr (.inr ⟨z1, z2⟩)), fun z => by
  rcases z with z | z
  ·rcases z with z | z | z
   ·exact .inl (.inl (.inl z))
   ·exact .inl (.inl (.inr (.inl z)))
   ·exact .inr (.inr z)
  ·exact .inl (.inr z)⟩
 have hT : ∀ {H' : Hp}, ah H H' -> ∀ a vs, SqT X.K H a vs -> SqT X.K H' a vs := fun sm a vs q => SqT.same sm q
 have hL : ∀ {H' : Hp}, ah H H' -> ∀ t a vs, ¬ W.bad t a -> SqG X.K H t a vs -> ¬ W'.bad t a /\ SqG X.K H' t a vs := fun sm t a vs n q => ⟨fun z => ((bad' t a).mp z).elim n (nl q.1), q.same sm⟩
 have relC : Rel (aN X sc ns xs C s H fp (cQ X sc ns RR D C)) W' (L2.upd H D (.lst [])) (List.replicate xs.length none ++ js.map (ft σ)) (List.replicate xs.length none ++ js.map (bu ρ)) := by
  have sm : ah H (L2.upd H D (.lst [])) := ah.upd hDf
  have at_ : ∀ {i : Nat} {z : Sl}, (List.replicate xs.length none ++ js.map (bu ρ))[i]? = some (some z) -> ¬ i < xs.length /\ (js.map (bu ρ))[i - xs.length]? = some (some z) := fun {i z} h => by
   by_cases hi : i < xs.length
   ·rw [zAe (by simpa using hi), zAl, if_pos hi] at h
    cases h
   ·rw [zAV (by simpa using hi)] at h
    exact ⟨hi, by simpa using h⟩
  refine ⟨fun i d h => ?_, fun i x h => ?_, fun i j a h _ => (by cases h), fun i a h => (by cases h), fun i a h => (by cases h), fun a h => ?_, fun a h => ?_, sm, r.tab.same sm⟩
  ·obtain ⟨hi, h'⟩ := at_ h
   rw [zAQ] at h'
   cases e : js[i - xs.length]? with
   | none => rw [e] at h'; cases h'
   | some j =>
    rw [e] at h'
    have h4 : bu ρ j = some (.val d) := zAT h'
    have h5 : ρ[j]? = some (some (.val d)) := by
     unfold bu at h4
     split at h4
     ·rename_i u q
      cases h4
      exact q
     ·cases h4
    obtain ⟨v, e1, e2⟩ := r.val j d h5
    refine ⟨v, ?_, Den.map (hT sm) (hL sm) (fun a _ n q => sm.kp a _ q n.nt) d v e2⟩
    rw [zAV (by simpa using hi)]
    show (js.map (ft σ))[i - (List.replicate xs.length (none : Option V)).length]? = some (some v)
    rw [List.length_replicate, zAQ, e]
    show some (ft σ j) = some (some v)
    unfold ft
    rw [e1]
  ·obtain ⟨hi, h'⟩ := at_ h
   rw [zAQ] at h'
   cases e : js[i - xs.length]? with
   | none => rw [e] at h'; cases h'
   | some j =>
    rw [e] at h'
    have h4 : bu ρ j = some (.ob x) := zAT h'
    unfold bu at h4
    split at h4 <;> cases h4
  ·rcases h with h | h
   ·obtain ⟨o, q⟩ := r.tracked false a h
    exact sm.ex q
   ·rw [h]; exact ⟨_, ax⟩
  ·obtain ⟨o, q⟩ := r.st a h
   exact sm.ex q
 have statC : ∀ {H' : Hp}, (∀ b ∈ fp, H' b = none) -> ∀ b ∈ fp, cJ (aN X sc ns xs C s H fp (cQ X sc ns RR D C)) [] H' b := fun hn b hb => by
  obtain ⟨f0, f1, f2, f3, f4, f5⟩ := hfp b hb
  obtain ⟨o, ho⟩ := hfo b hb
  refine ⟨hn b hb, fun z => ?_, fun z => ?_, .inl hb, fun y c e z => f4 y c (gd e) z, fun p hp => absurd (show p ∈ ([] : List (Addr × Obj)) from hp) (by simp)⟩
  ·have z' : b = C := z
   have hlt := zAC ho
   rw [z'] at hlt
   exact absurd (zAH hlt hCle) (zAc _)
  ·rcases zAN.mp (I.stkSub b z) with e | e
   ·exact f1 e
   ·exact f2 e
 have hch : ∀ b ∈ fp, (b ∈ X.ex ∨ X.s₀.heap.objs.size <= b) /\ b ≠ X.env.locals /\ (∀ x c, X.env.cells.lookup x = some c -> c ≠ b) /\ ∀ p ∈ X.pn ++ pins, p.1 ≠ b := fun b hb => by
  obtain ⟨f0, f1, f2, f3, f4, f5⟩ := hfp b hb
  exact ⟨f3, f1, f4, f5⟩
 have loop : ∀ s₃ : Shared, s₃ = { s with heap := h₁, toks := s.toks + ([] : List (Str × Value)).length } →
   codeAny (model X.prog X.w) X.A (.compLoop (.ListComp elt [⟨tg, iter, ifs, 0⟩] sc pos) 0 (.ref it) (.ref D) (compEnvC sc (cL X.env ns) C X.env)) (RR (.ref D) C) s₃ := by
  rintro s₃ rfl
  refine pB (fun n s' => ∃ (i : Nat) (W2 : Own) (σ2 : St) (ρ2 : Ro) (H' : Hp) (out : List PD.D) (vs : List V), n = ds.length - i /\ i <= ds.length /\ Inv (aN X sc ns xs C s H fp (cQ X sc ns RR D C)) [] σ2 H' s' /\ tn i s'.heap /\ (∀ b ∈ fp, H' b = none) ∧
   H' D = some (.lst vs) /\ (W2.B = W'.B /\ W2.S = W'.S) /\ af X.K W2.bad H' out vs /\ ah H H' /\ Rel (aN X sc ns xs C s H fp (cQ X sc ns RR D C)) W2 H' σ2 ρ2 /\ kS xs.length (js.map (bu ρ)) ρ2 /\ Pv i out /\ out.length <= i) ?_ ds.length
   ⟨0, W', _, _, _, [], [], by simp, zAZ _, I1, T.keep 0 s.heap h₁ st (fun b hb o e => old b o e), fun b hb => ?_, ax, ⟨rfl, rfl⟩, af.nil, ah.upd hDf, relC, ⟨_, by simp, rfl⟩, p0, zAG _⟩
  rotate_left
  ·obtain ⟨o, ho⟩ := hfo b hb
   rw [aq (fun z => absurd (zAC ho) (by rw [z]; exact Nat.not_lt.mpr leD))]
   exact (hfp b hb).1
  rintro n s3 ⟨i, W2, σ2, ρ2, H3, out, vs, en, hle, I3, st3, fr3, hD3, hW2, hds3, sm3, rl3, cap3, p3, ol⟩
  have nb2 : ∀ {W3 : Own} {H' : Hp} {σ3 : St} {ρ3 : Ro}, (W3.B = W'.B /\ W3.S = W'.S) -> Rel (aN X sc ns xs C s H fp (cQ X sc ns RR D C)) W3 H' σ3 ρ3 -> ah H H' -> ∀ t a vs, ¬ W.bad t a -> SqG X.K H t a vs -> ¬ W3.bad t a /\ SqG X.K H' t a vs := fun {W3 H' σ3 ρ3} hw rl sm t a vs n q => by
   refine ⟨fun z => ?_, q.same sm⟩
   rcases z with z | ⟨k, z⟩ | ⟨z1, z2⟩
   ·rw [hw.1] at z
    exact (hL sm t a vs n q).1 (.inl z)
   ·have h0 : H a = none := rl.ke k a z
    rcases q.1 with (q1 | ⟨o, q1⟩) | ⟨o, its, m, q1, _⟩
    ·rw [h0] at q1; cases q1
    ·rw [h0] at q1; cases q1
    ·have kk : X.K.lookup a = none := (rl.kn k a z).1
     rw [kk] at q1; cases q1
   ·rw [hw.2] at z2
    exact (hL sm t a vs n q).1 (.inr (.inr ⟨z1, z2⟩))
  obtain ⟨yg, yy, ys⟩ := yd W2.bad H3 (hT sm3) (nb2 hW2 rl3 sm3) (fun a _ n q => sm3.kp a _ q n.nt) i
  by_cases hlt : i < ds.length
  ·refine thn (T.item (aN X sc ns xs C s H fp (cQ X sc ns RR D C)) rfl rfl rfl hc i [] s3 _ H3 _ I3 (statC fr3) st3 (yg hlt)) fun rr s4 ⟨u, hr, h4⟩ => ?_
   subst hr
   refine thn h4 fun _ s5 ⟨x5, H5, I5, r5, y5, st5, fr5⟩ => ?_
   obtain ⟨e5, d, hd, hden⟩ := yy x5 H5 y5 hlt
   have I5' := I5.pinned (statC fr5) (T.obj _ _ st5)
   have rl5 := rl3.same e5
   have sm5 : ah H H5 := sm3.trans e5
   refine wpAny_mono (hg C s H fp _ _ s5 σ2 H5 W2 ρ2 d x5 u _ I5' rl5 r5 hden (step i d out ρ2 hd p3 cap3)) (fun _ s6 ⟨W6, σ6, H6, ρ6, I6, f6, rl6, cap6, q6⟩ => ?_) (fun _ _ z => z)
   have hW6 : W6.B = W'.B /\ W6.S = W'.S := ⟨f6.B.trans hW2.1, f6.S.trans hW2.2⟩
   have sm6 : ah H H6 := ⟨fun b o e n => f6.kp b o (fun k z => by have h0 : H b = none := rl5.ke k b z; rw [e] at h0; cases h0) (sm5.kp b o e n) n, (fun b ps e => by obtain ⟨m1, e1⟩ := sm5.tb b ps e; obtain ⟨m2, e2⟩ := f6.tb b _ e1; exact ⟨m1 ++ m2, by rw [e2, zA4]⟩), fun h => f6.ok (sm5.ok h)⟩
   have BD : W'.B D := .inr rfl
   have hD6 : H6 D = some (.lst vs) := f6.keep D _ (fun k z => (rl5.kn k D z).2.1.1 (by rw [hW2.1]; exact BD)) (e5 _ _ hD3)
   have hds6 := af.fwd rl5 rl6 f6 (hds3.same e5)
   have keepT : ∀ {σ7 : St} {H7 : Hp} {s7 : Shared}, Inv (aN X sc ns xs C s H fp (cQ X sc ns RR D C)) ([] ++ jw fp s5.heap) σ7 H7 s7 -> tn (i + 1) s7.heap /\ ∀ b ∈ fp, H7 b = none := fun {σ7 H7 s7} I7 => by
    refine ⟨T.keep _ _ _ st5 fun b hb o e => (I7.pin (b, o) (zAS _ (zAS _ (d8 hb e)))).1, fun b hb => ?_⟩
    obtain ⟨o, e, _⟩ := T.obj _ _ st5 b hb
    exact (I7.pin (b, o) (zAS _ (zAS _ (d8 hb e)))).2.1
   refine wpAny_mono (ht C s H fp _ (hx D C) _ s6 _ H6 W6 _ _ I6 rl6 q6) (fun b s7 ⟨H7, I7, e7, q7⟩ => ?_) (fun _ _ z => z)
   cases b with
   | false =>
    rw [if_neg zAE] at q7
    rw [if_neg zAE]
    obtain ⟨t7, f7⟩ := keepT I7
    exact ⟨ds.length - (i + 1), by omega, i + 1, W6, σ6, ρ6, H7, out, vs, rfl, hlt, I7.unpinned, t7, f7, e7 _ _ hD6, hW6, hds6.same e7, sm6.trans e7, rl6.same e7, cap6, q7, by omega⟩
   | true =>
    rw [if_pos rfl] at q7
    rw [if_pos rfl]
    refine wpAny_mono (he C s H fp _ (hx D C) _ s7 _ H7 W6 _ _ I7 (rl6.same e7) q7) (fun u8 s8 ⟨v8, H8, e8, I8, r8, sm8, hd8, q8⟩ => ?_) (fun _ _ z => z)
    have sm78 := e7.trans sm8
    have hD8 := sm78 _ _ hD6
    have hds8 := hds6.same sm78
    have rl8 := (rl6.same e7).same sm8
    have BD6 : W6.B D := by rw [hW6.1]; exact BD
    refine wpAny_mono (km (X := aN X sc ns xs C s H fp (cQ X sc ns RR D C)) _ s8 _ H8 (.ref D) [v8] (.ref D) [u8] (fun _ H' => H' = L2.upd H8 D (.lst (vs ++ [v8]))) I8 rfl (.cons r8 .nil) ⟨D, vs, v8, rfl, rfl, hD8, by rw [hds8.len]; omega, rfl⟩) (fun _ s9 ⟨v9, H9, I9, _, eH⟩ => ?_) (fun _ _ z => z)
    subst eH
    obtain ⟨t9, f9⟩ := keepT I9
    obtain ⟨rl9, dn9⟩ := rl8.mutB (vs' := vs ++ [v8]) BD6 hD8 hDf
    exact ⟨ds.length - (i + 1), by omega, i + 1, W6, σ6, ρ6, _, out ++ [e8], vs ++ [v8], rfl, hlt, I9.unpinned, t9, f9, ax, hW6, dn9 _ _ (hds8.append (af.one hd8)), (sm6.trans sm78).ins hDf hD8 True.intro True.intro, rl9, cap6, q8, by rw [zAg, List.length_singleton]; omega⟩
  ·have e : i = ds.length := by omega
   refine thn (T.done (aN X sc ns xs C s H fp (cQ X sc ns RR D C)) rfl rfl rfl hc i [] s3 _ H3 _ I3 (statC fr3) st3 (ys (by omega))) fun rr s4 ⟨hr, I4⟩ => ?_
   subst hr
   subst e
   have Io : Inv X pins σ H3 s4 := I.call' I4.os I4.base I4.hok I4.bare hch
   obtain ⟨m, hm, _⟩ := I4.loc
   exact hRR D C s4 H3 m out Io sm3 hm I4.free (fun z => absurd I.lt (by rw [<- z]; exact Nat.not_lt.mpr hCle)) (zAa I.sz hCle) (fun y c e z => by
    obtain ⟨v, q⟩ := I.cell y c e
    exact absurd q.lt (by rw [z]; exact Nat.not_lt.mpr hCle)) (fun p hp z => absurd (zAC (I.pin p hp).1) (by rw [z]; exact Nat.not_lt.mpr hCle))
    ⟨hDf, hKD, _, hD3, hds3.fewer fun t a z => (by
     rcases (bad' t a).mpr z with q | ⟨k, q⟩ | q
     ·exact .inl (by rw [hW2.1]; exact q)
     ·cases q
     ·exact .inr (.inr ⟨q.1, by rw [hW2.2]; exact q.2⟩))⟩ p3
 exact codeAny_compStart_list (loop _ rfl) (T.self _ 0 _ _ _ (T.keep 0 s.heap h₁ st (fun b hb o e => old b o e)) (loop _ rfl))
theorem lM {X : Cx} {sc : Scope} {ns : List Str} {x : Str} {px : Pos} {C : Addr} {s₂ : Shared} {H₂ : Hp} {fp : List Addr} {XE : Value -> Shared -> Prop} (S : CSc X.env.scope sc [x] ns) : PGD (aN X sc ns [x] C s₂ H₂ fp XE) (.Name x px) (gW 0) :=
 have tl : (compEnvC sc (cL X.env ns) C X.env).scope.names.lookup x = some .local := lookup_relabel_local (S.tgt x (by simp))
 bg (X := aN X sc ns [x] C s₂ H₂ fp XE) 0 S.nd rfl (.inl tl) (.inr tl)
theorem tJ {ds : List D} {Pv : Nat -> List D -> Prop} {tc : DT} {te : DE} {cap : Ro} (step : ∀ j d out, ds[j]? = some d -> Pv j out -> tc (some (.val d) :: cap) fun b => if b = true then te (some (.val d) :: cap) (fun e => Pv (j + 1) (out ++ [e])) else Pv (j + 1) out) :
  ∀ j d out ρ1, ds[j]? = some d -> Pv j out -> kS 1 cap ρ1 -> gW 0 d ρ1 fun ρ2 => kS 1 cap ρ2 /\ tc ρ2 fun b => if b = true then te ρ2 (fun e => Pv (j + 1) (out ++ [e])) else Pv (j + 1) out := by
 rintro j d out ρ1 hd hp ⟨r0, hl, rfl⟩
 match r0, hl with
 | [a], _ => exact ⟨⟨[some (.val d)], rfl, rfl⟩, step j d out hd hp⟩
def kK (wi : DA) (js : List Nat) (tc : DT) (te : DE) : DE := fun ρ Q => wi ρ fun ds => ds.length <= sizeLine /\ ∃ Pv : Nat -> List D -> Prop, Pv 0 [] ∧
 (∀ j d out, ds[j]? = some d -> Pv j out -> tc (some (.val d) :: js.map (bu ρ)) fun b => if b = true then te (some (.val d) :: js.map (bu ρ)) (fun e => Pv (j + 1) (out ++ [e])) else Pv (j + 1) out) /\ ∀ out, Pv ds.length out -> Q (.lst true out)
def cY (N : List Str) (ns : List Str) (js : List Nat) : Prop := js.length = ns.length /\ ∀ (i : Nat) (j : Nat) (n : Str), js[i]? = some j -> ns[i]? = some n -> N[j]? = some n
theorem cY.nil {N : List Str} : cY N [] [] := ⟨rfl, fun i j n h => by simp at h⟩
theorem cY.cons {N ns : List Str} {js : List Nat} {n : Str} (j : Nat) (h : cY N ns js) (e : N[j]? = some n := by rfl) : cY N (n :: ns) (j :: js) := ⟨by simp [h.1], fun i j' m h1 h2 => by
 cases i with
 | zero => simp at h1 h2; subst h1 h2; exact e
 | succ i => exact h.2 i j' m (by simpa using h1) (by simpa using h2)⟩
variable {elt iter : Expr} {ifs : List Expr} {px pos : Pos} {te : DE} {tc : DT} {wi : DA} {x : Str}
theorem jL (hc : X.calm = true) (S : CSc X.env.scope sc [x] ns) (hj : cY X.N ns js) (hi : PID X (.Name x px) iter wi) (ht : ∀ (C : Addr) (s₂ : Shared) (H₂ : Hp) (fp : List Addr) (XE : Value -> Shared -> Prop), TsD (aN X sc ns [x] C s₂ H₂ fp XE) ifs tc)
  (he : ∀ (C : Addr) (s₂ : Shared) (H₂ : Hp) (fp : List Addr) (XE : Value -> Shared -> Prop), PED (aN X sc ns [x] C s₂ H₂ fp XE) elt te) (hclos : closureFor sc X.env = pure (cL X.env ns) := by rfl) (hs : ∀ x, foldedSetIterable iter X.env x = pure x := by intro _; rfl) :
  PED X (.ListComp elt [⟨.Name x px, iter, ifs, 0⟩] sc pos) (kK wi js tc te) := by
 intro pins s σ H W ρ Q I r h
 rw [eval_ListComp]
 refine wpAny_comprehension_free (use := none) rfl hs hclos S.kind S.names (thn (hi pins s σ H W ρ _ I r h) fun v s1 h1 => thn h1 fun itv s2 h2 => ?_)
 obtain ⟨it, fp, tn, J, H2, ds, e, I2, e2, T, st2, f2, yd, hz, Pv, p0, step, fin⟩ := h2
 subst e
 refine jd (RR := fun acc C => compPost (model X.prog X.w) X.A X.xe none (DP X pins σ W H Q) acc C) hc S hj (Ed := fun _ => False) (fun C s₂ H₂ fp XE _ => he C s₂ H₂ fp XE) (fun C s₂ H₂ fp XE _ => ht C s₂ H₂ fp XE) (fun _ _ => dm.no) I2 (r.same e2) (fun C s₂ H₂ fp XE => lM S) T st2 f2 yd hz Pv p0 (tJ step) ?_
 intro D C s' H' m' out I' sm hns hCn hC1 hC2 hC3 hC4 ⟨hn, hk, vs, hD, hds⟩ pv
 have hden : Den X.K W.bad H' (.lst true out) (.ref D) := Den.lst ((r.same e2).fresh hn) (.new hD hk) (hds.fewer fun _ _ z => .inl z)
 refine ⟨m', hns, fun h' hsb => ?_⟩
 exact ⟨.ref D, H', _, I'.turned (t' := s'.toks) (fun b o hb e => (hsb.2 b hb).trans e) hCn hC1 (.inr hC2) hC3 hC4, rfl, e2.trans sm, hden, fin out pv⟩
theorem oG {y : Str} {py spos : Pos} (i : Nat) (hN : X.N.Nodup) (hc : X.calm = true) (S : CSc X.env.scope sc [x] ns) (hj : cY X.N ns js) (hi : PID X (.Name x px) iter wi) (ht : ∀ (C : Addr) (s₂ : Shared) (H₂ : Hp) (fp : List Addr) (XE : Value -> Shared -> Prop), TsD (aN X sc ns [x] C s₂ H₂ fp XE) ifs tc)
  (he : ∀ (C : Addr) (s₂ : Shared) (H₂ : Hp) (fp : List Addr) (XE : Value -> Shared -> Prop), PED (aN X sc ns [x] C s₂ H₂ fp XE) elt te) (hy : X.N[i]? = some y := by rfl) (hly : X.env.scope.names.lookup y = some .local := by rfl) (hclos : closureFor sc X.env = pure (cL X.env ns) := by rfl) (hs : ∀ x, foldedSetIterable iter X.env x = pure x := by intro _; rfl)
  (hsw : swapsWith (.ListComp elt [⟨.Name x px, iter, ifs, 0⟩] sc pos) (some (.Name y py)) spos.line X.env = pure true := by rfl) :
  PSD X (.Assign [.Name y py] (.ListComp elt [⟨.Name x px, iter, ifs, 0⟩] sc pos) spos) (ox i (kK wi js tc te)) := by
 intro pins s σ H W ρ E I r h
 rw [exec_Assign_Name_used _ _ _ _ hsw]
 refine wpAny_bind (wpAny_standAt (wpAny_bind ?_))
 show wpAny _ X.A (do let _ ← comprehension (.ListComp elt [⟨.Name x px, iter, ifs, 0⟩] sc pos) sc X.env _ (newList []) false (eval iter X.env) (some (assign (.Name y py) X.env))) _ _ s
 refine wpAny_bind (wpAny_mono (wpAny_comprehension_free (use := some (assign (.Name y py) X.env)) (Q := fun _ s' => SPD X pins W H E .next s') rfl hs hclos S.kind S.names
  (thn (hi pins s σ H W ρ _ I r h) fun v s1 h1 => thn h1 fun itv s2 h2 => ?_)) (fun _ s' hq => wpAny_pure (wpAny_pure hq)) fun _ _ e => e)
 obtain ⟨it, fp, tn, J, H2, ds, e, I2, e2, T, st2, f2, yd, hz, Pv, p0, step, fin⟩ := h2
 subst e
 refine jd (RR := fun acc C => compPost (model X.prog X.w) X.A X.xe (some (assign (.Name y py) X.env)) (fun _ s' => SPD X pins W H E .next s') acc C) hc S hj (Ed := fun _ => False) (fun C s₂ H₂ fp XE _ => he C s₂ H₂ fp XE) (fun C s₂ H₂ fp XE _ => ht C s₂ H₂ fp XE) (fun _ _ => dm.no) I2 (r.same e2) (fun C s₂ H₂ fp XE => lM S) T st2 f2 yd hz Pv p0 (tJ step) ?_
 intro D C s' H' m' out I' sm hns hCn hC1 hC2 hC3 hC4 ⟨hn, hk, vs, hD, hds⟩ pv
 have hden : Den X.K W.bad H' (.lst true out) (.ref D) := Den.lst ((r.same e2).fresh hn) (.new hD hk) (hds.fewer fun _ _ z => .inl z)
 have rr := (r.same e2).same sm
 show wpAny _ X.A (assign (.Name y py) X.env (.ref D)) _ _ _
 refine wpAny_assign_Name (ku (v := .ref D) I' hN hy (.inl hly) rfl (fun s3 I3 ⟨a, hsb, ha⟩ => ?_) (.inr hly))
 have hne : C ≠ a := by
  rcases ha with z | z
  ·rw [z]; exact hC1
  ·exact fun q => hC3 y a z q.symm
 refine ⟨m', hns.sameBut hsb hne, fun h' hsb' => ?_⟩
 refine ⟨W.drop i, _, H', I3.turned (t' := s3.toks) (fun b o hb e => (hsb'.2 b hb).trans e) hCn hC1 (.inr hC2) hC3 hC4, (Fwd.same (e2.trans sm)).trans (Fwd.drop W H' i), _, rr.put (Inv.ilt I' hy) hden, fin out pv⟩
end
section
variable {X : Cx} {pins : List (Addr × Obj)} {σ : St} {H : Hp} {s : Shared} {sc : Scope} {ns : List Str} {js : List Nat} {xs : List Str} {fp : List Addr}
variable {elt iter : Expr} {ifs : List Expr} {px pos : Pos} {te : DE} {tc : DT} {wi : DA} {x : Str}
end
def uF (osc sc : Scope) (xs ns : List Str) : Bool :=
 decide (sc.kind = .function) && (sc.names.all fun y => decide (y.2 ≠ .cell)) && (sc.names.all fun y => decide (y.2 = .local -> sc.names.lookup y.1 = some .local)) && (xs.all fun x => decide (sc.names.lookup x = some .local)) &&
 (sc.names.all fun y => decide (y.2 = .free -> y.1 ∈ ns /\ osc.names.lookup y.1 = some .cell)) && (ns.all fun n => decide (sc.names.lookup n = some .free /\ osc.names.lookup n = some .cell)) && decide (xs ++ ns).Nodup
theorem iB {osc sc : Scope} {xs ns : List Str} (h : uF osc sc xs ns = true) : CSc osc sc xs ns := by
 unfold uF at h
 simp only [zAk] at h
 obtain ⟨⟨⟨⟨⟨⟨h1, h2⟩, h3⟩, h4⟩, h5⟩, h6⟩, h7⟩ := h
 exact ⟨of_decide_eq_true h1, fun y hy => of_decide_eq_true (zA0.mp h2 y hy), fun y hy => of_decide_eq_true (zA0.mp h3 y hy), fun x hx => of_decide_eq_true (zA0.mp h4 x hx), fun y hy => of_decide_eq_true (zA0.mp h5 y hy), fun n hn => of_decide_eq_true (zA0.mp h6 n hn), of_decide_eq_true h7⟩
end PD
namespace PD
open PySem PySem.Spec PyProof.Rows L2
inductive Nms : List Expr -> List Str -> Prop where
 | nil : Nms [] []
 | cons {x : Str} {p : Pos} {es : List Expr} {xs : List Str} (h : Nms es xs) : Nms (.Name x p :: es) (x :: xs)
section
variable {X : Cx} {sc : Scope} {ns xs : List Str} {js : List Nat}
variable {elt iter : Expr} {ifs es : List Expr} {kt : Nat} {tp pos : Pos} {te : DE} {tc : DT} {wi : DA}
end
end PD
namespace PD
open PySem PySem.Spec PyProof.Rows L2
theorem qw (k : Bool) (R : Int -> Prop) (S : Bool -> Prop) : ((∃ i : Int, [D.bl k] = [.int i] /\ R i) ∨ ∃ j : Bool, [D.bl k] = [.bl j] /\ S j) = S k := by
 apply propext
 constructor
 ·rintro (⟨_, e, _⟩ | ⟨_, e, q⟩)
  ·cases e
  ·cases e; exact q
 ·intro q; exact .inr ⟨k, rfl, q⟩
theorem va (b : Bool) : okD (.bl b) := by unfold okD; rw [pyD, plD] <;> first | exact ⟨rfl, rfl⟩ | (intros; contradiction)
theorem lZ (i : Int) : okD (.int i) = True := eq_true (nC i)
theorem nB (b : Bool) : okD (.bl b) = True := eq_true (va b)
theorem l0 : okD .non = True := eq_true nD
theorem nE (a b c : Int) : okD (.tup [.int a, .int b, .int c]) = True := eq_true (vc a b c)
theorem jQ (i j : Int) : eqD (.int i) (.int j) = decide (i = j) := by
 unfold eqD
 rw [pyD, pyD]
 rfl
theorem lD (i j : Bool) : eqD (.bl i) (.bl j) = decide (i = j) := by
 unfold eqD
 rw [pyD, pyD]
 cases i <;> cases j <;> rfl
theorem qy (t : Bool) (xs : List D) (R : List D -> Prop) : (∃ t' ds, D.lst t xs = .lst t' ds /\ R ds) = R xs := by
 apply propext
 constructor
 ·rintro ⟨_, _, e, q⟩; cases e; exact q
 ·intro q; exact ⟨t, xs, rfl, q⟩
theorem m9 (ds : List D) (r : Ro) (R : List D -> Prop) : (∃ ds', (some (Sl.own ds) :: r)[0]? = some (some (Sl.own ds')) /\ R ds') = R ds := by
 apply propext
 constructor
 ·rintro ⟨_, e, q⟩
  have e' : some (some (Sl.own ds)) = some (some (Sl.own _)) := e
  cases e'
  exact q
 ·intro q; exact ⟨ds, rfl, q⟩
theorem nc (n : Nat) (x : Option Sl) (r : Ro) (R : List D -> Prop) : (∃ ds', (x :: r)[n + 1]? = some (some (Sl.own ds')) /\ R ds') = (∃ ds', r[n]? = some (some (Sl.own ds')) /\ R ds') := rfl
theorem qi (d : D) (r : Ro) : bu (some (.val d) :: r) 0 = some (.val d) := rfl
theorem qk (r : Ro) : bu (none :: r) 0 = none := rfl
theorem qj (n : Nat) (x : Option Sl) (r : Ro) : bu (x :: r) (n + 1) = bu r n := rfl
end PD
namespace PD
open PySem PySem.Spec PyProof.Rows L2
def sg (n : Int) : Int := if 0 < n then 1 else if n < 0 then -1 else 0
def rk (a0 a1 a2 b0 b1 b2 : Int) : Int := if sg (a1 * b0 - b1 * a0) = 0 then sg (a2 * b0 - b2 * a0) else sg (a1 * b0 - b1 * a0)
structure Pl (n : Nat) (a b c : Int) : Prop where
 pos : 0 < a
 low : PM.g3 a b c = 1
 b0 : Bd n a
 b1 : Bd n b
 b2 : Bd n c
structure wG (d : D) (b x y : Int) : Prop where
 ex : ∃ p q r, d = T3 p q r /\ Bd 4000 p /\ Bd 4000 q /\ Bd 4000 r /\ 0 < p /\ p * x = b * q /\ p * y = b * r /\ PM.g3 p q r = 1
end PD
namespace PZ
open PySem PySem.Spec PyProof.Rows
def SIt : Bool -> Heap -> Addr -> Addr -> Nat -> Prop
 | true, h, it, a, i => h.IsListIter it a i
 | false, h, it, a, i => h.IsTupleIter it a i
def SSq : Bool -> Heap -> Addr -> Array Value -> Prop
 | true, h, a, xs => h.IsList a xs
 | false, h, a, xs => h.IsTuple a xs
def dF : Bool -> String
 | true => "list_iterator"
 | false => "tuple_iterator"
section
variable {k : Bool} {h h' : Heap} {it a b : Addr} {i : Nat} {xs : Array Value}
theorem SIt.of (x : SIt k h it a i) (e : ∀ o, h.get? it = some o -> h'.get? it = some o) : SIt k h' it a i := by
 cases k with
 | true => obtain ⟨o, ho, r⟩ := x; exact ⟨o, e o ho, r⟩
 | false => obtain ⟨o, ho, r⟩ := x; exact ⟨o, e o ho, r⟩
theorem SSq.of (x : SSq k h a xs) (e : ∀ o, h.get? a = some o -> h'.get? a = some o) : SSq k h' a xs := by
 cases k with
 | true => obtain ⟨o, ho, r⟩ := x; exact ⟨o, e o ho, r⟩
 | false => obtain ⟨o, ho, r⟩ := x; exact ⟨o, e o ho, r⟩
theorem SIt.obj (x : SIt k h it a i) : ∃ o, h.get? it = some o /\ o.cls = .type (dF k) /\ o.data = .fields #[.ref a, .int i 0] := by
 cases k with
 | true => exact x
 | false => exact x
end
section
variable {prog : Program} {w : World} {A : Around} {E : Value -> Shared -> Prop} {s : Shared} {k : Bool} {it a : Addr} {i : Nat} {xs : Array Value}
theorem oV {x : Value} {Q : Value -> Shared -> Prop} (hi : SIt k s.heap it a i) (hs : SSq k s.heap a xs) (hx : xs[i]? = some x) (hQ : ∀ h', SIt k h' it a (i + 1) -> Heap.SameBut it s.heap h' -> Q x { s with heap := h' }) :
  wpAny (model prog w) A (Builtin.SmallTypes.nextOf (.ref it)) Q E s := by
 cases k with
 | true => exact wpAny_nextOf_list_item hi hs hx hQ
 | false =>
  obtain ⟨o, ho, hc, hd⟩ := id hi
  obtain ⟨oq, hq, _, nq, hdq⟩ := hs
  unfold Builtin.SmallTypes.nextOf
  refine wpAny_bind (wpAny_callSpecial?_slot (name := Str.ofString "__next__") (zAv hi) F.slot_tuple_iterator_next (wpAny_call_entry F.slot_tuple_iterator_next (zAv hi) F.entry_tuple_iterator_next ?_ (F.args_tuple_iterator_next_1 _)))
  show wpAny _ _ (field (.ref it) 0 >>= _) _ _ s; refine wpAny_bind (wpAny_field ho hd (x := .ref a) rfl ?_)
  show wpAny _ _ (if (Value.ref a == Value.none) = true then _ else _) _ _ s; rw [if_neg (show ¬ ((Value.ref a == Value.none) = true) from zAE)]
  show wpAny _ _ (field (.ref it) 1 >>= _) _ _ s; refine wpAny_bind (wpAny_field ho hd (x := .int i 0) rfl ?_)
  show wpAny _ _ (seqItems? (.ref a) >>= _) _ _ s; refine wpAny_bind (wpAny_seqItems hq hdq ?_); simp only [zAy, hx]
  refine wpAny_bind (wpAny_setField ho hd (by simp) (wpAny_pure ⟨x, rfl, wpAny_pure (hQ _ ⟨_, Heap.get?_update_self _ ho (Obj.isFreed_of_fields (Obj.data_mapFields hd _)), (Obj.cls_mapFields ..).trans hc, by rw [Obj.data_mapFields hd]; simp [rawInt]⟩ (Heap.SameBut.update ..))⟩))
theorem tF {Q : Value -> Shared -> Prop} (hh : A.handled = none) (hi : SIt k s.heap it a i) (hs : SSq k s.heap a xs) (hx : xs[i]? = none)
  (hE : ∀ h' e, Heap.ExtBut it s.heap h' -> (∃ o, h'.get? e = some o /\ o.cls = .type "StopIteration") -> E (.ref e) { s with heap := h' }) : wpAny (model prog w) A (Builtin.SmallTypes.nextOf (.ref it)) Q E s := by
 cases k with
 | true => exact wpAny_nextOf_list_end hh hi hs hx hE
 | false =>
  obtain ⟨o, ho, hc, hd⟩ := id hi
  obtain ⟨oq, hq, _, nq, hdq⟩ := hs
  unfold Builtin.SmallTypes.nextOf
  refine wpAny_bind (wpAny_callSpecial?_slot (name := Str.ofString "__next__") (zAv hi) F.slot_tuple_iterator_next (wpAny_call_entry F.slot_tuple_iterator_next (zAv hi) F.entry_tuple_iterator_next ?_ (F.args_tuple_iterator_next_1 _)))
  show wpAny _ _ (field (.ref it) 0 >>= _) _ _ s; refine wpAny_bind (wpAny_field ho hd (x := .ref a) rfl ?_)
  show wpAny _ _ (if (Value.ref a == Value.none) = true then _ else _) _ _ s; rw [if_neg (show ¬ ((Value.ref a == Value.none) = true) from zAE)]
  show wpAny _ _ (field (.ref it) 1 >>= _) _ _ s; refine wpAny_bind (wpAny_field ho hd (x := .int i 0) rfl ?_)
  show wpAny _ _ (seqItems? (.ref a) >>= _) _ _ s; refine wpAny_bind (wpAny_seqItems hq hdq ?_); simp only [zAy, hx]
  refine wpAny_bind (wpAny_rule (wpAny_bind (wpAny_setField ho hd (by simp) ?_))); show wpAny _ _ (newExc (.type "StopIteration") [] >>= _) _ _ _
  refine wpAny_bind ?_; simp only [newExc, newTuple]; refine wpAny_bind (wpAny_newObj_type ?_ (by size_fits))
  refine wpAny_bind (m := firstArgMember _ _) (wpAny_of_eq (a := Value.none) (by simp only [firstArgMember]; rfl) ?_); refine wpAny_newObj_type ?_ (by size_fits)
  simp only [raiseNew]; refine wpAny_bind (wpAny_handled ?_); first | rw [show A.in1.handled = none from hh] | rw [hh]
  exact wpAny_bind (wpAny_pure (wpAny_throw (hE _ _ (((Heap.SameBut.update ..).extBut.push _).push _) ⟨_, zAD _ rfl, rfl⟩)))
end
structure Ap (z TI TO i1 i2 : Addr) : Prop where
 a1 : TI ≠ z
 a2 : TO ≠ z
 a3 : i1 ≠ z
 a4 : i2 ≠ z
 a5 : TI ≠ TO
 a6 : TI ≠ i1
 a7 : TI ≠ i2
 a8 : TO ≠ i1
 a9 : TO ≠ i2
 b1 : i1 ≠ i2
structure Out (z TO i1 i2 l : Addr) : Prop where
 c1 : l ≠ z
 c2 : l ≠ TO
 c3 : l ≠ i1
 c4 : l ≠ i2
structure ZSt (k1 k2 : Bool) (z TI TO i1 i2 l1 l2 : Addr) (i : Nat) (h : Heap) : Prop where
 z : IsZip h z TI TO .none
 ti : IsPair h TI (.ref i1) (.ref i2)
 to : ∃ a b, IsPair h TO a b
 s1 : SIt k1 h i1 l1 i
 s2 : SIt k2 h i2 l2 i
section
variable {prog : Program} {w : World} {A : Around} {E : Value -> Shared -> Prop} {s : Shared} {k1 k2 : Bool} {z TI TO i1 i2 l1 l2 : Addr} {i : Nat} {xs ys : Array Value}
theorem vZ {x y : Value} {Q : Option Value -> Shared -> Prop} (D : Ap z TI TO i1 i2) (D1 : Out z TO i1 i2 l1) (D2 : Out z TO i1 i2 l2) (Z : ZSt k1 k2 z TI TO i1 i2 l1 l2 i s.heap) (q1 : SSq k1 s.heap l1 xs) (q2 : SSq k2 s.heap l2 ys) (hx : xs[i]? = some x) (hy : ys[i]? = some y)
  (hQ : ∀ h', IsZip h' z TI TO (rawInt s.heap.objs.size) -> IsPair h' TI (.ref i1) (.ref i2) -> IsPair h' TO x y -> SIt k1 h' i1 l1 (i + 1) -> SIt k2 h' i2 l2 (i + 1) -> IsPair h' s.heap.objs.size x y →
   (∀ c o, c ≠ z -> c ≠ TO -> c ≠ i1 -> c ≠ i2 -> s.heap.get? c = some o -> h'.get? c = some o) -> Q (some (.ref s.heap.objs.size)) { s with heap := h' }) : wpAny (model prog w) A (pyNext (.ref z)) Q E s := by
 obtain ⟨hz, hTI, ⟨a, b, hTO⟩, h1, h2⟩ := Z
 have hT : s.TypeIs (.ref z) "zip" := ⟨_, hz, rfl⟩
 unfold pyNext
 refine wpAny_bind (wpAny_attempt (wpAny_callSpecial?_slot (name := Str.ofString "__next__") hT F.slot_zip_next (wpAny_call_entry F.slot_zip_next hT F.entry_zip_next ?_ (F.args_zip_next_1 _))))
 show wpAny _ _ (field (.ref z) 2 >>= _) _ _ _; refine wpAny_bind (wpAny_field hz rfl (x := .bool false) rfl ?_)
 show wpAny _ _ (field (.ref z) 3 >>= _) _ _ _; refine wpAny_bind (wpAny_field hz rfl (x := .ref TI) rfl (wpAny_bind (wpAny_seqItems hTI rfl ?_)))
 show wpAny _ _ (Builtin.SmallTypes.ownedTupleIsFree (.ref z) >>= _) _ _ _; refine wpAny_bind ?_; unfold Builtin.SmallTypes.ownedTupleIsFree
 refine wpAny_bind (wpAny_field hz rfl (x := .none) rfl (wpAny_pure ?_)); simp only [if_true]; refine wpAny_bind (wpAny_rule (wpAny_bind (wpAny_field hz rfl (x := .ref TO) rfl ?_)))
 refine wpAny_bind (wpAny_setField_rec hz (by simp) fun g1 (z1 : IsZip g1 z TI TO .ellipsis) b1 => wpAny_bind ?_)
 simp only [List.zipIdx_cons, List.zipIdx_nil, List.forIn_cons, List.forIn_nil]
 have k1' : ∀ c o, c ≠ z -> s.heap.get? c = some o -> g1.get? c = some o := fun c o n e => b1.extBut c o n e
 refine wpAny_bind (wpAny_bind (wpAny_onRaise ?_)); show wpAny _ _ (Builtin.SmallTypes.nextOf (.ref i1) >>= _) _ _ _
 refine wpAny_bind (oV (s := { s with heap := g1 }) (h1.of fun o e => k1' _ o D.a3 e) (q1.of fun o e => k1' _ o D1.c1 e) hx fun g2 n2 b2 => wpAny_pure ?_)
 have t2 : IsPair g2 TO a b := b2.extBut _ _ D.a8 (k1' _ _ D.a2 hTO)
 refine wpAny_bind (wpAny_seqItems t2 rfl (wpAny_bind (wpAny_updateSeq_pair t2 fun g3 (t3 : IsPair g3 TO x b) b3 => wpAny_bind (wpAny_letGo (wpAny_pure ?_)))))
 have k3 : ∀ c o, c ≠ z -> c ≠ TO -> c ≠ i1 -> s.heap.get? c = some o -> g3.get? c = some o := fun c o n1 n2 n3 e => b3.extBut c o n2 (b2.extBut c o n3 (k1' c o n1 e))
 refine wpAny_bind (wpAny_bind (wpAny_onRaise ?_)); show wpAny _ _ (Builtin.SmallTypes.nextOf (.ref i2) >>= _) _ _ _
 refine wpAny_bind (oV (s := { s with heap := g3 }) (h2.of fun o e => k3 _ o D.a4 (Ne.symm D.a9) (Ne.symm D.b1) e) (q2.of fun o e => k3 _ o D2.c1 D2.c2 D2.c3 e) hy fun g4 n4 b4 => wpAny_pure ?_)
 have t4 : IsPair g4 TO x b := b4.extBut _ _ D.a9 t3
 refine wpAny_bind (wpAny_seqItems t4 rfl (wpAny_bind (wpAny_updateSeq_pair t4 fun g5 (t5 : IsPair g5 TO x y) b5 => wpAny_bind (wpAny_letGo (wpAny_pure (wpAny_pure ?_))))))
 refine wpAny_bind (wpAny_seqItems t5 rfl (wpAny_bind (wpAny_newTuple ?_)))
 have sz : g5.objs.size = s.heap.objs.size := by rw [b5.1, b4.1, b3.1, b2.1, b1.1]
 have k5 : ∀ c o, c ≠ z -> c ≠ TO -> c ≠ i1 -> c ≠ i2 -> s.heap.get? c = some o -> g5.get? c = some o := fun c o n1 n2 n3 n4 e => b5.extBut c o n2 (b4.extBut c o n4 (k3 c o n1 n2 n3 e))
 have z5 : IsZip g5 z TI TO .ellipsis := b5.extBut _ _ (Ne.symm D.a2) (b4.extBut _ _ (Ne.symm D.a4) (b3.extBut _ _ (Ne.symm D.a2) (b2.extBut _ _ (Ne.symm D.a3) z1)))
 have s15 : SIt k1 g5 i1 l1 (i + 1) := n2.of fun o e => b5.extBut _ o (Ne.symm D.a8) (b4.extBut _ o D.b1 (b3.extBut _ o (Ne.symm D.a8) e))
 have s25 : SIt k2 g5 i2 l2 (i + 1) := n4.of fun o e => b5.extBut _ o (Ne.symm D.a9) e
 have zl : z < g5.objs.size := zAC z5
 show wpAny _ _ (Builtin.SmallTypes.ownedTupleHandOut (.ref z) (.ref g5.objs.size) >>= _) _ _ _; refine wpAny_bind ?_; unfold Builtin.SmallTypes.ownedTupleHandOut
 have z6 : IsZip (g5.push { cls := .type "tuple", data := .seq #[x, y] }) z TI TO .ellipsis := zAA _ z5
 refine wpAny_bind (wpAny_setField_rec z6 (by simp) fun g7 (z7 : IsZip g7 z TI TO (rawInt g5.objs.size)) b7 => wpAny_setField_rec z7 (by simp) fun g8 (z8 : IsZip g8 z TI TO (rawInt g5.objs.size)) b8 => wpAny_pure ?_)
 have up : ∀ c o, c ≠ z -> g5.get? c = some o -> g8.get? c = some o := fun c o n e => b8.extBut c o n (b7.extBut c o n (zAA _ e))
 have p8 : IsPair g8 g5.objs.size x y := b8.extBut _ _ (Nat.ne_of_gt zl) (b7.extBut _ _ (Nat.ne_of_gt zl) (zAD _ rfl))
 refine ⟨_, rfl, ?_⟩
 rw [sz] at z8 p8
 refine wpAny_pure ?_
 show Q (some (.ref g5.objs.size)) _
 rw [sz]
 exact hQ g8 z8 (up _ _ D.a1 (k5 _ _ D.a1 D.a5 D.a6 D.a7 hTI)) (up _ _ D.a2 t5) (s15.of fun o e => up _ o D.a3 e) (s25.of fun o e => up _ o D.a4 e) p8 fun c o n1 n2 n3 n4 e => up c o n1 (k5 c o n1 n2 n3 n4 e)
theorem wa {Q : Option Value -> Shared -> Prop} (hh : A.handled = none) (D : Ap z TI TO i1 i2) (D1 : Out z TO i1 i2 l1) (D2 : Out z TO i1 i2 l2) (Z : ZSt k1 k2 z TI TO i1 i2 l1 l2 i s.heap) (q1 : SSq k1 s.heap l1 xs) (q2 : SSq k2 s.heap l2 ys) (hend : xs[i]? = none ∨ ys[i]? = none)
  (hQ : ∀ h', (∀ c o, c ≠ z -> c ≠ TO -> c ≠ i1 -> c ≠ i2 -> s.heap.get? c = some o -> h'.get? c = some o) -> Q none { s with heap := h' }) : wpAny (model prog w) A (pyNext (.ref z)) Q E s := by
 obtain ⟨hz, hTI, ⟨a, b, hTO⟩, h1, h2⟩ := Z
 have hT : s.TypeIs (.ref z) "zip" := ⟨_, hz, rfl⟩
 unfold pyNext
 refine wpAny_bind (wpAny_attempt (wpAny_callSpecial?_slot (name := Str.ofString "__next__") hT F.slot_zip_next (wpAny_call_entry F.slot_zip_next hT F.entry_zip_next ?_ (F.args_zip_next_1 _))))
 show wpAny _ _ (field (.ref z) 2 >>= _) _ _ _; refine wpAny_bind (wpAny_field hz rfl (x := .bool false) rfl ?_)
 show wpAny _ _ (field (.ref z) 3 >>= _) _ _ _; refine wpAny_bind (wpAny_field hz rfl (x := .ref TI) rfl (wpAny_bind (wpAny_seqItems hTI rfl ?_)))
 show wpAny _ _ (Builtin.SmallTypes.ownedTupleIsFree (.ref z) >>= _) _ _ _; refine wpAny_bind ?_; unfold Builtin.SmallTypes.ownedTupleIsFree
 refine wpAny_bind (wpAny_field hz rfl (x := .none) rfl (wpAny_pure ?_)); simp only [if_true]; refine wpAny_bind (wpAny_rule (wpAny_bind (wpAny_field hz rfl (x := .ref TO) rfl ?_)))
 refine wpAny_bind (wpAny_setField_rec hz (by simp) fun g1 (z1 : IsZip g1 z TI TO .ellipsis) b1 => wpAny_bind ?_)
 simp only [List.zipIdx_cons, List.zipIdx_nil, List.forIn_cons, List.forIn_nil]
 have k1' : ∀ c o, c ≠ z -> s.heap.get? c = some o -> g1.get? c = some o := fun c o n e => b1.extBut c o n e
 refine wpAny_bind (wpAny_bind (wpAny_onRaise ?_)); show wpAny _ _ (Builtin.SmallTypes.nextOf (.ref i1) >>= _) _ _ _
 cases hx : xs[i]? with
 | none =>
  refine wpAny_bind (tF (s := { s with heap := g1 }) hh (h1.of fun o e => k1' _ o D.a3 e) (q1.of fun o e => k1' _ o D1.c1 e) hx fun g2 e b2 he => ?_)
  obtain ⟨oe, ho, hc⟩ := he
  have z2 : IsZip g2 z TI TO .ellipsis := b2 _ _ (Ne.symm D.a3) z1
  have nz : e ≠ z := fun q => by subst q; rw [z2] at ho; cases ho; simp at hc
  refine wpAny_setField_rec z2 (by simp) fun g3 _ b3 => wpAny_bind (wpAny_isInstance (T := "StopIteration") (b := true) ⟨oe, b3.extBut _ _ nz ho, hc⟩ isSubtype_stop ?_)
  exact wpAny_pure (hQ g3 fun c o n1 _ n3 _ q => b3.extBut c o n1 (b2 c o n3 (k1' c o n1 q)))
 | some x =>
  have hy : ys[i]? = none := by
   rcases hend with q | q
   ·rw [hx] at q; cases q
   ·exact q
  refine wpAny_bind (oV (s := { s with heap := g1 }) (h1.of fun o e => k1' _ o D.a3 e) (q1.of fun o e => k1' _ o D1.c1 e) hx fun g2 n2 b2 => wpAny_pure ?_)
  have t2 : IsPair g2 TO a b := b2.extBut _ _ D.a8 (k1' _ _ D.a2 hTO)
  refine wpAny_bind (wpAny_seqItems t2 rfl (wpAny_bind (wpAny_updateSeq_pair t2 fun g3 t3 b3 => wpAny_bind (wpAny_letGo (wpAny_pure ?_)))))
  have k3 : ∀ c o, c ≠ z -> c ≠ TO -> c ≠ i1 -> s.heap.get? c = some o -> g3.get? c = some o := fun c o n1 n2 n3 e => b3.extBut c o n2 (b2.extBut c o n3 (k1' c o n1 e))
  refine wpAny_bind (wpAny_bind (wpAny_onRaise ?_)); show wpAny _ _ (Builtin.SmallTypes.nextOf (.ref i2) >>= _) _ _ _
  refine wpAny_bind (tF (s := { s with heap := g3 }) hh (h2.of fun o e => k3 _ o D.a4 (Ne.symm D.a9) (Ne.symm D.b1) e) (q2.of fun o e => k3 _ o D2.c1 D2.c2 D2.c3 e) hy fun g4 e b4 he => ?_)
  obtain ⟨oe, ho, hc⟩ := he
  have z4 : IsZip g4 z TI TO .ellipsis := b4 _ _ (Ne.symm D.a4) (b3.extBut _ _ (Ne.symm D.a2) (b2.extBut _ _ (Ne.symm D.a3) z1))
  have nz : e ≠ z := fun q => by subst q; rw [z4] at ho; cases ho; simp at hc
  refine wpAny_setField_rec z4 (by simp) fun g5 _ b5 => wpAny_bind (wpAny_isInstance (T := "StopIteration") (b := true) ⟨oe, b5.extBut _ _ nz ho, hc⟩ isSubtype_stop ?_)
  exact wpAny_pure (hQ g5 fun c o n1 n2 n3 n4 q => b5.extBut c o n1 (b4 c o n4 (k3 c o n1 n2 n3 q)))
theorem tB {k : Bool} {a : Addr} {Q : Value -> Shared -> Prop} (q : SSq k s.heap a xs) (hQ : Q (.ref s.heap.objs.size) { s with heap := s.heap.push { cls := .type (dF k), data := .fields #[.ref a, .int 0 0] } }) : wpAny (model prog w) A (pyIter (.ref a)) Q E s := by
 cases k with
 | true => exact wpAny_pyIter_list q hQ
 | false => exact wpAny_pyIter_tuple q hQ
end
abbrev zp1 (k1 : Bool) (h : Heap) (l1 : Addr) : Heap := h.push { cls := .type (dF k1), data := .fields #[.ref l1, .int 0 0] }
abbrev zp2 (k1 k2 : Bool) (h : Heap) (l1 l2 : Addr) : Heap := (zp1 k1 h l1).push { cls := .type (dF k2), data := .fields #[.ref l2, .int 0 0] }
abbrev zp3 (k1 k2 : Bool) (h : Heap) (l1 l2 : Addr) : Heap := (zp2 k1 k2 h l1 l2).push { cls := .type "tuple", data := .seq #[.ref h.objs.size, .ref (zp1 k1 h l1).objs.size] }
abbrev zp4 (k1 k2 : Bool) (h : Heap) (l1 l2 : Addr) : Heap := (zp3 k1 k2 h l1 l2).push { cls := .type "tuple", data := .seq #[.none, .none] }
abbrev zp5 (k1 k2 : Bool) (h : Heap) (l1 l2 : Addr) : Heap := (zp4 k1 k2 h l1 l2).push { cls := .type "zip", data := .fields #[.none, .bool false, .bool false, .ref (zp2 k1 k2 h l1 l2).objs.size, .ref (zp3 k1 k2 h l1 l2).objs.size] }
theorem wD (k1 k2 : Bool) (l1 l2 : Addr) (xs ys : Array Value) : Meets (Builtin.«zip.__new__» ⟨[.type "zip", .ref l1, .ref l2], []⟩) (fun _ R s => SSq k1 s.heap l1 xs /\ SSq k2 s.heap l2 ys /\ R (.ok (.ret (.ref (zp4 k1 k2 s.heap l1 l2).objs.size))) { s with heap := zp5 k1 k2 s.heap l1 l2 }) :=
 .of_wp fun prog w A R s h => by
  obtain ⟨hp, g, d, tk, os⟩ := s; obtain ⟨q1, q2, h⟩ := h; have hsub := sub_zip
  have p1 : SSq k1 (Shared.heap ⟨hp, g, d, tk, os⟩) l1 xs := q1
  have p2 : SSq k2 (Shared.heap ⟨hp.push { cls := .type (dF k1), data := .fields #[.ref l1, .int 0 0] }, g, d, tk, os⟩) l2 ys := q2.of fun o e => zAA _ e
  wp_walk using tB p1, tB p2
  exact ⟨_, rfl, h⟩
section
variable {prog : Program} {w : World} {A : Around} {E : Value -> Shared -> Prop} {s : Shared} {k1 k2 : Bool} {l1 l2 : Addr} {xs ys : Array Value}
theorem vY {Q : Value -> Shared -> Prop} (q1 : SSq k1 s.heap l1 xs) (q2 : SSq k2 s.heap l2 ys)
  (hQ : ∀ h', ZSt k1 k2 (s.heap.objs.size + 4) (s.heap.objs.size + 2) (s.heap.objs.size + 3) s.heap.objs.size (s.heap.objs.size + 1) l1 l2 0 h' -> (∀ c o, s.heap.get? c = some o -> h'.get? c = some o) -> Q (.ref (s.heap.objs.size + 4)) { s with heap := h' }) :
  wpAny (model prog w) A (call (.type "zip") [.ref l1, .ref l2]) Q E s := by
 refine callType_new F.called_zip (by decide) (F.typeCall_zip_2 _ _) (F.newCall_zip_2 _ _) (fun obj => F.args_object_init_3 obj _ _) F.entry_zip_new (wD k1 k2 l1 l2 xs ys) ⟨q1, q2, ?_⟩
 have n1 : (zp1 k1 s.heap l1).objs.size = s.heap.objs.size + 1 := zAm ..
 have n2 : (zp2 k1 k2 s.heap l1 l2).objs.size = s.heap.objs.size + 2 := by rw [zAm, n1]
 have n3 : (zp3 k1 k2 s.heap l1 l2).objs.size = s.heap.objs.size + 3 := by rw [zAm, n2]
 have n4 : (zp4 k1 k2 s.heap l1 l2).objs.size = s.heap.objs.size + 4 := by rw [zAm, n3]
 have up5 : ∀ c o, (zp4 k1 k2 s.heap l1 l2).get? c = some o -> (zp5 k1 k2 s.heap l1 l2).get? c = some o := fun c o e => zAA _ e
 have up4 : ∀ c o, (zp3 k1 k2 s.heap l1 l2).get? c = some o -> (zp5 k1 k2 s.heap l1 l2).get? c = some o := fun c o e => up5 c o (zAA _ e)
 have up3 : ∀ c o, (zp2 k1 k2 s.heap l1 l2).get? c = some o -> (zp5 k1 k2 s.heap l1 l2).get? c = some o := fun c o e => up4 c o (zAA _ e)
 have up2 : ∀ c o, (zp1 k1 s.heap l1).get? c = some o -> (zp5 k1 k2 s.heap l1 l2).get? c = some o := fun c o e => up3 c o (zAA _ e)
 have g5 : (zp5 k1 k2 s.heap l1 l2).get? (zp4 k1 k2 s.heap l1 l2).objs.size = some _ := zAD _ rfl
 have g4 := up5 _ _ (zAD (zp3 k1 k2 s.heap l1 l2) (o := { cls := .type "tuple", data := .seq #[.none, .none] }) rfl)
 have g3 := up4 _ _ (zAD (zp2 k1 k2 s.heap l1 l2) (o := { cls := .type "tuple", data := .seq #[.ref s.heap.objs.size, .ref (zp1 k1 s.heap l1).objs.size] }) rfl)
 have g2 := up3 _ _ (zAD (zp1 k1 s.heap l1) (o := { cls := .type (dF k2), data := .fields #[.ref l2, .int 0 0] }) rfl)
 have g1 := up2 _ _ (zAD s.heap (o := { cls := .type (dF k1), data := .fields #[.ref l1, .int 0 0] }) rfl)
 have hQ' := hQ (zp5 k1 k2 s.heap l1 l2)
 rw [n2, n3, n4] at g5; rw [n3] at g4; rw [n1, n2] at g3; rw [n1] at g2
 have sit : ∀ {k : Bool} {h : Heap} {it a : Addr}, h.get? it = some { cls := .type (dF k), data := .fields #[.ref a, .int 0 0] } -> SIt k h it a 0 := fun {k h it a} e => by
  cases k with
  | true => exact ⟨_, e, rfl, rfl⟩
  | false => exact ⟨_, e, rfl, rfl⟩
 show _ /\ _
 rw [n4]
 exact ⟨⟨_, g5, rfl⟩, hQ' ⟨g5, g3, ⟨_, _, g4⟩, sit g1, sit g2⟩ fun c o e => up2 c o (zAA _ e)⟩
end
end PZ
namespace PD
open PySem PySem.Spec PyProof.Rows L2 PZ
def SqK (K : PySem.W.Frag) : Bool -> Hp -> Addr -> List V -> Prop
 | true => SqL K
 | false => L2.SqT K
section
variable {X : Cx} {pins : List (Addr × Obj)} {σ : St} {H : Hp} {s : Shared} {k : Bool} {a : Addr} {xs : List V}
theorem SqK.list (I : Inv X pins σ H s) (h : SqK X.K k H a xs) : ∃ its : List Value, Vals xs its /\ SSq k s.heap a its.toArray := by
 cases k with
 | true =>
  obtain ⟨its, r, p, _⟩ := I.list h
  exact ⟨its, r, p.isList⟩
 | false =>
  obtain ⟨its, r, p, _⟩ := I.tuple h
  exact ⟨its, r, p⟩
theorem SqK.inj (I : Inv X pins σ H s) {ys : List V} (h : SqK X.K k H a xs) (h' : SqK X.K k H a ys) : xs = ys := by
 cases k with
 | true => exact I.list_inj h h'
 | false => exact I.tuple_inj h h'
theorem SqK.ne (I : Inv X pins σ H s) {b : Addr} (f : cJ X pins H b) (h : SqK X.K k H a xs) : a ≠ b := fun e => by
 subst e
 obtain ⟨f0, f1, f2, f3, f4, f5⟩ := f
 have kn : ∀ o, X.K.lookup a = some o -> False := fun o q => by
  have hb := I.ok.mod.kin a o q
  rcases f3 with z | z
  ·exact I.ok.noex a o hb z
  ·exact absurd (zAH (zAC (I.ok.bs a o hb).1) z) (zAc _)
 cases k with
 | true =>
  rcases h with (h | ⟨o, h⟩) | ⟨o, its, n, h, _⟩
  ·rw [f0] at h; cases h
  ·rw [f0] at h; cases h
  ·exact kn o h
 | false =>
  rcases h with (h | ⟨o, h⟩) | ⟨o, its, n, h, _⟩
  ·rw [f0] at h; cases h
  ·rw [f0] at h; cases h
  ·exact kn o h
end
def Itz (K : PySem.W.Frag) (k1 k2 : Bool) (a b : Addr) : It :=
 ⟨fun i H => ∃ xs ys x y, SqK K k1 H a xs /\ SqK K k2 H b ys /\ xs[i]? = some x /\ ys[i]? = some y,
  fun i H v H' => ∃ T x y, v = .ref T /\ H T = none /\ H' = L2.upd H T (.tup [x, y]) /\ (∀ xs, SqK K k1 H a xs -> xs[i]? = some x) /\ ∀ ys, SqK K k2 H b ys -> ys[i]? = some y,
  fun i H => ∃ xs ys, SqK K k1 H a xs /\ SqK K k2 H b ys /\ (xs[i]? = none ∨ ys[i]? = none)⟩
theorem sL {P : Program} {w : World} {K : PySem.W.Frag} {es : List Expr} {kt : Nat} {tp : Pos} (k1 k2 : Bool) (a b z TI TO i1 i2 : Addr) (D : Ap z TI TO i1 i2) :
  Turn P w K (.Tuple es kt tp) (Itz K k1 k2 a b) [z, TI, TO, i1, i2] z (fun i h => ZSt k1 k2 z TI TO i1 i2 a b i h) where
 mem := by simp
 obj := fun i h st c hc => by
  obtain ⟨hz, hTI, ⟨x, y, hTO⟩, s1, s2⟩ := st
  simp only [zAN, zAY, or_false] at hc
  rcases hc with e | e | e | e | e <;> subst e
  ·exact ⟨_, hz, fun v q => by cases q⟩
  ·exact ⟨_, hTI, fun v q => by cases q⟩
  ·exact ⟨_, hTO, fun v q => by cases q⟩
  ·obtain ⟨o, q1, _, q2⟩ := s1.obj
   exact ⟨o, q1, fun v q => by rw [q2] at q; cases q⟩
  ·obtain ⟨o, q1, _, q2⟩ := s2.obj
   exact ⟨o, q1, fun v q => by rw [q2] at q; cases q⟩
 keep := fun i h h' st kp => by
  obtain ⟨hz, hTI, ⟨x, y, hTO⟩, s1, s2⟩ := st
  exact ⟨kp z (by simp) _ hz, kp TI (by simp) _ hTI, ⟨x, y, kp TO (by simp) _ hTO⟩, s1.of fun o e => kp i1 (by simp) o e, s2.of fun o e => kp i2 (by simp) o e⟩
 item := by
  intro X hP hw hK hc i pins s σ H E I hf st hg
  subst hP hw hK
  obtain ⟨xs, ys, x, y, q1, q2, hx, hy⟩ := hg
  obtain ⟨us, r1, p1⟩ := q1.list I
  obtain ⟨ws, r2, p2⟩ := q2.list I
  obtain ⟨u, hu, ru⟩ := r1.get hx
  obtain ⟨v, hv, rv⟩ := r2.get hy
  have out : ∀ {k : Bool} {l : Addr} {zs : List V}, SqK X.K k H l zs -> Out z TO i1 i2 l := fun q => ⟨q.ne I (hf z (by simp)), q.ne I (hf TO (by simp)), q.ne I (hf i1 (by simp)), q.ne I (hf i2 (by simp))⟩
  refine vZ D (out q1) (out q2) st p1 p2 (x := u) (y := v) (by simpa using hu) (by simpa using hv) fun h' z1 ti to s1 s2 pr kp => ⟨_, rfl, wpAny_letOwnedTupleGo_zip z1 fun h'' z2 sb => ?_⟩
  have sz : s.heap.objs.size <= s.heap.objs.size := zAG _
  have nz : s.heap.objs.size ≠ z := Nat.ne_of_gt (zAC st.z)
  have nT : H s.heap.objs.size = none := I.hok.fresh sz
  have kp2 : ∀ c o, c ∉ [z, TI, TO, i1, i2] -> s.heap.get? c = some o -> h''.get? c = some o := fun c o n e => by
   simp only [zAN, zAY, or_false, not_or] at n
   exact sb.extBut c o n.1 (kp c o n.1 n.2.2.1 n.2.2.2.1 n.2.2.2.2 e)
  have st2 : ZSt k1 k2 z TI TO i1 i2 a b (i + 1) h'' := ⟨z2, sb.extBut _ _ D.a1 ti, ⟨_, _, sb.extBut _ _ D.a2 to⟩, s1.of fun o e => sb.extBut _ o D.a3 e, s2.of fun o e => sb.extBut _ o D.a4 e⟩
  have pr2 : IsPair h'' s.heap.objs.size u v := sb.extBut _ _ nz pr
  have lo : ∀ c ∈ [z, TI, TO, i1, i2], c ≠ s.heap.objs.size := fun c hc e => by
   have hlt : c < s.heap.objs.size := by
    obtain ⟨hz, hTI, ⟨x', y', hTO⟩, t1, t2⟩ := st
    simp only [zAN, zAY, or_false] at hc
    rcases hc with q | q | q | q | q <;> subst q
    ·exact zAC hz
    ·exact zAC hTI
    ·exact zAC hTO
    ·obtain ⟨o, q1, _⟩ := t1.obj; exact zAC q1
    ·obtain ⟨o, q1, _⟩ := t2.obj; exact zAC q1
   rw [e] at hlt
   exact zAc _ hlt
  refine ⟨.ref s.heap.objs.size, L2.upd H s.heap.objs.size (.tup [x, y]), ?_, rfl, ⟨_, x, y, rfl, nT, rfl, fun xs' q => by rw [q.inj I q1]; exact hx, fun ys' q => by rw [q.inj I q2]; exact hy⟩, st2, fun c hc => by rw [aq (lo c hc)]; exact (hf c hc).1⟩
  have nch : ∀ c o, H c = some o -> c ∉ [z, TI, TO, i1, i2] := fun c o e hc => by
   have := (hf c hc).1
   rw [e] at this
   cases this
  refine L2.Inv.step (s := s) (h' := h'') (g' := s.gens) (d' := s.drawn) (t' := s.toks) (ch := [z, TI, TO, i1, i2]) I (fun c hc => ?_) (fun c o _ _ n e _ => kp2 c o n e) (fun c o _ _ n e _ => ⟨o.slots, kp2 c o n e⟩) (fun c o _ e n => by rw [aq (zAP (zAC e))]; exact n) (fun c o n e => ⟨o, kp2 c o n e⟩)
   (fun c ls e => by rw [aq (aM e nT)]; exact e) (fun c o ls e => by rw [aq (aM e nT)]; exact e) (fun c ps e => ⟨#[], by rw [aq (aM e nT), e]; simp⟩) (fun m hm => ?_) (fun c o e => ?_) I.bare
  ·obtain ⟨f0, f1, f2, f3, f4, f5⟩ := hf c hc
   exact ⟨f3, f1, f4, f5⟩
  ·obtain ⟨o, es', ep, ho, r⟩ := hm
   exact ⟨o, es', ep, kp2 _ o (fun q => (hf _ q).2.1 rfl) ho, r⟩
  ·by_cases hcT : c = s.heap.objs.size
   ·subst hcT
    rw [ax] at e
    cases e
    exact ⟨by rw [sizeLine_eq]; show 2 <= 16777216; decide, [u, v], .cons ru (.cons rv .nil), ⟨_, pr2, rfl, _, rfl⟩⟩
   ·rw [aq hcT] at e
    refine (I.hok c o e).stay (fun d' o' hd q => kp2 d' o' ?_ q) (fun d' q => by rw [aq (aM q nT)]; exact q) fun d' ls q => by rw [aq (aM q nT)]; exact q
    rcases hd with q' | q'
    ·rw [q']; exact nch c o e
    ·exact nch d' _ q'
 done := by
  intro X hP hw hK hc i pins s σ H E I hf st hg
  subst hP hw hK
  obtain ⟨xs, ys, q1, q2, hend⟩ := hg
  obtain ⟨us, r1, p1⟩ := q1.list I
  obtain ⟨ws, r2, p2⟩ := q2.list I
  have out : ∀ {k : Bool} {l : Addr} {zs : List V}, SqK X.K k H l zs -> Out z TO i1 i2 l := fun q => ⟨q.ne I (hf z (by simp)), q.ne I (hf TO (by simp)), q.ne I (hf i1 (by simp)), q.ne I (hf i2 (by simp))⟩
  refine wa (I.ok.hd hc) D (out q1) (out q2) st p1 p2 (hend.imp (fun q => by simpa using r1.none_of q) fun q => by simpa using r2.none_of q) fun h' kp => ⟨rfl, ?_⟩
  have kp2 : ∀ c o, c ∉ [z, TI, TO, i1, i2] -> s.heap.get? c = some o -> h'.get? c = some o := fun c o n e => by
   simp only [zAN, zAY, or_false, not_or] at n
   exact kp c o n.1 n.2.2.1 n.2.2.2.1 n.2.2.2.2 e
  have nch : ∀ c o, H c = some o -> c ∉ [z, TI, TO, i1, i2] := fun c o e hc => by
   have := (hf c hc).1
   rw [e] at this
   cases this
  refine L2.Inv.step (s := s) (h' := h') (g' := s.gens) (d' := s.drawn) (t' := s.toks) (ch := [z, TI, TO, i1, i2]) I (fun c hc => ?_) (fun c o _ _ n e _ => kp2 c o n e) (fun c o _ _ n e _ => ⟨o.slots, kp2 c o n e⟩) (fun _ _ _ _ n => n) (fun c o n e => ⟨o, kp2 c o n e⟩) (fun _ _ e => e) (fun _ _ _ e => e) (fun c ps e => ⟨#[], by rw [e]; simp⟩) (fun m hm => ?_) (fun c o e => ?_) I.bare
  ·obtain ⟨f0, f1, f2, f3, f4, f5⟩ := hf c hc
   exact ⟨f3, f1, f4, f5⟩
  ·obtain ⟨o, es', ep, ho, r⟩ := hm
   exact ⟨o, es', ep, kp2 _ o (fun q => (hf _ q).2.1 rfl) ho, r⟩
  ·refine (I.hok c o e).stay (fun d' o' hd q => kp2 d' o' ?_ q) (fun _ q => q) fun _ _ q => q
   rcases hd with q' | q'
   ·rw [q']; exact nch c o e
   ·exact nch d' _ q'
 self := fun _ _ _ _ _ st h => wpAny_pyIter_zip st.z h
def bU : D -> Option (Bool × List D)
 | .lst _ ds => some (true, ds)
 | .tup ds => some (false, ds)
 | _ => none
section
variable {X : Cx}
theorem Den.seq {P : Bool -> Addr -> Prop} {H : Hp} {d : D} {v : V} {k : Bool} {ds : List D} (h : Den X.K P H d v) (e : bU d = some (k, ds)) : ∃ a vs, v = .ref a /\ SqK X.K k H a vs /\ af X.K P H ds vs ∧
  ∀ (P' : Bool -> Addr -> Prop) (H' : Hp), (∀ a vs, SqT X.K H a vs -> SqT X.K H' a vs) -> (∀ t a vs, ¬ P t a -> SqG X.K H t a vs -> ¬ P' t a /\ SqG X.K H' t a vs) -> SqK X.K k H' a vs := by
 cases d with
 | lst t es =>
  cases e
  obtain ⟨a, vs, e1, p, q, hd⟩ := h.lstG_
  exact ⟨a, vs, e1, q.1, hd, fun P' H' _ hL => (hL t a vs p q).2.1⟩
 | tup es =>
  cases e
  obtain ⟨a, vs, e1, q, hd⟩ := h.tup_
  exact ⟨a, vs, e1, q.w, hd, fun P' H' hT _ => (hT a vs q).w⟩
 | non => cases e
 | bl _ => cases e
 | int _ => cases e
 | str _ => cases e
 | exc _ => cases e
 | obj _ _ _ => cases e
def rK (ta : DA) : DA := fun ρ R => ta ρ fun ds => ∃ d1 d2 k1 k2 xs ys, ds = [d1, d2] /\ bU d1 = some (k1, xs) /\ bU d2 = some (k2, ys) /\ R (List.zipWith (fun x y => D.tup [x, y]) xs ys)
theorem qr {es : List Expr} {kt : Nat} {tp : Pos} {a b : Expr} {ta : DA} {p pos : Pos} (hg : Gl X "zip") (hm : X.mg "zip" = none) (ha : PAD X [a, b] ta) (hs : starEach [a, b] X.env = (false, eval a X.env) :: starEach [b] X.env := by rfl) (hs2 : (backTo pos (starEach [b] X.env)).any (·.1) = false := by rfl) :
  PID X (.Tuple es kt tp) (.Call (.Name "zip" p) [a, b] [] pos) (rK ta) := by
 intro pins s σ H W ρ R I r h
 refine Call_ (dG I hg hm boot_zip (PyProof.Rows.callWith_type1 (thn (ha pos pins s σ H W ρ _ I r h) fun us s1 ⟨vs, H1, ds, I1, r1, e1, hd, q1⟩ => ?_) hs hs2))
 obtain ⟨d1, d2, k1, k2, xs, ys, e, g1, g2, q⟩ := q1
 subst e
 obtain ⟨v1, v2, rfl, hd1, hd2⟩ := sZ hd
 obtain ⟨l1, ws1, e2, sq1, dn1, up1⟩ := hd1.seq g1
 obtain ⟨l2, ws2, e3, sq2, dn2, up2⟩ := hd2.seq g2
 subst e2 e3
 cases r1 with
 | cons ra rr =>
  cases rr with
  | cons rb rr =>
   cases rr
   cases ra
   cases rb
   obtain ⟨us1, _, p1⟩ := sq1.list I1
   obtain ⟨us2, _, p2⟩ := sq2.list I1
   have nn : ∀ j : Nat, s1.heap.objs.size <= s1.heap.objs.size + j := fun j => Nat.le_add_right _ j
   refine vY p1 p2 fun h' Z kp => ?_
   refine wpAny_pyIter_zip Z.z ?_
   have Dz : Ap (s1.heap.objs.size + 4) (s1.heap.objs.size + 2) (s1.heap.objs.size + 3) s1.heap.objs.size (s1.heap.objs.size + 1) := by constructor <;> simp
   refine ⟨s1.heap.objs.size + 4, [s1.heap.objs.size + 4, s1.heap.objs.size + 2, s1.heap.objs.size + 3, s1.heap.objs.size, s1.heap.objs.size + 1], _, _, H1, _, rfl, I1.kept (t' := s1.toks) kp, e1, sL k1 k2 l1 l2 _ _ _ _ _ Dz, Z, fun c hc => ?_, ?_, q⟩
   ·have hc' : s1.heap.objs.size <= c := by
     simp only [zAN, zAY, or_false] at hc
     rcases hc with q | q | q | q | q <;> subst q <;> first | exact nn _ | exact zAG _
    exact I1.fpOk hc' (I1.hok.fresh hc')
   ·intro P' H' hT hL hX i
    have k1' := up1 P' H' hT hL
    have k2' := up2 P' H' hT hL
    have n1 := dn1.len
    have n2 := dn2.len
    have hlen : (List.zipWith (fun x y => D.tup [x, y]) xs ys).length = min xs.length ys.length := List.length_zipWith
    refine ⟨fun hi => ?_, fun v H3 y hi => ?_, fun hi => ⟨ws1, ws2, k1', k2', ?_⟩⟩
    ·obtain ⟨x, hx, _⟩ := dn1.get (i := i) (d := xs[i]'(by omega)) (by simp)
     obtain ⟨y, hy, _⟩ := dn2.get (i := i) (d := ys[i]'(by omega)) (by simp)
     exact ⟨ws1, ws2, x, y, k1', k2', hx, hy⟩
    ·obtain ⟨T, x, y', e, nT, eH, hx, hy⟩ := y
     subst e eH
     obtain ⟨dx, g1', hx'⟩ := dn1.bu (hx ws1 k1')
     obtain ⟨dy, g2', hy'⟩ := dn2.bu (hy ws2 k2')
     have sm : ah H' (L2.upd H' T (.tup [x, y'])) := ah.upd nT
     refine ⟨sm, .tup [dx, dy], by simp [List.getElem?_zipWith, g1', g2'], Den.tup (SqT.of ax) (af.cons ((Den.map hT hL hX dx x hx').same sm) (af.one ((Den.map hT hL hX dy y' hy').same sm)))⟩
    ·by_cases hz : xs.length <= i
     ·exact .inl (zAp (by omega))
     ·exact .inr (zAp (by omega))
end
end PD
namespace PD
open PySem PySem.Spec PyProof.Rows L2
def PEF (X : Cx) (e : Expr) (t : DA) : Prop :=
 ∀ (pins : List (Addr × Obj)) (s : Shared) (σ : St) (H : Hp) (W : Own) (ρ : Ro) (Q : List D -> Prop), Inv X pins σ H s -> Rel X W H σ ρ -> t ρ Q →
  wpAny (model X.prog X.w) X.A (eval e X.env) (fun u s' => ∃ a vs H' ds, u = .ref a /\ Inv X pins σ H' s' /\ ah H H' /\ H a = none /\ X.K.lookup a = none /\ H' a = some (.lst vs) /\ af X.K (fun t b => W.bad t b ∨ b = a) H' ds vs /\ Q ds) X.xe s
def rE (t : DA) : DE := fun ρ Q => t ρ fun ds => Q (.lst true ds)
section
variable {X : Cx} {e : Expr} {t : DA} {pos : Pos}
theorem PEF.ped (h : PEF X e t) : PED X e (rE t) := by
 intro pins s σ H W ρ Q I r hw
 refine thn (h pins s σ H W ρ _ I r hw) fun u s1 ⟨a, vs, H', ds, e, I1, sm, n, k, ha, hd, q⟩ => ?_
 subst e
 exact ⟨.ref a, H', _, I1, rfl, sm, Den.lst (r.fresh n) (.new ha k) (hd.fewer fun _ _ z => .inl z), q⟩
theorem PEF.of {te : TE} (h : PE X e te) (k : ∀ σ H W ρ Q, Rel X W H σ ρ -> t ρ Q -> te σ H fun v H' => ∃ a vs ds H1, v = .ref a /\ ah H H1 /\ H1 a = none /\ H' = L2.upd H1 a (.lst vs) /\ af X.K W.bad H1 ds vs /\ Q ds) (hK : ∀ pins σ H s a vs, Inv X pins σ H s -> H a = some (.lst vs) -> X.K.lookup a = none) : PEF X e t := by
 intro pins s σ H W ρ Q I r hw
 refine thn (h pins s σ H _ I (k σ H W ρ Q r hw)) fun u s1 ⟨v, H', I1, rv, a, vs, ds, H1, e, sm, n, eH, hd, q⟩ => ?_
 subst e eH
 cases rv
 exact ⟨a, vs, _, ds, rfl, I1, sm.trans (ah.upd n), sm.free n, hK _ _ _ _ a vs I1 ax, ax, af.apart n (hK _ _ _ _ a vs I1 ax) hd, q⟩
theorem Inv.kno {pins : List (Addr × Obj)} {σ : St} {H : Hp} {s : Shared} {a : Addr} {o : HO} (I : Inv X pins σ H s) (h : H a = some o) : X.K.lookup a = none := by
 cases e : X.K.lookup a with
 | none => rfl
 | some ob =>
  have := (I.bs a ob (I.ok.mod.kin a ob e)).2
  rw [h] at this
  cases this
def sS (i : Nat) (t : DA) : DS := fun E ρ => t ρ fun ds => E.nx (ρ.set i (some (.own ds)))
end
mutual
def wu : D -> Bool
 | .tup ds => kO ds
 | .obj _ _ ds => kO ds
 | .lst _ _ => false
 | _ => true
def kO : List D -> Bool
 | [] => true
 | d :: ds => wu d && kO ds
end
mutual
def gc : D -> Bool
 | .tup ds => i8 ds
 | .obj _ _ ds => i8 ds
 | .lst t ds => t && i8 ds
 | _ => true
def i8 : List D -> Bool
 | [] => true
 | d :: ds => gc d && i8 ds
end
section
variable {K : PySem.W.Frag} {P P' : Bool -> Addr -> Prop} {H : Hp}
end
section
variable {X : Cx}
variable {e : Expr} {te : DE} {tt : DT} {ta : DA}
def sX (i : Nat) (t : DE) : DE := fun ρ Q => ∃ ds, ρ[i]? = some (some (.own ds)) /\ t (ρ.set i (some (.val (.lst false ds)))) fun d => gc d = true /\ Q d
def pO (i : Nat) (t : DT) : DT := fun ρ Q => ∃ ds, ρ[i]? = some (some (.own ds)) /\ t (ρ.set i (some (.val (.lst false ds)))) Q
def pM (i : Nat) (t : DA) : DA := fun ρ Q => ∃ ds, ρ[i]? = some (some (.own ds)) /\ t (ρ.set i (some (.val (.lst false ds)))) fun ys => i8 ys = true /\ Q ys
end
section
variable {X : Cx} {pos : Pos}
theorem af.take {K : PySem.W.Frag} {P : Bool -> Addr -> Prop} {H : Hp} : ∀ {ds : List D} {vs : List V} (n : Nat), af K P H ds vs -> af K P H (ds.take n) (vs.take n)
 | _, _, 0, _ => by simp only [List.take_zero]; exact af.nil
 | [], _, _ + 1, h => by simp only [af] at h; subst h; exact af.nil
 | x :: r, _, n + 1, h => by
  simp only [af] at h
  obtain ⟨u, w, rfl, h1, h2⟩ := h
  exact af.cons h1 (af.take n h2)
theorem af.drop {K : PySem.W.Frag} {P : Bool -> Addr -> Prop} {H : Hp} : ∀ {ds : List D} {vs : List V} (n : Nat), af K P H ds vs -> af K P H (ds.drop n) (vs.drop n)
 | _, _, 0, h => by simpa only [List.drop_zero] using h
 | [], _, _ + 1, h => by simp only [af] at h; subst h; exact af.nil
 | x :: r, _, n + 1, h => by
  simp only [af] at h
  obtain ⟨u, w, rfl, h1, h2⟩ := h
  exact af.drop n h2
def pK (i : Nat) (tk te : DE) : DS := fun E ρ => ∃ ds, ρ[i]? = some (some (.own ds)) /\ te ρ fun d => tk ρ fun k => ∃ n j, k = .int n /\ ixN ds.length n = some j /\ E.nx (ρ.set i (some (.own (ds.set j d))))
end
end PD
namespace PD
open PySem PySem.Spec PyProof.Rows L2
section
variable {X : Cx} {pos : Pos}
def sT (i : Nat) (C : List D -> Prop) (f : List D -> List D) : DS := fun E ρ => ∃ ds, ρ[i]? = some (some (.own ds)) /\ C ds /\ E.nx (ρ.set i (some (.own (f ds))))
variable {e : Expr} {te : DE} {p : Pos}
def ow (te : DE) : DA := fun ρ Q => te ρ fun d => ∃ k ds, bU d = some (k, ds) /\ Q ds
theorem ly {K : PySem.W.Frag} {P : Bool -> Addr -> Prop} {H : Hp} {d : D} {v : V} {k : Bool} {ds : List D} (h : Den K P H d v) (e : bU d = some (k, ds)) : ∃ a vs, v = .ref a /\ (SqL K H a vs ∨ SqT K H a vs) /\ af K P H ds vs := by
 cases d with
 | lst t es =>
  cases e
  obtain ⟨a, vs, e1, p, q, hd⟩ := h.lst_
  exact ⟨a, vs, e1, .inl q, hd⟩
 | tup es =>
  cases e
  obtain ⟨a, vs, e1, q, hd⟩ := h.tup_
  exact ⟨a, vs, e1, .inr q, hd⟩
 | non => cases e
 | bl _ => cases e
 | int _ => cases e
 | str _ => cases e
 | exc _ => cases e
 | obj _ _ _ => cases e
theorem tO (hg : Gl X "list") (hm : X.mg "list" = none) (he : PED X e te) (hst : starEach [e] X.env = (false, eval e X.env) :: starEach [] X.env := by rfl) (hpl : (backTo pos (starEach [] X.env)).any (·.1) = false := by rfl) : PEF X (.Call (.Name "list" p) [e] [] pos) (ow te) := by
 refine PEF.of (kr k9 hg hm boot_list (bL he.pe eI hst) (by decide) (by decide) hst hpl) (fun σ H W ρ Q r h => ?_) fun _ _ _ _ _ _ I h => Inv.kno I h
 refine ⟨W, ρ, _, r, h, fun v H' d e1 hd q => ?_⟩
 obtain ⟨k, ds, es, q⟩ := q
 obtain ⟨a, vs, ev, hq, hds⟩ := ly hd es
 subst ev
 exact ⟨a, vs, rfl, hq.imp id SqT.w, fun l hl => ⟨l, vs, ds, H', rfl, e1, hl, rfl, hds, q⟩⟩
theorem eG {K : PySem.W.Frag} {P : Bool -> Addr -> Prop} {H : Hp} : ∀ {ns : List Int} {vs : List V}, af K P H (ns.map D.int) vs -> vs = ns.map V.int
 | [], _, h => by simpa only [zAi, af] using h
 | n :: r, _, h => by
  simp only [zAF, af] at h
  obtain ⟨v, w, rfl, h1, h2⟩ := h
  rw [h1.int_, eG h2]
  rfl
theorem pA (hc : X.calm = true) : d0 X (.builtin "sum") (fun ds Q => ∃ (t : Bool) (ns : List Int), ds = [.lst t (ns.map D.int)] /\ Q (.int ns.sum)) := by
 intro pins s σ H W ds vs us Q I tr r hd q
 obtain ⟨t, ns, e, q⟩ := q
 subst e
 obtain ⟨v, rfl, h1⟩ := jg hd
 obtain ⟨a, ws, ev, _, hq, hw⟩ := h1.lst_
 subst ev
 cases r with
 | cons r1 rr =>
  cases rr
  cases r1
  obtain ⟨its, rv, pl, _⟩ := I.list hq
  rw [eG hw] at rv
  have ia := intsAre_of rv
  obtain ⟨xs, ex⟩ := ia.allInts.items
  have hl : s.heap.IsList a (intItems xs) := by rw [<- ex]; exact pl.isList
  refine sum_intListG (I.ok.hd hc) hl fun h' tk t' kp => ?_
  have es : preSum (numAt xs) xs.size = ns.sum := by
   rw [preSum_eq, zAx (by simp), <- nums_intItems, <- ex, show its.toArray.toList = its from rfl, ia.numsOf]
  rw [es]
  exact ⟨.int ns.sum, H, _, I.kept kp, ⟨_, rfl⟩, ah.refl H, Den.int _, q⟩
def cutD (xs : List D) (lo hi : Option Int) : List D := (xs.drop (HT.sIx xs.length 0 lo)).take (HT.sIx xs.length xs.length hi - HT.sIx xs.length 0 lo)
theorem af.cut {K : PySem.W.Frag} {P : Bool -> Addr -> Prop} {H : Hp} {ds : List D} {vs : List V} (lo hi : Option Int) (h : af K P H ds vs) : af K P H (cutD ds lo hi) (jG vs lo hi) := by
 unfold cutD jG
 rw [h.len]
 exact (h.drop _).take _
abbrev DO := Ro -> (Option Int -> Prop) -> Prop
def PDO (X : Cx) (e : Option Expr) (t : DO) : Prop :=
 ∀ (pins : List (Addr × Obj)) (s : Shared) (σ : St) (H : Hp) (W : Own) (ρ : Ro) (Q : Option Int -> Prop), Inv X pins σ H s -> Rel X W H σ ρ -> t ρ Q →
  wpAny (model X.prog X.w) X.A (evalPart e X.env) (fun u s' => ∃ o H', Inv X pins σ H' s' /\ IsPart u o /\ ah H H' /\ Q o) X.xe s
def fN : DO := fun _ Q => Q none
def oo (te : DE) : DO := fun ρ Q => te ρ fun d => ∃ i, d = .int i /\ Q (some i)
theorem m8 : PDO X none fN := by
 intro pins s σ H W ρ Q I r h
 rw [evalPart_none]
 exact wpAny_pure ⟨none, H, I, .none, ah.refl H, h⟩
theorem c8 (he : PED X e te) : PDO X (some e) (oo te) := by
 intro pins s σ H W ρ Q I r h
 rw [evalPart_some]
 refine thn (he pins s σ H W ρ _ I r h) fun u s1 ⟨v, H1, d, I1, rv, e1, hd, i, ed, q⟩ => ?_
 subst ed
 have z := hd.int_
 subst z
 obtain ⟨t, rfl⟩ := rv
 exact ⟨some i, H1, I1, .int i t, e1, q⟩
variable {lo hi st : Option Expr} {tl th ts : DO} {p2 : Pos}
theorem sH {Q : Value -> Shared -> Prop} {pins : List (Addr × Obj)} {s : Shared} {σ : St} {H : Hp} {W : Own} {ρ : Ro} {R : D -> Option Int -> Option Int -> Option Int -> Prop} (he : PED X e te) (hl : PDO X lo tl) (hh : PDO X hi th) (ht : PDO X st ts) (I : Inv X pins σ H s) (r : Rel X W H σ ρ)
  (h : te ρ fun d => tl ρ fun l => th ρ fun u => ts ρ fun k => R d l u k)
  (hk : ∀ (v : V) (vv vl vu vk : Value) (l u k : Option Int) (d : D) (sl : Addr) (H' : Hp) (s' : Shared), Inv X pins σ H' s' -> ah H H' -> RelV v vv -> Den X.K W.bad H' d v -> s'.heap.IsSliceOf sl vl vu vk -> IsPart vl l -> IsPart vu u -> IsPart vk k -> R d l u k →
   ∃ T id, typeLookup (.type T) "__getitem__" = pure (some (.builtin id)) /\ s'.TypeIs vv T /\ wpAny (model X.prog X.w) X.A (getItem vv (.ref sl)) Q X.xe s')
  (htail : ∀ vv sl, ∃ ops, subscripted (.Slice lo hi st p2) false vv sl = operate ops (getItem vv sl)) : wpAny (model X.prog X.w) X.A (eval (.Subscript e (.Slice lo hi st p2) pos) X.env) Q X.xe s := by
 refine Subscript_ (thn (he pins s σ H W ρ _ I r h) fun vv s1 ⟨v, H1, d, I1, rv, e1, hd, q1⟩ => ?_)
 have r1 := r.same e1
 refine wpAny_Slice (thn (hl pins s1 σ H1 W ρ _ I1 r1 q1) fun vl s2 ⟨l, H2, I2, pl, e2, q2⟩ => thn (hh pins s2 σ H2 W ρ _ I2 (r1.same e2) q2) fun vu s3 ⟨u, H3, I3, pu, e3, q3⟩ => thn (ht pins s3 σ H3 W ρ _ I3 ((r1.same e2).same e3) q3) fun vk s4 ⟨k, H4, I4, pk, e4, q4⟩ => ?_)
 have I5 : Inv X pins σ H4 { s4 with heap := s4.heap.push { cls := .type "slice", data := .fields #[vl, vu, vk] } } := I4.kept (t' := s4.toks) fun b ob q => zAA _ q
 obtain ⟨T, id, hT, ht', hg⟩ := hk v vv vl vu vk l u k d s4.heap.objs.size H4 _ I5 (e1.trans (e2.trans (e3.trans e4))) rv (hd.same (e2.trans (e3.trans e4))) (Heap.IsSliceOf.new ..) pl pu pk q4
 show wpAny (model X.prog X.w) X.A (subscriptTail e (.Slice lo hi st p2) vv (.ref s4.heap.objs.size)) Q X.xe _
 obtain ⟨ops, ho⟩ := htail vv (.ref s4.heap.objs.size)
 exact tail_any (ops := ops) ht' hT hg ho
def rJ (te : DE) (tl th : DO) : DA := fun ρ Q => te ρ fun d => tl ρ fun l => th ρ fun u => ∃ t ds, d = .lst t ds /\ Q (cutD ds l u)
def uK (te : DE) (tl th : DO) : DE := fun ρ Q => te ρ fun d => tl ρ fun l => th ρ fun u => ∃ ds, d = .tup ds /\ ¬ (HT.sIx ds.length 0 l = 0 /\ HT.sIx ds.length ds.length u = ds.length) /\ Q (.tup (cutD ds l u))
theorem mK {pins : List (Addr × Obj)} {s : Shared} {σ : St} {H H' : Hp} {W : Own} {v : V} {vv vl vu vk : Value} {l u k : Option Int} {tg : Bool} {ds : List D} {sl : Addr} (f : List V -> List V) (g : List D -> List D) (I : Inv X pins σ H' s) (r : Rel X W H' σ ρ) (sm : ah H H') (rv : RelV v vv) (hd : Den X.K W.bad H' (.lst tg ds) v) (hs : s.heap.IsSliceOf sl vl vu vk) (pl : IsPart vl l) (pu : IsPart vu u) (pk : IsPart vk k) (k0 : k ≠ some 0)
  (hp : ∀ its : List Value, ∃ g' : List Value -> List Value, slicePick its.toArray l u k = (g' its).toArray /\ ∀ vs, Vals vs its -> Vals (f vs) (g' its) /\ (f vs).length <= vs.length) (hg : ∀ vs, af X.K W.bad H' ds vs -> af X.K W.bad H' (g ds) (f vs)) {Q : List D -> Prop} (q : Q (g ds)) :
  ∃ T id, typeLookup (.type T) "__getitem__" = pure (some (.builtin id)) /\ s.TypeIs vv T /\ wpAny (model X.prog X.w) X.A (getItem vv (.ref sl)) (fun uu s' => ∃ a vs H'' ds, uu = .ref a /\ Inv X pins σ H'' s' /\ ah H H'' /\ H a = none /\ X.K.lookup a = none /\ H'' a = some (.lst vs) /\ af X.K (fun t b => W.bad t b ∨ b = a) H'' ds vs /\ Q ds) X.xe s := by
 obtain ⟨a, vs, ev, _, hq, hds⟩ := hd.lst_
 subst ev
 cases rv
 obtain ⟨its, rr, ht, hz⟩ := I.list hq
 have hlen := rr.length
 refine ⟨"list", _, slot_list_getitem.lookup, ht.isList.typeIs, ?_⟩
 refine wpAny_getItem_list_slice ht.isList hs pl pu pk k0 ?_ (by rw [zAR] <;> omega)
 obtain ⟨g', e, hv⟩ := hp its
 rw [e]
 obtain ⟨rv', hl'⟩ := hv vs rr
 have hf : H' s.heap.objs.size = none := I.hok.fresh (zAG _)
 refine ⟨s.heap.objs.size, f vs, _, g ds, rfl, I.laid (t' := s.toks) (o := .lst (f vs)) (fun b ob q => zAA _ q) (zAG _) ⟨zAa hl' hz, _, 0, rv', zAD _ rfl⟩, sm.trans (ah.upd hf), sm.free hf, Inv.kfresh I, ax, af.apart hf (Inv.kfresh I) (hg vs hds), q⟩
theorem gi (he : PED X e te) (hl : PDO X lo tl) (hh : PDO X hi th) : PEF X (.Subscript e (.Slice lo hi none p2) pos) (rJ te tl th) := by
 intro pins s σ H W ρ Q I r h
 refine sH (st := none) (ts := fN) (R := fun d l u k => k = none /\ ∃ t ds, d = .lst t ds /\ Q (cutD ds l u)) he hl hh m8 I r ?_ ?_ (fun _ _ => ⟨_, rfl⟩)
 ·have e1 : (fun d => tl ρ fun l => th ρ fun u => fN ρ fun k => k = none /\ ∃ t ds, d = D.lst t ds /\ Q (cutD ds l u)) = fun d => tl ρ fun l => th ρ fun u => ∃ t ds, d = D.lst t ds /\ Q (cutD ds l u) := by
   funext d
   congr 1
   funext l
   congr 1
   funext u
   exact propext ⟨fun z => z.2, fun z => ⟨rfl, z⟩⟩
  rw [e1]
  exact h
 ·intro v vv vl vu vk l u k d sl H' s' I' sm rv hd hs pl pu pk hR
  obtain ⟨ek, t, ds, ed, q⟩ := hR
  subst ek ed
  exact mK (fun vs => jG vs l u) (fun ds => cutD ds l u) I' (r.same sm) sm rv hd hs pl pu pk (by simp) (fun its => ⟨fun its => (its.drop (HT.sIx its.length 0 l)).take (HT.sIx its.length its.length u - HT.sIx its.length 0 l), kI its l u, fun vs rr => ⟨by unfold jG; rw [rr.length]; exact (rr.drop _).take _, mH vs l u⟩⟩) (fun vs hds => hds.cut l u) q
def uJ (te : DE) : DA := fun ρ Q => te ρ fun d => ∃ t ds, d = .lst t ds /\ Q ds.reverse
end
end PD
namespace PD
open PySem PySem.Spec PyProof.Rows L2
section
variable {prog : Program} {w : World} {A : Around} {E : Value -> Shared -> Prop} {s : Shared} {p q : Addr} {us ws : List Value} {Q : Value -> Shared -> Prop}
theorem we (hp : s.heap.IsList p us.toArray) (hq : s.heap.IsList q ws.toArray) (hz : us.length + ws.length <= sizeLine)
  (h : Q (.ref s.heap.objs.size) { s with heap := s.heap.push { cls := .type "list", data := .seq (us ++ ws).toArray } }) : wpAny (model prog w) A (binaryOp .Add (.ref p) (.ref q)) Q E s := by
 obtain ⟨⟨c1, k1, x1, y1⟩, g1, g2, n1, g3⟩ := id hp
 obtain ⟨⟨c2, k2, x2, y2⟩, f1, f2, n2, f3⟩ := id hq
 simp only at g2 g3 f2 f3
 subst g2 g3 f2 f3
 refine concat_meets ⟨_, g1, rfl⟩ ⟨_, f1, rfl⟩ noFill_list_add seq_list_add PySem.F.slot_list_add PySem.F.entry_list_add (PySem.F.args_list_add_2 _ _) (list_addW p q us.toArray ws.toArray n1 n2 k1 k2 y1 y2 (by simpa using hz)) ⟨g1, f1, ?_⟩
 rw [show us.toArray ++ ws.toArray = (us ++ ws).toArray by simp]
 exact h
theorem wg (hp : IsTup s.heap p us.toArray) (hq : IsTup s.heap q ws.toArray) (hz : us.length + ws.length <= sizeLine) (h0 : us = [] -> Q (.ref q) s) (h1 : ws = [] -> Q (.ref p) s)
  (h : Q (.ref s.heap.objs.size) { s with heap := s.heap.push { cls := .type "tuple", data := .seq (us ++ ws).toArray } }) : wpAny (model prog w) A (binaryOp .Add (.ref p) (.ref q)) Q E s := by
 obtain ⟨⟨c1, k1, x1, y1⟩, g1, g2, n1, g3⟩ := id hp
 obtain ⟨⟨c2, k2, x2, y2⟩, f1, f2, n2, f3⟩ := id hq
 simp only at g2 g3 f2 f3
 subst g2 g3 f2 f3
 by_cases hv : us = []
 ·exact concat_meets ⟨_, g1, rfl⟩ ⟨_, f1, rfl⟩ noFill_tuple_add seq_tuple_add PySem.F.slot_tuple_add PySem.F.entry_tuple_add (PySem.F.args_tuple_add_2 _ _) (tuple_addW0 p q us.toArray ws.toArray n1 n2 k1 k2 y1 y2 (by simp [hv])) ⟨g1, f1, h0 hv⟩
 ·by_cases hw : ws = []
  ·exact concat_meets ⟨_, g1, rfl⟩ ⟨_, f1, rfl⟩ noFill_tuple_add seq_tuple_add PySem.F.slot_tuple_add PySem.F.entry_tuple_add (PySem.F.args_tuple_add_2 _ _) (tuple_addW1 p q us.toArray ws.toArray n1 n2 k1 k2 y1 y2 (by simpa using hv) (by simp [hw])) ⟨g1, f1, h1 hw⟩
  ·refine concat_meets ⟨_, g1, rfl⟩ ⟨_, f1, rfl⟩ noFill_tuple_add seq_tuple_add PySem.F.slot_tuple_add PySem.F.entry_tuple_add (PySem.F.args_tuple_add_2 _ _) (tuple_addW2 p q us.toArray ws.toArray n1 n2 k1 k2 y1 y2 (by simpa using hv) (by simpa using hw) (by simpa using hz)) ⟨g1, f1, ?_⟩
   rw [show us.toArray ++ ws.toArray = (us ++ ws).toArray by simp]
   exact h
end
section
variable {X : Cx} {pos : Pos}
def kQ : RD2 := fun x y Q => match x, y with
 | .int i, .int j => Q (.int (i + j))
 | .tup xs, .tup ys => xs.length + ys.length <= sizeLine /\ Q (.tup (xs ++ ys))
 | .lst _ xs, .lst _ ys => xs.length + ys.length <= sizeLine /\ Q (.lst true (xs ++ ys))
 | _, _ => False
theorem pj (i j : Int) (Q : D -> Prop) : kQ (.int i) (.int j) Q = Q (.int (i + j)) := rfl
theorem pw (xs ys : List D) (Q : D -> Prop) : kQ (.tup xs) (.tup ys) Q = (xs.length + ys.length <= sizeLine /\ Q (.tup (xs ++ ys))) := rfl
theorem pq (t u : Bool) (xs ys : List D) (Q : D -> Prop) : kQ (.lst t xs) (.lst u ys) Q = (xs.length + ys.length <= sizeLine /\ Q (.lst true (xs ++ ys))) := rfl
theorem tZ {W : Own} {H : Hp} {t : Bool} {a : Addr} (tr : ∀ t a, W.bad t a -> ∃ o, H a = some o) (h : H a = none) : ¬ W.bad t a := fun z => by
 obtain ⟨o, q⟩ := tr _ _ z
 rw [h] at q
 cases q
theorem aY : OpD X (binaryOp .Add) kQ := by
 intro pins s σ H W x y v u vv uu Q I tr rv ru hx hy q
 cases x <;> cases y <;> first | exact q.elim | skip
 ·exact u7 pins s σ H W _ _ v u vv uu Q I tr rv ru hx hy ⟨_, _, rfl, rfl, q⟩
 ·rename_i xs ys
  obtain ⟨p, vs, e1, hq1, hd1⟩ := hx.tup_
  obtain ⟨p', vs', e2, hq2, hd2⟩ := hy.tup_
  subst e1 e2
  cases rv
  cases ru
  obtain ⟨its, r1, t1, _⟩ := I.tuple hq1.w
  obtain ⟨its', r2, t2, _⟩ := I.tuple hq2.w
  obtain ⟨hz, q⟩ := q
  have l1 := hd1.len
  have l2 := hd2.len
  have m1 := r1.length
  have m2 := r2.length
  have hz' : its.length + its'.length <= sizeLine := by omega
  have hf : H s.heap.objs.size = none := I.hok.fresh (zAG _)
  refine wg t1 t2 hz' (fun e => ?_) (fun e => ?_) ?_
  ·subst e
   have : vs = [] := zAf (by simpa using m1)
   subst this
   have : xs = [] := zAf (by simpa using l1.symm)
   subst this
   exact ⟨.ref p', H, _, I, rfl, ah.refl H, hy, q⟩
  ·subst e
   have : vs' = [] := zAf (by simpa using m2)
   subst this
   have : ys = [] := zAf (by simpa using l2.symm)
   subst this
   rw [zAd] at q
   exact ⟨.ref p, H, _, I, rfl, ah.refl H, hx, q⟩
  ·exact ⟨.ref s.heap.objs.size, L2.upd H s.heap.objs.size (.tup (vs ++ vs')), _, I.laid (t' := s.toks) (fun b u e => zAA _ e) (zAG _) ⟨by rw [zAg]; omega, its ++ its', r1.append r2, ⟨_, zAD _ rfl, rfl, _, rfl⟩⟩, rfl, ah.upd hf, Den.tup (SqT.of ax) ((hd1.append hd2).same (ah.upd hf)), q⟩
 ·obtain ⟨p, vs, e1, _, hq1, hd1⟩ := hx.lst_
  obtain ⟨p', vs', e2, _, hq2, hd2⟩ := hy.lst_
  subst e1 e2
  cases rv
  cases ru
  obtain ⟨its, r1, t1, _⟩ := I.list hq1
  obtain ⟨its', r2, t2, _⟩ := I.list hq2
  obtain ⟨hz, q⟩ := q
  have l1 := hd1.len
  have l2 := hd2.len
  have m1 := r1.length
  have m2 := r2.length
  have hf : H s.heap.objs.size = none := I.hok.fresh (zAG _)
  refine we t1.isList t2.isList (by omega) ?_
  exact ⟨.ref s.heap.objs.size, L2.upd H s.heap.objs.size (.lst (vs ++ vs')), _, I.laid (t' := s.toks) (fun b u e => zAA _ e) (zAG _) ⟨by rw [zAg]; omega, its ++ its', 0, r1.append r2, zAD _ rfl⟩, rfl, ah.upd hf, Den.lst (tZ tr hf) (.new ax (Inv.kfresh I)) ((hd1.append hd2).same (ah.upd hf)), q⟩
def okI (x : D) : Prop := okD x /\ (pyD x).depth < 64
def vq : RD2 := fun x y Q => okI x /\ okD y /\ ∃ ys, (y = .tup ys ∨ ∃ t, y = .lst t ys) /\ Q (.bl (ys.any fun z => eqD z x))
theorem qu (x : D) (t : Bool) (ys : List D) (Q : D -> Prop) : vq x (.lst t ys) Q = (okI x /\ okD (.lst t ys) /\ Q (.bl (ys.any fun z => eqD z x))) := by
 apply propext
 constructor
 ·rintro ⟨h1, h2, zs, e, q⟩
  rcases e with e | ⟨_, e⟩
  ·cases e
  ·cases e; exact ⟨h1, h2, q⟩
 ·rintro ⟨h1, h2, q⟩
  exact ⟨h1, h2, ys, .inr ⟨t, rfl⟩, q⟩
theorem qv (x : D) (ys : List D) (Q : D -> Prop) : vq x (.tup ys) Q = (okI x /\ okD (.tup ys) /\ Q (.bl (ys.any fun z => eqD z x))) := by
 apply propext
 constructor
 ·rintro ⟨h1, h2, zs, e, q⟩
  rcases e with e | ⟨_, e⟩
  ·cases e; exact ⟨h1, h2, q⟩
  ·cases e
 ·rintro ⟨h1, h2, q⟩
  exact ⟨h1, h2, ys, .inl rfl, q⟩
theorem nF (i : Int) : okI (.int i) = True := eq_true ⟨nC i, by rw [pyD, PyData.depth]; decide⟩
theorem nG : okI .non = True := eq_true ⟨nD, by rw [pyD, PyData.depth]; decide⟩
end
def kwG {α : Type} (us ws : List α) : List α := match ws with
 | [w] => us ++ [w]
 | _ => []
theorem tY {vs zs : List V} {us ws : List Value} (r : Vals vs us) (rz : Vals zs ws) : Vals (kwG vs zs) (kwG us ws) := by
 cases rz with
 | nil => exact .nil
 | cons a b =>
  cases b with
  | nil => exact r.append (.cons a .nil)
  | cons c d => exact .nil
def gP (P : Program) (w : World) (K : PySem.W.Frag) (mg : Str -> Option Value) (base : Heap) (x : Str) (k : Nat) (ps : List Str) (kn : Str) (sp : DSp) : Prop :=
 ∃ f fd, aC P w K mg base (CX1 P w) k f fd ps (aG K sp) /\ mg x = some (.ref f) /\ PySem.W.keepIn K (.ref f) = true /\ Binds K fd ps [] /\ Binds K fd ps [.none] /\ ph K fd ps [kn] kwG kwG
theorem gP.full {P : Program} {w : World} {K : PySem.W.Frag} {mg : Str -> Option Value} {base : Heap} {x : Str} {k : Nat} {ps : List Str} {kn : Str} {sp : DSp} (h : gP P w K mg base x k ps kn sp) : Has P w K mg base x k ps sp := by
 obtain ⟨f, fd, F, hm, hk, hb, _⟩ := h
 exact ⟨f, fd, F, hm, hk, hb⟩
def PKD (X : Cx) (kws : List Keyword) (t : DA) : Prop :=
 ∀ (pos : Pos) (pins : List (Addr × Obj)) (s : Shared) (σ : St) (H : Hp) (W : Own) (ρ : Ro) (Q : List D -> Prop), Inv X pins σ H s -> Rel X W H σ ρ -> t ρ Q →
  wpAny (model X.prog X.w) X.A (evalAll ((backToKw pos (keywordEach kws X.env)).map (·.2))) (DAP X pins σ W H Q) X.xe s
section
variable {X : Cx} {k : Nat} {ps : List Str} {kn : Str} {sp : DSp} {x : Str} {p pos kpos : Pos} {e : Expr} {es : List Expr} {t tk : DA} {te : DE} {nm : Option Str} {kws : List Keyword}
theorem pS (h : gP X.prog X.w X.K X.mg X.base x k ps kn sp) (hr : aW k X.A) (ha : PAD X (e :: es) t) (hg : Gl X x := by rfl) (hdb : (x == ("__debug__" : Str)) = false := by decide)
  (he : starEach (e :: es) X.env = (false, eval e X.env) :: starEach es X.env := by rfl) (hpl : (backTo pos (starEach es X.env)).any (·.1) = false := by rfl) : PED X (.Call (.Name x p) (e :: es) [] pos) (je sp [.non] t) := by
 obtain ⟨f, fd, F, hm, hk, _, hb, _⟩ := h
 exact lu (dds := [.non]) (dsv := [.none]) F hr hg hm hk hb (.cons rfl .nil) (by intro d hd; simp at hd; subst hd; exact True.intro) jv ha hdb he hpl
def pE (sp : DSp) (t tk : DA) : DE := fun ρ Q => t ρ fun ds => tk ρ fun es => ∃ d, es = [d] /\ sp (aF (ds ++ [d])) Q fun _ => False
theorem p6 (a : D) (R : D -> Prop) : (∃ d, [a] = [d] /\ R d) = R a := by
 apply propext
 constructor
 ·rintro ⟨_, e, q⟩; cases e; exact q
 ·intro q; exact ⟨a, rfl, q⟩
def pD (sp : DSp) (t : DA) : DA := fun ρ Q => t ρ fun ds => sp (aF ds) (fun d => ∃ ys, d = .lst true ys /\ kO ys = true /\ Q ys) fun _ => False
end
end PD
namespace PD
open PySem PySem.Spec PyProof.Rows L2
def da : Key -> D
 | .inl i => .int i
 | .inr x => .str x
section
variable {κ : Type} [DecidableEq κ] {K : PySem.W.Frag} {P : Bool -> Addr -> Prop} {H : Hp}
def bf (kvs : List (κ × D)) (k : κ) : Option D := (kvs.find? fun kv => decide (kv.1 = k)).map (·.2)
def putD (kvs : List (κ × D)) (k : κ) (d : D) : List (κ × D) := if (bf kvs k).isSome = true then kvs.map (fun kv => if kv.1 = k then (kv.1, d) else kv) else kvs ++ [(k, d)]
theorem oP (p : κ × D) (r : List (κ × D)) (k : κ) : bf (p :: r) k = if p.1 = k then some p.2 else bf r k := by
 unfold bf
 rw [zAo]
 by_cases e : p.1 = k
 ·rw [if_pos e, decide_eq_true e]; rfl
 ·rw [if_neg e, decide_eq_false e]
theorem i0 : ∀ {kvs : List (κ × D)} {kws : List (κ × V)} {k : κ}, kws.map (·.1) = kvs.map (·.1) -> af K P H (kvs.map (·.2)) (kws.map (·.2)) -> match bf kvs k with | some d => ∃ v, bO kws k = some v /\ Den K P H d v | none => bO kws k = none
 | [], kws, k, e, _ => by
  have : kws = [] := by simpa using e
  subst this
  exact sM
 | p :: r, [], k, e, _ => by simp at e
 | p :: r, q :: s, k, e, h => by
  simp only [zAF, zAB] at e
  simp only [zAF, af] at h
  obtain ⟨v, u, e1, h1, h2⟩ := h
  simp only [zAB] at e1
  obtain ⟨e1, e2⟩ := e1
  subst e2
  rw [oP]
  by_cases z : p.1 = k
  ·rw [if_pos z, gG (e.1.trans z)]
   exact ⟨v, by rw [e1], h1⟩
  ·rw [if_neg z, gF (fun y => z (e.1.symm.trans y))]
   exact i0 e.2 h2
theorem iG {kvs : List (κ × D)} {kws : List (κ × V)} {k : κ} {d : D} (e : kws.map (·.1) = kvs.map (·.1)) (h : af K P H (kvs.map (·.2)) (kws.map (·.2))) (l : bf kvs k = some d) : ∃ v, bO kws k = some v /\ Den K P H d v := by
 have := i0 (k := k) e h
 rw [l] at this
 exact this
theorem sj {kvs : List (κ × D)} {kws : List (κ × V)} {k : κ} (e : kws.map (·.1) = kvs.map (·.1)) (h : af K P H (kvs.map (·.2)) (kws.map (·.2))) (l : bf kvs k = none) : bO kws k = none := by
 have := i0 (k := k) e h
 rw [l] at this
 exact this
theorem mB {kvs : List (κ × D)} {kws : List (κ × V)} {k : κ} (e : kws.map (·.1) = kvs.map (·.1)) (h : af K P H (kvs.map (·.2)) (kws.map (·.2))) : (bO kws k).isSome = (bf kvs k).isSome := by
 cases l : bf kvs k with
 | none => rw [sj e h l]; rfl
 | some d =>
  obtain ⟨v, q, _⟩ := iG e h l
  rw [q]; rfl
theorem mj : ∀ {kvs : List (κ × D)} {kws : List (κ × V)} {k : κ} {d : D} {v : V}, kws.map (·.1) = kvs.map (·.1) -> af K P H (kvs.map (·.2)) (kws.map (·.2)) -> Den K P H d v →
  (kws.map fun kv => if kv.1 = k then (kv.1, v) else kv).map (·.1) = (kvs.map fun kv => if kv.1 = k then (kv.1, d) else kv).map (·.1) /\ af K P H ((kvs.map fun kv => if kv.1 = k then (kv.1, d) else kv).map (·.2)) ((kws.map fun kv => if kv.1 = k then (kv.1, v) else kv).map (·.2))
 | [], kws, k, d, v, e, _, _ => by
  have : kws = [] := by simpa using e
  subst this
  exact ⟨rfl, af.nil⟩
 | p :: r, [], k, d, v, e, _, _ => by simp at e
 | p :: r, q :: s, k, d, v, e, h, hd => by
  simp only [zAF, zAB] at e
  simp only [zAF, af] at h
  obtain ⟨v', u, e1, h1, h2⟩ := h
  simp only [zAB] at e1
  obtain ⟨e1, e2⟩ := e1
  subst e2
  obtain ⟨i1, i2⟩ := mj (k := k) e.2 h2 hd
  rw [zAF, zAF, zAF, zAF, zAF, zAF]
  by_cases z : p.1 = k
  ·rw [if_pos z, if_pos (e.1.trans z)]
   exact ⟨by rw [i1, e.1], af.cons hd i2⟩
  ·rw [if_neg z, if_neg (fun y => z (e.1.symm.trans y))]
   exact ⟨by rw [i1, e.1], af.cons (by rw [e1]; exact h1) i2⟩
theorem nJ {kvs : List (κ × D)} {kws : List (κ × V)} {k : κ} {d : D} {v : V} (e : kws.map (·.1) = kvs.map (·.1)) (h : af K P H (kvs.map (·.2)) (kws.map (·.2))) (hd : Den K P H d v) :
  (putK kws k v).map (·.1) = (putD kvs k d).map (·.1) /\ af K P H ((putD kvs k d).map (·.2)) ((putK kws k v).map (·.2)) := by
 unfold putK putD
 rw [dj, mB e h]
 by_cases z : (bf kvs k).isSome = true
 ·rw [if_pos z, if_pos z]
  exact mj e h hd
 ·rw [if_neg z, if_neg z, zAW, zAW, zAW, zAW, e]
  exact ⟨rfl, h.append (af.one hd)⟩
end
theorem jN {K : PySem.W.Frag} {P : Bool -> Addr -> Prop} {H : Hp} {k : Key} {v : V} (h : Den K P H (da k) v) : v = kV k := by
 cases k with
 | inl i => exact h.int_
 | inr x => exact h.str_
theorem dE {K : PySem.W.Frag} {P : Bool -> Addr -> Prop} {H : Hp} : ∀ {ks : List Key} {vs : List V}, af K P H (ks.map da) vs -> vs = ks.map kV
 | [], _, h => by simpa only [zAi, af] using h
 | k :: r, _, h => by
  simp only [zAF, af] at h
  obtain ⟨v, u, e, h1, h2⟩ := h
  rw [e, jN h1, dE h2]
  rfl
theorem mf : ∀ (ks : List Key) (ps : List (V × V)), ps.map (·.1) = ks.map kV -> ps = (ks.zip (ps.map (·.2))).map fun kv => (kV kv.1, kv.2)
 | [], ps, e => by
  have : ps = [] := by simpa using e
  subst this; rfl
 | k :: r, [], e => by simp at e
 | k :: r, p :: q, e => by
  simp only [zAF, zAB] at e
  rw [zAF, List.zip_cons_cons, zAF, <- mf r q e.2, <- e.1]
theorem qI {more : List (Key × V)} : ∀ {kvs : List (Key × V)}, (kvs.map (·.1) ++ more.map (·.1)).Nodup -> jq kvs more = kvs ++ more := by
 induction more with
 | nil => intro kvs _; show kvs = kvs ++ []; rw [zAd]
 | cons p r ih =>
  intro kvs h
  show jq (putK kvs p.1 p.2) r = _
  have hn : bO kvs p.1 = none := by
   cases q : bO kvs p.1 with
   | none => rfl
   | some x =>
    have ha : (kvs.any fun kv => decide (kv.1 = p.1)) = true := by rw [dj, q]; rfl
    obtain ⟨kv, hm, he⟩ := List.any_eq_true.mp ha
    have := (List.nodup_append.mp h).2.2 kv.1 (List.mem_map_of_mem hm) p.1 (by simp)
    exact absurd (of_decide_eq_true he) this
  rw [sx p.2 hn, ih (by rw [zAW]; simpa using h)]
  simp
def PPD (X : Cx) (pos : Pos) (keys : List (Option Expr)) (values : List Expr) (t : Ro -> (List (D × D) -> Prop) -> Prop) : Prop :=
 ∀ (pins : List (Addr × Obj)) (s : Shared) (σ : St) (H : Hp) (W : Own) (ρ : Ro) (Q : List (D × D) -> Prop), Inv X pins σ H s -> Rel X W H σ ρ -> t ρ Q →
  wpAny (model X.prog X.w) X.A (evalPairs (pairTrees keys values X.env pos)) (fun vs s' => ∃ ps H' ds, Inv X pins σ H' s' /\ VV ps vs /\ ah H H' /\ af X.K W.bad H' (ds.map (·.1)) (ps.map (·.1)) /\ af X.K W.bad H' (ds.map (·.2)) (ps.map (·.2)) /\ Q ds) X.xe s
section
variable {X : Cx} {pos : Pos}
def oF : Ro -> (List (D × D) -> Prop) -> Prop := fun _ Q => Q []
def lB (tk tv : DE) (t : Ro -> (List (D × D) -> Prop) -> Prop) : Ro -> (List (D × D) -> Prop) -> Prop := fun ρ Q => tk ρ fun k => tv ρ fun v => t ρ fun r => Q ((k, v) :: r)
theorem uO : PPD X pos [] [] oF := fun pins s σ H W ρ Q I r h => pairTrees_nil_walk ⟨[], H, [], I, .nil, ah.refl H, af.nil, af.nil, h⟩
theorem jO {k v : Expr} {ks : List (Option Expr)} {vs : List Expr} {tk tv : DE} {t : Ro -> (List (D × D) -> Prop) -> Prop} (hk : PED X k tk) (hv : PED X v tv) (hr : PPD X pos ks vs t) : PPD X pos (some k :: ks) (v :: vs) (lB tk tv t) := by
 intro pins s σ H W ρ Q I r h
 refine pairTrees_cons_walk (thn (hk pins s σ H W ρ _ I r h) fun u s1 ⟨x, H1, dx, I1, rx, e1, hx, q1⟩ => thn (hv pins s1 σ H1 W ρ _ I1 (r.same e1) q1) fun w2 s2 ⟨y, H2, dy, I2, ry, e2, hy, q2⟩ =>
  thn (hr pins s2 σ H2 W ρ _ I2 ((r.same e1).same e2) q2) fun ws s3 ⟨ps, H3, ds, I3, rel, e3, h1, h2, q3⟩ => ?_)
 exact ⟨(x, y) :: ps, H3, (dx, dy) :: ds, I3, .cons ⟨rx, ry⟩ rel, e1.trans (e2.trans e3), af.cons (hx.same (e2.trans e3)) h1, af.cons (hy.same e3) h2, q3⟩
theorem af.apartD {K : PySem.W.Frag} {P : Bool -> Addr -> Prop} {H : Hp} {a : Addr} {o o' : HO} {ds : List D} {us : List V} (n : H a = some o) (m : (∀ xs, o ≠ .lst xs) /\ (∀ xs, o ≠ .tup xs) /\ (∀ b u, o ≠ .frz b u) /\ ¬ Sol o) (k : K.lookup a = none) (h : af K P H ds us) : af K (fun t b => P t b ∨ b = a) (L2.upd H a o') ds us := by
 have hT : ∀ b ws, SqT K H b ws -> SqT K (L2.upd H a o') b ws := fun b ws q => by
  show L2.upd _ _ _ _ = _
  rw [aq (dn q n fun z => m.2.1 _ z.symm)]
  exact q
 refine af.map hT (fun t b ws p q => ?_) (fun b u v q => by rw [aq (dn q n fun z => m.2.2.2 (z ▸ v))]; exact q) ds us h
 have hne : b ≠ a := fun z => by
  subst z
  rcases q.1 with (q | ⟨u, q⟩) | ⟨u, its, j, q, _⟩
  ·rw [n] at q; exact m.1 _ (zAT q)
  ·rw [n] at q; exact m.2.2.1 _ _ (zAT q)
  ·rw [k] at q; cases q
 refine ⟨fun z => z.elim p hne, ?_, fun z => ⟨by rw [aq hne]; exact (q.2 z).1, (q.2 z).2⟩⟩
 rcases q.1 with (q | ⟨u, q⟩) | q
 ·exact .inl (.inl (by rw [aq hne]; exact q))
 ·exact .inl (.inr ⟨u, by rw [aq hne]; exact q⟩)
 ·exact .inr q
def lr (i : Nat) (t : Ro -> (List (D × D) -> Prop) -> Prop) : DS := fun E ρ => t ρ fun ps => ∃ kvs : List (Key × D), ps = kvs.map (fun kv => (da kv.1, kv.2)) /\ kvs.length <= 15 /\ (kvs.map (·.1)).Nodup /\ E.nx (ρ.set i (some (.ob (.dk kvs))))
theorem rP {x : Str} {pos' dpos : Pos} {keys : List (Option Expr)} {values : List Expr} {t : Ro -> (List (D × D) -> Prop) -> Prop} (i : Nat) (hN : X.N.Nodup) (h : PPD X dpos keys values t) (hi : X.N[i]? = some x := by rfl) (hall : keys.all (·.isSome) = true := by rfl) (hl : keys.length = values.length := by rfl) (h0 : keys ≠ [] := by simp)
  (h15 : keys.length <= 15 := by decide) (hx : Loc X.env.scope x := by first | exact Or.inl rfl | exact Or.inr rfl) (hs : swapsWith (.Dict keys values dpos) (some (.Name x pos')) pos.line X.env = pure false := by rfl)
  (hf : X.fn x = true ∨ X.env.scope.names.lookup x = some .local := by first | exact .inl rfl | exact .inr rfl | assumption) : PSD X (.Assign [.Name x pos'] (.Dict keys values dpos) pos) (lr i t) := by
 intro pins s σ H W ρ E I r hq
 have hn := I.hok.fresh (zAG s.heap.objs.size)
 have hkn := Inv.kfresh I
 have I1 := I.laid (a := s.heap.objs.size) (o := .dK []) (h' := s.heap.push { cls := .type "dict", data := .dict #[] }) (t' := s.toks) (fun _ _ q => zAA _ q) (zAG _) (rM s.heap I.big)
 refine wpAny_Assign_Name (wpAny_Dict_walk (knd := aQ X.prog X.w) hall hl h0 h15 (thn (h pins _ σ _ W ρ _ I1 (r.same (ah.upd hn)) hq) fun ws s2 ⟨ps, H2, ds, I2, rel, sm, d1, d2, kvs, ek, lk, nd, q⟩ => ?_)) hs
 subst ek
 have e := sm _ _ (ax (H := H) (a := s.heap.objs.size) (o := .dK []))
 have hk1 : ps.map (·.1) = (kvs.map (·.1)).map kV := dE (by
  have : (kvs.map fun kv => (da kv.1, kv.2)).map (·.1) = (kvs.map (·.1)).map da := by simp [zAz, Function.comp_def]
  rw [this] at d1
  exact d1)
 have d2' : af X.K W.bad H2 (kvs.map (·.2)) (ps.map (·.2)) := by
  have : (kvs.map fun kv => (da kv.1, kv.2)).map (·.2) = kvs.map (·.2) := by simp [zAz, Function.comp_def]
  rw [this] at d2
  exact d2
 have hlen : (kvs.map (·.1)).length = (ps.map (·.2)).length := by have := d2'.len; simp at this; simp [this]
 have ep := mf _ ps hk1
 generalize hkw : (kvs.map (·.1)).zip (ps.map (·.2)) = kws at ep
 have f1 : kws.map (·.1) = kvs.map (·.1) := by rw [<- hkw, List.map_fst_zip (Nat.le_of_eq hlen)]
 have f2 : kws.map (·.2) = ps.map (·.2) := by rw [<- hkw, List.map_snd_zip (Nat.le_of_eq hlen.symm)]
 rw [ep] at rel
 obtain ⟨rs, c, rk⟩ := jc (P := X.prog) (w := X.w) rel
 obtain ⟨z, hd, vs0, r0, dd⟩ := tj I2.hok e
 cases r0
 refine ⟨rs, c, dd, fun h' dd' hsb => ?_⟩
 have lkw : kws.length = kvs.length := by have := congrArg List.length f1; simpa using this
 have hm : jq [] kws = kws := by rw [qI (by rw [f1]; simpa using nd)]; rfl
 have hz : kws.length <= sizeLine := by rw [lkw, sizeLine_eq]; omega
 have he : ∃ q, h'.get? s.heap.objs.size = some q := let ⟨q, _, _, hq, _⟩ := dd'; ⟨q, hq⟩
 have I3 := fO (t' := s2.toks + ws.length) I2 (by rw [e]; exact True.intro) hsb he (pX (kvs := kws) hz hd (by rw [<- hm]; exact rk.merge .nil) dd')
 have rp := r.putG (x := .dk kvs) (Inv.ilt I2 hi) (H' := L2.upd H2 s.heap.objs.size (.dK kws)) (((ah.upd hn).trans sm).ins hn e True.intro True.intro) hn hkn ax
  (.dk f1 (by rw [f2]; exact af.apartD e ⟨(fun _ z => by cases z), (fun _ z => by cases z), (fun _ _ z => by cases z), fun z => z⟩ hkn d2'))
 exact eY (v := .ref s.heap.objs.size) I3 hN hi hx rfl (fun s3 I4 => ⟨_, _, _, I4, rp.2, _, rp.1, q⟩) hf
theorem Rel.ownK {W : Own} {H : Hp} {σ : St} {ρ : Ro} (r : Rel X W H σ ρ) {i : Nat} {kvs : List (Key × D)} (h : ρ[i]? = some (some (.ob (.dk kvs)))) : ∃ a kws, W.O i = some a /\ σ[i]? = some (some (.ref a)) /\ H a = some (.dK kws) /\ kws.map (·.1) = kvs.map (·.1) /\ af X.K W.bad H (kvs.map (·.2)) (kws.map (·.2)) := by
 obtain ⟨a, o, h1, h2, h3, h4⟩ := r.own i _ h
 cases h4 with
 | dk e h5 => exact ⟨a, _, h1, h2, h3, e, h5⟩
def rn (i : Nat) (tb : DE) : DE := fun ρ Q => ∃ kvs, ρ[i]? = some (some (.ob (.dk kvs))) /\ tb ρ fun k => ∃ key d, k = da key /\ bf kvs key = some d /\ Q d
theorem lx {x : Str} {px : Pos} {b : Expr} {tb : DE} (i : Nat) (hu : X.A.units + 1 < cLine) (hb : PED X b tb) (hN : X.N[i]? = some x := by rfl) (hv : Vis X.env.scope x := by first | exact Or.inl rfl | exact Or.inr (Or.inl rfl) | exact Or.inr (Or.inr rfl)) (hd : (x == ("__debug__" : Str)) = false := by decide)
  (hcd : (x == ("__classdict__" : Str)) = false := by decide) (hs : rf b := by intro _ _; rfl) : PED X (.Subscript (.Name x px) b pos) (rn i tb) := by
 refine PED.of (ug hu (dH hN hv hd hcd) hb.pe hs) fun σ H W ρ Q r h => ?_
 obtain ⟨kvs, eo, h⟩ := h
 obtain ⟨a, kws, oa, sa, ha, e, hden⟩ := r.ownK eo
 refine ⟨.ref a, sa, W, ρ, _, r, h, fun v H1 d e1 hd q => ?_⟩
 obtain ⟨key, d', rfl, l, q⟩ := q
 obtain ⟨v', l', hv'⟩ := iG e hden l
 have := jN hd
 subst this
 refine ⟨a, v', rfl, ?_, e1, d', hv'.same e1, q⟩
 rw [<- l']
 exact gO.k (e1 _ _ ha)
def n6 (i : Nat) (tk te : DE) : DS := fun E ρ => ∃ kvs, ρ[i]? = some (some (.ob (.dk kvs))) /\ tk ρ fun k => ∃ key n, k = da key /\ bf kvs key = some (.int n) /\ te ρ fun d => ∃ m, d = .int m /\ kvs.length < sizeLine /\ E.nx (ρ.set i (some (.ob (.dk (putD kvs key (.int (n + m)))))))
theorem tP {x : Str} {px tpos : Pos} {b e : Expr} {tb te : DE} (i : Nat) (hu : X.A.units + 1 < cLine) (hb : PED X b tb) (he : PED X e te) (hN : X.N[i]? = some x := by rfl) (hv : Vis X.env.scope x := by first | exact Or.inl rfl | exact Or.inr (Or.inl rfl) | exact Or.inr (Or.inr rfl)) (hd : (x == ("__debug__" : Str)) = false := by decide)
  (hcd : (x == ("__classdict__" : Str)) = false := by decide) (ha : ∀ ov iv new, augStore b ov iv new = (do holding [new, ov, iv] (setItem ov iv new); release [new, ov, iv] []; pure .next) := by intros; rfl) : PSD X (.AugAssign (.Subscript (.Name x px) b tpos) .Add e pos) (n6 i tb te) := by
 refine PSD.of (ui hu (dH hN hv hd hcd) hb.pe he.pe qt ha) fun σ H W ρ E r hl h => ?_
 obtain ⟨kvs, eo, h⟩ := h
 obtain ⟨a, kws, oa, sa, ha, ek, hden⟩ := r.ownK eo
 refine ⟨.ref a, sa, W, ρ, _, r, h, fun v H1 d e1 hd q => ?_⟩
 obtain ⟨key, n, rfl, l, q⟩ := q
 obtain ⟨v', l', hv'⟩ := iG ek hden l
 have z1 := jN hd
 have z2 := hv'.int_
 subst z1 z2
 refine ⟨a, _, rfl, by rw [<- l']; exact gO.k (e1 _ _ ha), W, ρ, _, r.same e1, q, fun v2 H2 d2 e2 hd2 q2 => ?_⟩
 obtain ⟨m, rfl, hz, q2⟩ := q2
 have z3 := hd2.int_
 subst z3
 have lz : kws.length < sizeLine := by have := congrArg List.length ek; simp at this; omega
 have ha2 := e2 _ _ (e1 _ _ ha)
 obtain ⟨p1, p2⟩ := nJ (k := key) ek (hden.same (e1.trans e2)) (Den.int (n + m))
 obtain ⟨r2, f2⟩ := ((r.same e1).same e2).mutG eo oa sa ha2 True.intro (.dk p1 p2)
 exact ⟨n, m, rfl, rfl, _, kT.k ha2 lz, W, _, (Fwd.same (e1.trans e2)).trans f2, r2, q2⟩
end
end PD
namespace PD
open PySem PySem.Spec PyProof.Rows L2
theorem qe (kvs : List (Key × D)) (r : Ro) (R : List (Key × D) -> Prop) : (∃ ys, (some (Sl.ob (.dk kvs)) :: r)[0]? = some (some (Sl.ob (.dk ys))) /\ R ys) = R kvs := by
 apply propext
 constructor
 ·rintro ⟨_, e, q⟩
  have e' : some (some (Sl.ob (.dk kvs))) = some (some (Sl.ob (.dk _))) := e
  cases e'
  exact q
 ·intro q; exact ⟨kvs, rfl, q⟩
theorem qg (n : Nat) (x : Option Sl) (r : Ro) (R : List (Key × D) -> Prop) : (∃ ys, (x :: r)[n + 1]? = some (some (Sl.ob (.dk ys))) /\ R ys) = (∃ ys, r[n]? = some (some (Sl.ob (.dk ys))) /\ R ys) := rfl
theorem nP (t : Bool) (xs : List D) (R : List D -> Prop) : (∃ k ds, bU (.lst t xs) = some (k, ds) /\ R ds) = R xs := by
 apply propext
 constructor
 ·rintro ⟨_, _, e, q⟩; cases e; exact q
 ·intro q; exact ⟨_, _, rfl, q⟩
theorem nQ (xs : List D) (R : List D -> Prop) : (∃ k ds, bU (.tup xs) = some (k, ds) /\ R ds) = R xs := by
 apply propext
 constructor
 ·rintro ⟨_, _, e, q⟩; cases e; exact q
 ·intro q; exact ⟨_, _, rfl, q⟩
theorem iM {a b : D} {k1 k2 : Bool} {xs ys : List D} (h1 : bU a = some (k1, xs)) (h2 : bU b = some (k2, ys)) (R : List D -> Prop) : (∃ d1 d2 k1 k2 us vs, [a, b] = [d1, d2] /\ bU d1 = some (k1, us) /\ bU d2 = some (k2, vs) /\ R (List.zipWith (fun x y => D.tup [x, y]) us vs)) = R (List.zipWith (fun x y => D.tup [x, y]) xs ys) := by
 apply propext
 constructor
 ·rintro ⟨_, _, _, _, _, _, e, e1, e2, q⟩
  cases e
  rw [h1] at e1
  rw [h2] at e2
  cases e1
  cases e2
  exact q
 ·intro q; exact ⟨_, _, _, _, _, _, rfl, h1, h2, q⟩
theorem qY (t u : Bool) (xs ys : List D) (R : List D -> Prop) : (∃ d1 d2 k1 k2 us vs, [D.lst t xs, D.lst u ys] = [d1, d2] /\ bU d1 = some (k1, us) /\ bU d2 = some (k2, vs) /\ R (List.zipWith (fun x y => D.tup [x, y]) us vs)) = R (List.zipWith (fun x y => D.tup [x, y]) xs ys) := iM rfl rfl R
theorem q0 (u : Bool) (xs ys : List D) (R : List D -> Prop) : (∃ d1 d2 k1 k2 us vs, [D.tup xs, D.lst u ys] = [d1, d2] /\ bU d1 = some (k1, us) /\ bU d2 = some (k2, vs) /\ R (List.zipWith (fun x y => D.tup [x, y]) us vs)) = R (List.zipWith (fun x y => D.tup [x, y]) xs ys) := iM rfl rfl R
theorem qZ (u : Bool) (xs ys : List D) (R : List D -> Prop) : (∃ d1 d2 k1 k2 us vs, [D.lst u xs, D.tup ys] = [d1, d2] /\ bU d1 = some (k1, us) /\ bU d2 = some (k2, vs) /\ R (List.zipWith (fun x y => D.tup [x, y]) us vs)) = R (List.zipWith (fun x y => D.tup [x, y]) xs ys) := iM rfl rfl R
theorem q5 (xs ys : List D) (R : List D -> Prop) : (∃ d1 d2 k1 k2 us vs, [D.tup xs, D.tup ys] = [d1, d2] /\ bU d1 = some (k1, us) /\ bU d2 = some (k2, vs) /\ R (List.zipWith (fun x y => D.tup [x, y]) us vs)) = R (List.zipWith (fun x y => D.tup [x, y]) xs ys) := iM rfl rfl R
theorem mU (b : Bool) : gc (.bl b) = true := by rw [gc] <;> (intros; contradiction)
theorem kX (b : Int) : gc (.int b) = true := by rw [gc] <;> (intros; contradiction)
theorem kY : gc .non = true := by rw [gc] <;> (intros; contradiction)
theorem gR {ds : List D} {k : Int} {Q : D -> Prop} (h0 : 0 <= k) (h1 : k < ds.length) (h : ∀ d ∈ ds, Q d) : ∃ d, atI ds k = some d /\ Q d := by
 have e : k = ((k.toNat : Nat) : Int) := by omega
 have hl : k.toNat < ds.length := by omega
 refine ⟨ds[k.toNat], ?_, h _ (List.getElem_mem hl)⟩
 have q : atI ds ((k.toNat : Nat) : Int) = some ds[k.toNat] := cZ (by simp)
 rw [<- e] at q
 exact q
theorem comp_map {α : Type} {wi : DA} {js : List Nat} {tc : DT} {te : DE} {ρ : Ro} {Q : D -> Prop} (xs : List α) (f : α -> D) (c : α -> Bool) (g : α -> D) (hw : ∀ R : List D -> Prop, R (xs.map f) -> wi ρ R) (hz : xs.length <= sizeLine)
  (hc : ∀ x ∈ xs, ∀ K : Bool -> Prop, K (c x) -> tc (some (.val (f x)) :: js.map (bu ρ)) K) (he : ∀ x ∈ xs, c x = true -> ∀ K : D -> Prop, K (g x) -> te (some (.val (f x)) :: js.map (bu ρ)) K) (q : Q (.lst true ((xs.filter c).map g))) : kK wi js tc te ρ Q := by
 refine hw _ ⟨by rw [zAJ]; exact hz, fun j out => out = ((xs.take j).filter c).map g, by simp, fun j d out hd ho => ?_, fun out ho => ?_⟩
 ·rw [zAQ] at hd
  cases ex : xs[j]? with
  | none => rw [ex] at hd; cases hd
  | some x =>
   rw [ex] at hd
   cases hd
   have hm : x ∈ xs := zAM ex
   have ht : xs.take (j + 1) = xs.take j ++ [x] := by rw [zAr, ex]; rfl
   refine hc x hm _ ?_
   by_cases z : c x = true
   ·rw [if_pos z]
    refine he x hm z _ ?_
    show _ = List.map g (List.filter c (List.take (j + 1) xs))
    rw [ht, ho, List.filter_append, zAW]
    simp [z]
   ·rw [if_neg z]
    show _ = List.map g (List.filter c (List.take (j + 1) xs))
    rw [ht, ho, List.filter_append]
    simp [z]
 ·rw [zAJ, zAx (zAG _)] at ho
  rw [ho]; exact q
theorem nh {α : Type} {wi : DA} {g : DG} {tb : DS} {E : d4} {ρ : Ro} (xs : List α) (f : α -> D) (Pv : List α -> Ro -> Prop) (hw : ∀ R : List D -> Prop, R (xs.map f) -> wi ρ R) (p0 : Pv [] ρ)
  (turn : ∀ (done : List α) (x : α) (ρ' : Ro), x ∈ xs -> done.length < xs.length -> Pv done ρ' -> g (f x) ρ' fun ρ2 => tb { E with nx := Pv (done ++ [x]), ct := Pv (done ++ [x]), bk := E.nx } ρ2) (fin : ∀ ρ', Pv xs ρ' -> E.nx ρ') : n9 wi g tb E ρ := by
 refine hw _ ⟨fun j => Pv (xs.take j), by simpa using p0, fun j d ρ' hd hp => ?_, fun ρ' hp => fin ρ' (by rw [zAJ, zAx (zAG _)] at hp; exact hp)⟩
 rw [zAQ] at hd
 cases ex : xs[j]? with
 | none => rw [ex] at hd; cases hd
 | some x =>
  rw [ex] at hd
  cases hd
  have hj := (zAI.mp ex).1
  have ht : xs.take (j + 1) = xs.take j ++ [x] := by rw [zAr, ex]; rfl
  show g (f x) ρ' fun ρ2 => tb { E with nx := Pv (xs.take (j + 1)), ct := Pv (xs.take (j + 1)), bk := E.nx } ρ2
  rw [ht]
  exact turn (xs.take j) x ρ' (zAM ex) (by rw [zAs]; omega) hp
end PD
namespace PD
open PySem PySem.Spec PyProof.Rows L2
structure OkN (n : Nat) (d : D) : Prop where
 pl : plD d = true
 lay : (pyD d).canLay0 = true
 dp : (pyD d).depth <= n
structure eB (n : Nat) (ds : List D) : Prop where
 pl : gs ds = true
 lay : PyData.canLayAll0 (bH ds) = true
 dp : PyData.depthAll (bH ds) <= n
theorem OkN.ok {n : Nat} {d : D} (h : OkN n d) (hn : n <= 64 := by decide) : okD d := ⟨h.pl, by
 unfold SeqAt.shaped
 rw [h.lay, decide_eq_true (zAa h.dp hn)]
 rfl⟩
theorem OkN.int (n : Nat) (i : Int) : OkN n (.int i) := ⟨by rw [plD] <;> (intros; contradiction), by rw [pyD, PyData.canLay0], by rw [pyD, PyData.depth]; exact zAZ _⟩
theorem eB.nil (n : Nat) : eB n [] := ⟨by rw [gs], by rw [bH, PyData.canLayAll0], by rw [bH, PyData.depthAll]; exact zAZ _⟩
theorem eB.cons {n : Nat} {d : D} {ds : List D} (h : OkN n d) (h' : eB n ds) : eB n (d :: ds) := ⟨by rw [gs, h.pl, h'.pl]; rfl, by rw [bH, PyData.canLayAll0, h.lay, h'.lay]; rfl, by
 rw [bH, PyData.depthAll]
 exact Nat.max_le.mpr ⟨h.dp, h'.dp⟩⟩
theorem eB.of {n : Nat} : ∀ {ds : List D}, (∀ d ∈ ds, OkN n d) -> eB n ds
 | [], _ => .nil n
 | d :: r, h => .cons (h d zAO) (eB.of fun x hx => h x (zAK _ hx))
theorem OkN.tup {n : Nat} {ds : List D} (h : eB n ds) : OkN (n + 1) (.tup ds) := ⟨by rw [plD]; exact h.pl, by rw [pyD, PyData.canLay0]; exact h.lay, by rw [pyD, PyData.depth]; exact Nat.succ_le_succ h.dp⟩
theorem OkN.lst {n : Nat} {t : Bool} {ds : List D} (h : eB n ds) : OkN (n + 1) (.lst t ds) := ⟨by rw [plD]; exact h.pl, by rw [pyD, PyData.canLay0]; exact h.lay, by rw [pyD, PyData.depth]; exact Nat.succ_le_succ h.dp⟩
theorem OkN.map {α : Type} {n : Nat} {t : Bool} {f : α -> D} {xs : List α} (h : ∀ x, OkN n (f x)) : OkN (n + 1) (.lst t (xs.map f)) := OkN.lst (eB.of fun d hd => by
 obtain ⟨x, _, rfl⟩ := List.mem_map.mp hd
 exact h x)
def dM (xs ys : List D) : Bool := PyData.eqvAll (bH xs) (bH ys)
theorem jR (t u : Bool) (xs ys : List D) : eqD (.lst t xs) (.lst u ys) = dM xs ys := by unfold eqD dM; rw [pyD, pyD, PyData.eqv]
theorem tU (xs ys : List D) : eqD (.tup xs) (.tup ys) = dM xs ys := by unfold eqD dM; rw [pyD, pyD, PyData.eqv]
theorem rS : dM [] [] = true := by unfold dM; rw [bH, PyData.eqvAll]
theorem p4 (x y : D) (xs ys : List D) : dM (x :: xs) (y :: ys) = (eqD x y && dM xs ys) := by unfold dM eqD; rw [bH, bH, PyData.eqvAll]
theorem tV (y : D) (ys : List D) : dM (y :: ys) [] = false := by unfold dM; rw [bH, bH, PyData.eqvAll]
theorem tT (x y : Str) : eqD (.str x) (.str y) = (x == y) := by unfold eqD; rw [pyD, pyD, PyData.eqv]
theorem tS : eqD .non .non = true := by unfold eqD; rw [pyD, PyData.eqv]
mutual
theorem lF : ∀ d : D, eqD d d = true
 | .non => tS
 | .bl b => by rw [lD]; simp
 | .int i => by rw [jQ]; simp
 | .str x => by rw [tT]; simp
 | .exc _ => by unfold eqD; rw [pyD, PyData.eqv]
 | .obj _ _ _ => by unfold eqD; rw [pyD, PyData.eqv]
 | .tup ds => by rw [tU]; exact e6 ds
 | .lst t ds => by rw [jR]; exact e6 ds
theorem e6 : ∀ ds : List D, dM ds ds = true
 | [] => rS
 | d :: r => by rw [p4, lF d, e6 r]; rfl
end
theorem lE (t u : Bool) (xs : List D) : eqD (.lst t xs) (.lst u xs) = true := by rw [jR]; exact e6 xs
end PD
namespace PD
open PySem PySem.Spec PyProof.Rows L2
section
variable {X : Cx} {a b c : Expr} {ta tb tc : DE} {pos : Pos}
def pG (r r' : RD2) (ta tb tc : DE) : DE := fun ρ Q => ta ρ fun x => tb ρ fun y => r x y fun z => ∃ k, z = .bl k /\ if k = true then tc ρ fun u => r' y u Q else Q (.bl false)
def pH (ti : DE) : DA := fun ρ R => ti ρ fun d => ∃ ds, d = .tup ds /\ R ds
theorem qz (xs : List D) (R : List D -> Prop) : (∃ ds, D.tup xs = .tup ds /\ R ds) = R xs := by
 apply propext
 constructor
 ·rintro ⟨_, e, q⟩; cases e; exact q
 ·intro q; exact ⟨xs, rfl, q⟩
variable {e : Expr} {te : DE} {lo hi : Option Expr} {tl th : DO} {p2 : Pos}
theorem ja {K : PySem.W.Frag} {fd : FuncData} {ps : List Str} (h : ∀ (s : Shared) (us : List Value), K.In s.heap -> us.length = ps.length -> BindsTo s fd ⟨us, []⟩ (ps.zip us)) : Binds K fd ps [] := fun s us kin hl => by
 rw [zAd] at hl ⊢
 exact h s us kin hl
theorem i9 {K : PySem.W.Frag} {fd : FuncData} {ps : List Str} (n : Nat) (hp : ps.length = n + 1) (h : ∀ (s : Shared) (us : List Value), K.In s.heap -> us.length = n -> BindsTo s fd ⟨us, []⟩ (ps.zip (us ++ [.none]))) : Binds K fd ps [.none] := fun s us kin hl => h s us kin (by
 rw [zAg, hp] at hl
 simpa using hl)
theorem jn {K : PySem.W.Frag} {fd : FuncData} {ps : List Str} {kn : Str} (n : Nat) (hp : ps.length = n + 1) (h : ∀ (s : Shared) (us : List Value) (w : Value), K.In s.heap -> us.length = n -> BindsTo s fd ⟨us, [(kn, w)]⟩ (ps.zip (us ++ [w]))) : ph K fd ps [kn] kwG kwG := ⟨fun s us ws kin hl => by
 cases ws with
 | nil =>
  have hl' : 0 = ps.length := hl
  omega
 | cons w r =>
  cases r with
  | nil =>
   have hl' : (us ++ [w]).length = ps.length := hl
   rw [zAg, hp] at hl'
   exact h s us w kin (by simpa using hl')
  | cons _ _ =>
   have hl' : 0 = ps.length := hl
   omega, tY⟩
end
section
variable {X : Cx} {pos : Pos}
end
end PD
namespace PD
open PySem PySem.Spec PyProof.Rows L2
section
variable {K : PySem.W.Frag} {P : Bool -> Addr -> Prop} {H : Hp} {B : Nat -> Option Addr}
end
section
variable {X : Cx} {pos : Pos}
def PFL (X : Cx) (i : Nat) (es : List Expr) (t : Ro -> (List (List D) -> Prop) -> Prop) : Prop :=
 ∀ (pos : Pos) (pins : List (Addr × Obj)) (s : Shared) (σ : St) (H : Hp) (W : Own) (ρ : Ro) (k : Nat) (Q : List (List D) -> Prop), Inv X pins σ H s -> Rel X W H σ ρ -> i < σ.length -> ρ[i]? = some none -> t ρ Q →
  wpAny (model X.prog X.w) X.A (spliced (backTo pos (starEach es X.env))) (fun us s' => ∃ vs H' W' xss, Inv X pins σ H' s' /\ Vals vs us /\ ah H H' /\ Rel X W' H' σ ρ /\ Fwd W H W' H' /\ cF X.K W'.bad H' (W'.sub σ.length i) k (xss.map LI.own) vs /\ (∀ l, l < k -> W'.sub σ.length i l = W.sub σ.length i l) /\ Q xss) X.xe s
def tf : Ro -> (List (List D) -> Prop) -> Prop := fun _ Q => Q []
def pV (ta : DA) (t : Ro -> (List (List D) -> Prop) -> Prop) : Ro -> (List (List D) -> Prop) -> Prop := fun ρ Q => ta ρ fun x => t ρ fun xs => Q (x :: xs)
def pJ (i : Nat) (t : Ro -> (List (List D) -> Prop) -> Prop) : DS := fun E ρ => ρ[i]? = some none /\ t ρ fun xss => xss.length <= sizeLine /\ E.nx (ρ.set i (some (.ob (.ll (xss.map LI.own)))))
def kR : LI -> D
 | .own ds => .lst false ds
 | .val d => d
variable {e : Expr} {te : DE} {tt : DT} {ta : DA}
def pN (i : Nat) (t : DE) : DE := fun ρ Q => ∃ xs, ρ[i]? = some (some (.ob (.ll xs))) /\ t (ρ.set i (some (.val (.lst false (xs.map kR))))) fun d => gc d = true /\ Q d
def mZ (i : Nat) (t : DT) : DT := fun ρ Q => ∃ xs, ρ[i]? = some (some (.ob (.ll xs))) /\ t (ρ.set i (some (.val (.lst false (xs.map kR))))) Q
def pL (i : Nat) (tc tk te : DE) : DS := fun E ρ => ∃ xs, ρ[i]? = some (some (.ob (.ll xs))) /\ te ρ fun d => tc ρ fun c => ∃ n m ds, c = .int n /\ ixN xs.length n = some m /\ xs[m]? = some (.own ds) /\ tk ρ fun k => ∃ l j, k = .int l /\ ixN ds.length l = some j /\ E.nx (ρ.set i (some (.ob (.ll (xs.set m (.own (ds.set j d)))))))
end
theorem qb (xs : List LI) (r : Ro) (R : List LI -> Prop) : (∃ ys, (some (Sl.ob (.ll xs)) :: r)[0]? = some (some (Sl.ob (.ll ys))) /\ R ys) = R xs := by
 apply propext
 constructor
 ·rintro ⟨_, e, q⟩
  have e' : some (some (Sl.ob (.ll xs))) = some (some (Sl.ob (.ll _))) := e
  cases e'
  exact q
 ·intro q; exact ⟨xs, rfl, q⟩
theorem qc (n : Nat) (x : Option Sl) (r : Ro) (R : List LI -> Prop) : (∃ ys, (x :: r)[n + 1]? = some (some (Sl.ob (.ll ys))) /\ R ys) = (∃ ys, r[n]? = some (some (Sl.ob (.ll ys))) /\ R ys) := rfl
theorem qo (r : Ro) : ((none :: r)[0]? = some (none : Option Sl)) = True := eq_true rfl
theorem qp (n : Nat) (x : Option Sl) (r : Ro) : ((x :: r)[n + 1]? = some (none : Option Sl)) = (r[n]? = some none) := rfl
theorem tD {α : Type} (x : α) (xs : List α) (R : Nat -> Prop) : (∃ m, ixN (x :: xs).length 0 = some m /\ R m) = R 0 := by
 have e : ixN (x :: xs).length 0 = some 0 := by unfold ixN; simp
 apply propext
 constructor
 ·rintro ⟨_, h, q⟩
  rw [e] at h
  cases h
  exact q
 ·intro q; exact ⟨0, e, q⟩
theorem tE {α : Type} (x y : α) (xs : List α) (R : Nat -> Prop) : (∃ m, ixN (x :: y :: xs).length 1 = some m /\ R m) = R 1 := by
 have e : ixN (x :: y :: xs).length 1 = some 1 := by unfold ixN; simp; omega
 apply propext
 constructor
 ·rintro ⟨_, h, q⟩
  rw [e] at h
  cases h
  exact q
 ·intro q; exact ⟨1, e, q⟩
theorem u5 (ds : List D) (r : List LI) (R : List D -> Prop) : (∃ es, (LI.own ds :: r)[0]? = some (LI.own es) /\ R es) = R ds := by
 apply propext
 constructor
 ·rintro ⟨_, e, q⟩
  have e' : some (LI.own ds) = some (LI.own _) := e
  cases e'
  exact q
 ·intro q; exact ⟨ds, rfl, q⟩
theorem u6 (n : Nat) (x : LI) (r : List LI) (R : List D -> Prop) : (∃ es, (x :: r)[n + 1]? = some (LI.own es) /\ R es) = (∃ es, r[n]? = some (LI.own es) /\ R es) := rfl
end PD
namespace PD
open PySem PySem.Spec PyProof.Rows L2
section
variable {X : Cx} {pins : List (Addr × Obj)} {σ : St} {H : Hp} {s : Shared} {sc : Scope} {ns : List Str} {js : List Nat} {x : Str}
end
section
variable {X : Cx} {pins : List (Addr × Obj)} {σ : St} {H : Hp}
structure wH (X : Cx) (pins : List (Addr × Obj)) (H : Hp) (s : Shared) (l f S I : Addr) (fo : Obj) (j : Nat) (vb : Value) (k : Int) : Prop where
 fo : s.heap.get? f = some fo
 ff : cJ X pins H f
 so : ∃ tb n, s.heap.get? S = some (seqObj "list" #[vb, .int k tb] n)
 sf : cJ X pins H S
 io : s.heap.IsListIter I l j
 jf : cJ X pins H I
 fS : f ≠ S
 fI : f ≠ I
 SI : S ≠ I
 lI : l ≠ I
end
section
variable {X : Cx} {sc : Scope} {ns : List Str} {js : List Nat} {x : Str} {pos : Pos}
def mY (te : DE) (js : List Nat) (tb : DE) : DE := fun ρ Q => te ρ fun d => ∃ (t : Bool) (ds : List D) (kf : Nat -> Int), d = .lst t ds /\ 0 < ds.length /\ (∀ i x, ds[i]? = some x -> tb (some (.val x) :: js.map (bu ρ)) fun r => r = .int (kf i)) /\ ∀ i x, ds[i]? = some x -> (∀ j, j < ds.length -> kf i <= kf j /\ (j < i -> kf i < kf j)) -> Q x
end
end PD
namespace PD
open PySem PySem.Spec PyProof.Rows L2
section
variable {X : Cx} {pos : Pos}
def mW (i : Nat) (te : DE) : DS := fun E ρ => ∃ ds, ρ[i]? = some (some (.own ds)) /\ te ρ fun d => ∃ xs, d = .lst true xs /\ ds.length + xs.length <= sizeLine /\ E.nx (ρ.set i (some (.own (ds ++ xs))))
end
section
variable {prog : Program} {w : World} {A : Around} {E : Value -> Shared -> Prop} {s : Shared}
end
section
variable {X : Cx} {pos : Pos}
theorem Rel.ownT {W : Own} {H : Hp} {σ : St} {ρ : Ro} (r : Rel X W H σ ρ) {i : Nat} {kvs : List (List Key × D)} (h : ρ[i]? = some (some (.ob (.dt kvs)))) : ∃ a kws, W.O i = some a /\ σ[i]? = some (some (.ref a)) /\ H a = some (.dT kws) /\ kws.map (·.1) = kvs.map (·.1) /\ af X.K W.bad H (kvs.map (·.2)) (kws.map (·.2)) := by
 obtain ⟨a, o, h1, h2, h3, h4⟩ := r.own i _ h
 cases h4 with
 | dt e h5 => exact ⟨a, _, h1, h2, h3, e, h5⟩
def pI (i : Nat) : DS := fun E ρ => E.nx (ρ.set i (some (.ob (.dt []))))
def PEK (X : Cx) (e : Expr) (t : DE) : Prop :=
 ∀ (pins : List (Addr × Obj)) (s : Shared) (σ : St) (H : Hp) (W : Own) (ρ : Ro) (Q : D -> Prop), Inv X pins σ H s -> Rel X W H σ ρ -> t ρ Q →
  wpAny (model X.prog X.w) X.A (eval e X.env) (fun u s' => ∃ b vs H' ds, u = .ref b /\ Inv X pins σ H' s' /\ ah H H' /\ H' b = some (.tup vs) /\ af X.K W.bad H' ds vs /\ Q (.tup ds)) X.xe s
def sU (i : Nat) (tk te : DE) : DS := fun E ρ => ∃ kvs, ρ[i]? = some (some (.ob (.dt kvs))) /\ te ρ fun d => tk ρ fun k => ∃ ks : List Key, k = .tup (ks.map da) /\ kvs.length < sizeLine /\ E.nx (ρ.set i (some (.ob (.dt (putD kvs ks d)))))
def sR (i : Nat) : DE := fun ρ Q => ∃ kvs, ρ[i]? = some (some (.ob (.dt kvs))) /\ Q (.int (kvs.length : Int))
end
theorem p9 (kvs : List (List Key × D)) (r : Ro) (R : List (List Key × D) -> Prop) : (∃ ys, (some (Sl.ob (.dt kvs)) :: r)[0]? = some (some (Sl.ob (.dt ys))) /\ R ys) = R kvs := by
 apply propext
 constructor
 ·rintro ⟨ys, e, q⟩
  simp only [List.getElem?_cons_zero, Option.some.injEq, Sl.ob.injEq, OS.dt.injEq] at e
  subst e
  exact q
 ·intro q; exact ⟨kvs, rfl, q⟩
theorem qa (n : Nat) (x : Option Sl) (r : Ro) (R : List (List Key × D) -> Prop) : (∃ ys, (x :: r)[n + 1]? = some (some (Sl.ob (.dt ys))) /\ R ys) = (∃ ys, r[n]? = some (some (Sl.ob (.dt ys))) /\ R ys) := rfl
theorem tq (ys : List D) (R : List D -> Prop) : (∃ xs, D.lst true ys = .lst true xs /\ R xs) = R ys := by
 apply propext
 constructor
 ·rintro ⟨xs, e, q⟩
  cases e
  exact q
 ·intro q; exact ⟨ys, rfl, q⟩
theorem bR {α : Type} {wi : DA} {g : DG} {tb : DS} {E : d4} {ρ : Ro} (xs : List α) (f : α -> D) (Pv : Nat -> Ro -> Prop) (hw : ∀ R : List D -> Prop, R (xs.map f) -> wi ρ R) (p0 : Pv 0 ρ)
  (turn : ∀ (j : Nat) (x : α) (ρ' : Ro), xs[j]? = some x -> Pv j ρ' -> g (f x) ρ' fun ρ2 => tb { E with nx := Pv (j + 1), ct := Pv (j + 1), bk := E.nx } ρ2) (fin : ∀ ρ', Pv xs.length ρ' -> E.nx ρ') : n9 wi g tb E ρ := by
 refine hw _ ⟨Pv, p0, fun j d ρ' hd hp => ?_, fun ρ' hp => fin ρ' (by rw [zAJ] at hp; exact hp)⟩
 rw [zAQ] at hd
 cases ex : xs[j]? with
 | none => rw [ex] at hd; cases hd
 | some x =>
  rw [ex] at hd
  cases hd
  exact turn j x ρ' ex hp
end PD
namespace PD
open PySem PySem.Spec PyProof.Rows L2
def bP (h : Heap) (d : Addr) (us : List Value) (ep : Nat) : Prop := ∃ o es, h.get? d = some o /\ o.data = .dict es ep /\ es.toList.map (·.val) = us
theorem bP.of {h h' : Heap} {d : Addr} {us : List Value} {ep : Nat} (x : bP h d us ep) (k : ∀ o, h.get? d = some o -> h'.get? d = some o) : bP h' d us ep := let ⟨o, es, e, r⟩ := x; ⟨o, es, k o e, r⟩
theorem bP.lt {h : Heap} {d : Addr} {us : List Value} {ep : Nat} (x : bP h d us ep) : d < h.objs.size := let ⟨_, _, e, _⟩ := x; zAC e
theorem bP.size {us : List Value} {es : Array DictEntry} (e : es.toList.map (·.val) = us) : es.size = us.length := by rw [<- e]; simp
section
variable {prog : Program} {w : World} {A : Around} {E : Value -> Shared -> Prop} {s : Shared} {d v it : Addr} {us : List Value} {ep i : Nat}
theorem jb {Q : Value -> Shared -> Prop} (hd : (d == sysModules) = false) (hT : s.TypeIs (.ref d) "dict") (h : Q (.ref s.heap.objs.size) { s with heap := s.heap.push { cls := .type "dict_values", data := .fields #[.ref d] } }) :
  wpAny (model prog w) A (call (.builtin "dict.values") [.ref d]) Q E s := by
 have ml : MeetsIn prog w (Builtin.«dict.values» ⟨[.ref d], []⟩) (fun _ R s => s.TypeIs (.ref d) "dict" /\ R (.ok (.ret (.ref s.heap.objs.size))) { s with heap := s.heap.push { cls := .type "dict_values", data := .fields #[.ref d] } }) := .of_wp fun A R s ⟨t, h⟩ => by
  refine wpAny_bind ?_; unfold Builtin.Dict.noArgs; refine wpAny_bind (wpAny_notOrdered_dict t ?_); show wpAny _ _ (pure d) _ _ s
  refine wpAny_pure ?_; show wpAny _ _ (Builtin.Dict.showsAll d >>= _) _ _ s; unfold Builtin.Dict.showsAll; rw [if_neg (by rw [hd]; exact zAE)]
  exact wpAny_bind (wpAny_pure (wpAny_bind (wpAny_newObj_type (wpAny_pure ⟨_, rfl, h⟩))))
 exact call_meetsIn F.slot_dict_values hT F.entry_dict_values (F.args_dict_values_1 _) ml ⟨hT, h⟩
theorem rX {Q : Value -> Shared -> Prop} (hv : s.heap.IsValuesView v d) (hm : bP s.heap d us ep) (hQ : Q (.ref s.heap.objs.size) { s with heap := s.heap.push { cls := .type "dict_valueiterator", data := .fields #[.ref d, .int 0 0, .int us.length 0, .int ep 0] } }) :
  wpAny (model prog w) A (pyIter (.ref v)) Q E s := by
 obtain ⟨ov, hov, hcv, hdv⟩ := id hv
 obtain ⟨o, es, ho, hdat, he⟩ := hm
 have hsz := bP.size he
 refine wpAny_pyIter_slot hv.typeIs F.slot_dict_values_iter (wpAny_call_entry F.slot_dict_values_iter hv.typeIs F.entry_dict_values_iter ?_ (F.args_dict_values_iter_1 _))
 unfold Builtin.«dict_values.__iter__»; refine wpAny_bind (wpAny_pure (wpAny_bind ?_))
 unfold Builtin.Dict_items.dictOf; refine wpAny_bind (wpAny_field hov hdv (x := .ref d) rfl (wpAny_pure (wpAny_bind ?_)))
 unfold Builtin.Dict_items.newIterator; refine wpAny_bind (wpAny_dictEntries ho hdat (wpAny_bind (wpAny_dictEpoch ho hdat ?_)))
 simp only [show Builtin.Dict_items.ownsTuple "dict_valueiterator" = false by decide, zAb, if_false]
 exact wpAny_newObj_type (wpAny_pure ⟨_, rfl, "dict_valueiterator", _, ⟨_, zAD _ rfl, rfl⟩, F.slot_dict_valueiterator_next.lookup, by simpa [rawInt, hsz] using hQ⟩)
theorem si {x : Value} {Q : Option Value -> Shared -> Prop} (hit : s.heap.IsValIter it d i us.length ep) (hm : bP s.heap d us ep) (hx : us[i]? = some x)
  (hQ : ∀ h', h'.IsValIter it d (i + 1) us.length ep -> Heap.SameBut it s.heap h' -> Q (some x) { s with heap := h' }) : wpAny (model prog w) A (pyNext (.ref it)) Q E s := by
 obtain ⟨o, ho, hc, hd⟩ := id hit
 obtain ⟨od, es, hod, hdd, he⟩ := hm
 have hsz := bP.size he
 obtain ⟨hlt, _⟩ := zAI.mp hx
 have hlt' : i < es.size := by rw [hsz]; exact hlt
 have hval : es[i].val = x := by
  have z : (es.toList.map (·.val))[i]? = some x := by rw [he]; exact hx
  simpa [hlt'] using z
 have two : wpAny (model prog w) A (pyNext (.ref it)) Q E s := by
  unfold pyNext; refine wpAny_bind (wpAny_attempt (wpAny_callSpecial?_slot (name := Str.ofString "__next__") hit.typeIs F.slot_dict_valueiterator_next (wpAny_call_entry F.slot_dict_valueiterator_next hit.typeIs F.entry_dict_valueiterator_next ?_ (F.args_dict_valueiterator_next_1 _))))
  refine wpAny_bind (wpAny_pure (wpAny_bind (wpAny_bind ?_))); (first | refine wpAny_bind (wpAny_typeNameOfWhole_valiter hit.typeIs (wpAny_pure ?_)) | refine wpAny_bind (wpAny_typeNameOf_valiter hit.typeIs (wpAny_pure ?_)))
  refine wpAny_bind (wpAny_fieldsOf ho hd ?_); simp only [show Builtin.Dict_items.ownsTuple "dict_valueiterator" = false by decide, zAb, if_false]
  show wpAny _ _ (if (Value.ref d == Value.none) = true then _ else _) _ _ s; rw [if_neg (show ¬ ((Value.ref d == Value.none) = true) from zAE)]
  refine wpAny_bind (wpAny_pure (wpAny_bind (wpAny_dictEntries hod hdd ?_))); rw [if_neg (by rw [hsz]; simp)]
  refine wpAny_bind (wpAny_pure (wpAny_bind (wpAny_dictEpoch hod hdd ?_))); rw [if_neg (by simp)]; refine wpAny_pure ?_
  simp only [show ¬ ((i : Int) < 0) from by omega, if_false, zAy, Array.getElem?_eq_getElem hlt']; refine wpAny_bind ?_
  (first | refine wpAny_bind (wpAny_typeNameOfWhole_valiter hit.typeIs (wpAny_pure ?_)) | refine wpAny_bind (wpAny_typeNameOf_valiter hit.typeIs (wpAny_pure ?_))); refine wpAny_bind (wpAny_isOneOf_valiter hit.typeIs ?_)
  show wpAny _ _ (setField (.ref it) 1 (rawInt ((i : Int) + 1)) >>= _) _ _ s; refine wpAny_bind (wpAny_setField ho hd (by simp) ?_)
  have hit' : (s.heap.update it (Obj.mapFields (·.setIfInBounds 1 (rawInt ((i : Int) + 1))))).IsValIter it d (i + 1) us.length ep := ⟨_, Heap.get?_update_self _ ho (Obj.isFreed_of_fields (Obj.data_mapFields hd _)), (Obj.cls_mapFields ..).trans hc, by rw [Obj.data_mapFields hd]; simp [rawInt]⟩
  refine wpAny_bind (wpAny_holding (wpAny_bind (wpAny_isOneOf_valiter (s := { s with heap := s.heap.update it (Obj.mapFields (·.setIfInBounds 1 (rawInt ((i : Int) + 1)))) }) hit'.typeIs ?_)))
  refine wpAny_bind (wpAny_isOneOf_valiter (s := { s with heap := s.heap.update it (Obj.mapFields (·.setIfInBounds 1 (rawInt ((i : Int) + 1)))) }) hit'.typeIs ?_); show wpAny _ _ (pure es[i].val) _ _ _
  exact wpAny_pure (wpAny_pure ⟨_, rfl, wpAny_pure (hval ▸ hQ _ hit' (Heap.SameBut.update ..))⟩)
 exact two
theorem sI {Q : Option Value -> Shared -> Prop} (hh : A.handled = none) (hit : s.heap.IsValIter it d us.length us.length ep) (hm : bP s.heap d us ep) (hQ : ∀ h', Heap.ExtBut it s.heap h' -> Q none { s with heap := h' }) : wpAny (model prog w) A (pyNext (.ref it)) Q E s := by
 obtain ⟨o, ho, hc, hd⟩ := id hit
 obtain ⟨od, es, hod, hdd, he⟩ := hm
 have hsz := bP.size he
 unfold pyNext; refine wpAny_bind (wpAny_attempt (wpAny_callSpecial?_slot (name := Str.ofString "__next__") hit.typeIs F.slot_dict_valueiterator_next (wpAny_call_entry F.slot_dict_valueiterator_next hit.typeIs F.entry_dict_valueiterator_next ?_ (F.args_dict_valueiterator_next_1 _))))
 refine wpAny_bind (wpAny_pure (wpAny_bind (wpAny_bind ?_))); (first | refine wpAny_bind (wpAny_typeNameOfWhole_valiter hit.typeIs (wpAny_pure ?_)) | refine wpAny_bind (wpAny_typeNameOf_valiter hit.typeIs (wpAny_pure ?_)))
 refine wpAny_bind (wpAny_fieldsOf ho hd ?_); simp only [show Builtin.Dict_items.ownsTuple "dict_valueiterator" = false by decide, zAb, if_false]
 show wpAny _ _ (if (Value.ref d == Value.none) = true then _ else _) _ _ s; rw [if_neg (show ¬ ((Value.ref d == Value.none) = true) from zAE)]
 refine wpAny_bind (wpAny_pure (wpAny_bind (wpAny_dictEntries hod hdd ?_))); rw [if_neg (by rw [hsz]; simp)]
 refine wpAny_bind (wpAny_pure (wpAny_bind (wpAny_dictEpoch hod hdd ?_))); rw [if_neg (by simp)]; refine wpAny_pure ?_
 simp only [show ¬ ((us.length : Int) < 0) from by omega, if_false, zAy, Array.getElem?_eq_none (show es.size <= us.length by omega)]; refine wpAny_bind ?_
 (first | refine wpAny_bind (wpAny_typeNameOfWhole_valiter hit.typeIs (wpAny_pure ?_)) | refine wpAny_bind (wpAny_typeNameOf_valiter hit.typeIs (wpAny_pure ?_))); show wpAny _ _ (setField (.ref it) 0 .none >>= _) _ _ s; refine wpAny_bind (wpAny_setField ho hd (by simp) ?_)
 show wpAny _ _ (newExc (.type "StopIteration") [] >>= _) _ _ _; refine wpAny_bind ?_; simp only [newExc, newTuple]; refine wpAny_bind (wpAny_newObj_type ?_ (by size_fits))
 refine wpAny_bind (m := firstArgMember _ _) (wpAny_of_eq (a := Value.none) (by first | rfl | (simp only [firstArgMember]; rfl)) ?_); refine wpAny_newObj_type ?_ (by size_fits); simp only [raiseNew]; refine wpAny_bind (wpAny_handled ?_)
 rw [show A.in1.handled = none from hh]; refine wpAny_bind (wpAny_pure (wpAny_throw ?_)); refine wpAny_bind (wpAny_isInstance (T := "StopIteration") (b := true) ⟨_, zAD _ rfl, rfl⟩ isSubtype_stop ?_)
 exact wpAny_pure (hQ _ (((Heap.SameBut.update ..).extBut.push _).push _))
theorem qV (hh : A.handled = none) (I d : Addr) (hne : d ≠ I) (us : List Value) (ep : Nat) : Walks prog w A I [I, d] [I] us.length (fun i v => us[i]? = some v) (fun i h => h.IsValIter I d i us.length ep /\ bP h d us ep) where
 sub := fun b hb => by simp at hb; simp [hb]
 frame := fun _ _ _ st hk => ⟨let ⟨o, ho, r⟩ := st.1; ⟨o, hk I (by simp) o ho, r⟩, st.2.of fun o e => hk d (by simp) o e⟩
 item := fun i s Q E hi st hQ => by
  have hx : us[i]? = some us[i] := by simp [hi]
  exact si st.1 st.2 hx fun h' hit' hs' => hQ _ h' s.toks hx ⟨hit', st.2.of fun o e => hs'.extBut d o hne e⟩ fun b o hb e => hs'.extBut b o (fun h => hb (by simp [h])) e
 done := fun s Q E st hQ => sI hh st.1 st.2 fun h' he' => hQ h' s.toks fun b o hb e => he' b o (fun h => hb (by simp [h])) e
 self := fun _ _ _ _ st hQ => wpAny_pyIter_valiter st.1 hQ
theorem uv : PySem.W.KdlSrc prog w "dict_values" v d us.length (fun i x => us[i]? = some x) (fun h => h.IsValuesView v d /\ bP h d us ep) where
 type := fun _ hm => hm.1.typeIs
 there := fun _ hm => ⟨let ⟨_, ho, _⟩ := hm.1; zAC ho, hm.2.lt⟩
 keep := fun _ _ hm hk => ⟨let ⟨o, ho, x⟩ := hm.1; ⟨o, hk v (.inl rfl) o ho, x⟩, hm.2.of fun o e => hk d (.inr rfl) o e⟩
 notList := by decide
 notTuple := by decide
 hint := fun _ _ _ _ hm hq => PySem.W.kdl_hint_values hm.1.typeIs hq
 iter := fun _ _ hh hm => ⟨_, _, (fun _ _ hq => rX hm.1 hm.2 hq), qV hh _ d (zAP hm.2.lt) us ep, ⟨⟨_, zAD _ rfl, rfl, rfl⟩, hm.2.of fun o e => zAA _ e⟩⟩
end
end PD
namespace PD
open PySem PySem.Spec PyProof.Rows L2
section
variable {X : Cx} {pos : Pos}
def vwO (d p : Addr) : HO := .ext fun h => h.IsValuesView p d
theorem qJ : MtR X "dict.values" (fun x xs H Q => ∃ a kvs, x = .ref a /\ xs = [] /\ H a = some (.dT kvs) /\ ∀ p, H p = none -> Q (.ref p) (L2.upd H p (vwO a p))) := by
 intro pins s σ H x xs v us Q I rx rs h
 obtain ⟨a, kvs, rfl, rfl, ha, q⟩ := h
 cases rx
 cases rs
 obtain ⟨z, hd, ys, rel, dd⟩ := gk I.hok ha
 refine jb hd dd.typeIs ⟨.ref s.heap.objs.size, _, I.laid (t' := s.toks) (o := vwO a s.heap.objs.size) (fun b u e => zAA _ e) (zAG _) ?_, rfl, q _ (I.hok.fresh (zAG _))⟩
 exact ⟨⟨_, zAD _ rfl, rfl, rfl⟩, ⟨_, zAD _ rfl⟩, fun h1 h2 ⟨o, ho, r⟩ k => ⟨o, k o ho, r⟩⟩
theorem nu {H : Hp} : ∀ {kvs : List (List Key × V)} {xs : List (List Key × Addr × Value)}, KT H kvs xs -> Vals (kvs.map (·.2)) (xs.map (·.2.2))
 | _, _, .nil => .nil
 | _, _, .cons h t => .cons h.2.2 (nu t)
theorem jF (hc : X.calm = true) : iA X (.type "list") (fun xs H Q => ∃ p d kvs, xs = [.ref p] /\ H p = some (vwO d p) /\ H d = some (.dT kvs) /\ ∀ l, H l = none -> Q (.ref l) (L2.upd H l (.lst (kvs.map (·.2))))) := by
 intro pins s σ H xs us Q I r h
 obtain ⟨p, d, kvs, rfl, hp, hd, q⟩ := h
 obtain ⟨u, rfl, rx⟩ := vals1 r
 cases rx
 obtain ⟨z, _, ys, rel, o, es, ep, h1, h2, h3, h4, _⟩ := gk I.hok hd
 have lk : ys.length = kvs.length := (Paired.length rel).symm
 have raw : bP s.heap d (ys.map (·.2.2)) ep := ⟨o, es, h1, h3, by rw [h4, zAz]; rfl⟩
 have vw : s.heap.IsValuesView p d := (show aI X.prog X.w H s.heap p (vwO d p) from I.hok p _ hp).1
 refine PySem.W.kdl_call (uv (ep := ep) (us := ys.map (·.2.2))) (I.ok.hd hc) ⟨vw, raw⟩ (by rw [zAJ, lk]; exact z) fun h' tk acc c kp hS hi => ?_
 have ea : acc.toList = ys.map (·.2.2) := by
  apply List.ext_getElem?
  intro j
  cases e : acc.toList[j]? with
  | some y => exact (hi.2 j y (by rw [<- Array.getElem?_toList]; exact e)).symm
  | none =>
   have l1 := zAq.mp e
   rw [zAt, hi.1] at l1
   exact (zAq.mpr l1).symm
 have hv := nu rel
 rw [<- ea] at hv
 exact ⟨.ref s.heap.objs.size, _, I.laid (t' := tk) kp (zAG _) (show aI X.prog X.w _ h' _ (.lst (kvs.map (·.2))) from ⟨by rw [zAJ]; exact z, acc.toList, c, hv, by simpa using hS⟩), rfl, q _ (I.hok.fresh (zAG _))⟩
def oz (i : Nat) : DA := fun ρ Q => ∃ kvs, ρ[i]? = some (some (.ob (.dt kvs))) /\ Q (kvs.map (·.2))
theorem pW {x : Str} {p px apos cpos : Pos} (i : Nat) (hc : X.calm = true) (hg : Gl X "list") (hm : X.mg "list" = none) (hN : X.N[i]? = some x := by rfl) (hv : Vis X.env.scope x := by first | exact Or.inl rfl | exact Or.inr (Or.inl rfl) | exact Or.inr (Or.inr rfl)) (hd : (x == ("__debug__" : Str)) = false := by decide)
  (hcd : (x == ("__classdict__" : Str)) = false := by decide) (hbase : attributeBase (.Name x px) "values" X.env (eval (.Name x px) X.env) = eval (.Name x px) X.env := by rfl) (hline : (apos.endLine == cpos.line) = true := by rfl)
  (hst : starEach [.Call (.Attribute (.Name x px) "values" apos) [] [] cpos] X.env = (false, eval (.Call (.Attribute (.Name x px) "values" apos) [] [] cpos) X.env) :: starEach [] X.env := by rfl) (hpl : (backTo pos (starEach [] X.env)).any (·.1) = false := by rfl) :
  PEF X (.Call (.Name "list" p) [.Call (.Attribute (.Name x px) "values" apos) [] [] cpos] [] pos) (oz i) := by
 refine PEF.of (kr (jF hc) hg hm boot_list (bL (vj PySem.F.plainAttrs_dict PySem.F.slot_dict_values PySem.F.type_dict_values qJ (dH hN hv hd hcd) hbase hline) eI hst) (by decide) (by decide) hst hpl) (fun σ H W ρ Q r h => ?_) fun _ _ _ _ _ _ I h => Inv.kno I h
 obtain ⟨kvs, eo, q⟩ := h
 obtain ⟨a, kws, oa, sa, ha, ek, hden⟩ := r.ownT eo
 refine ⟨.ref a, sa, .inr (.inr (.inl ⟨rfl, .inr ⟨kws, ha⟩⟩)), a, kws, rfl, rfl, ha, fun b hb => ?_⟩
 have sm : ah H (L2.upd H b (vwO a b)) := ah.upd hb
 exact ⟨b, a, kws, rfl, ax, sm _ _ ha, fun l hl => ⟨l, _, _, _, rfl, sm, hl, rfl, hden.same sm, q⟩⟩
end
section
variable {X : Cx} {pos : Pos}
theorem lR {pins : List (Addr × Obj)} {σ : St} {H : Hp} {s : Shared} {a : Addr} {ks : List Key} (I : Inv X pins σ H s) (h : SqT X.K H a (ks.map kV)) : (tupleKind (aQ X.prog X.w)).is s.heap ks a := by
 obtain ⟨its, r, ⟨o, e, hc, n, hd⟩, _⟩ := I.tuple h.w
 exact ⟨o, its.toArray, n, e, hc, hd, by simpa using gX r⟩
def n8 (i : Nat) (ta : DE) : DE := fun ρ Q => ∃ kvs, ρ[i]? = some (some (.ob (.dt kvs))) /\ ta ρ fun k => ∃ ks : List Key, k = .tup (ks.map da) /\ Q (.bl (bf kvs ks).isSome)
theorem tQ {x : Str} {px : Pos} {e : Expr} {ta : DE} (i : Nat) (hu : X.A.units + 1 < cLine) (he : PED X e ta) (hN : X.N[i]? = some x := by rfl) (hv : Vis X.env.scope x := by first | exact Or.inl rfl | exact Or.inr (Or.inl rfl) | exact Or.inr (Or.inr rfl)) (hd : (x == ("__debug__" : Str)) = false := by decide)
  (hcd : (x == ("__classdict__" : Str)) = false := by decide) (hm : behindInMarks .In (.Name x px) = false := by rfl) : PTD X (.Compare e [.In] [.Name x px] pos) (dB (n8 i ta)) := by
 intro pins s σ H W ρ Q I r h
 obtain ⟨kvs, eo, h⟩ := h
 refine wpAny_isTrue_Compare1 (thn (he pins s σ H W ρ _ I r h) fun vv s1 ⟨v, H1, k, I1, rv, e1, hk, ks, ek, kk, ekk', q⟩ => ?_) hm
 subst ek
 cases ekk'
 obtain ⟨b, vs, ev, hq, hds⟩ := hk.tup_
 subst ev
 cases rv
 have := dE hds
 subst this
 obtain ⟨a, kws, oa, sa, ha, ekk, hden⟩ := (r.same e1).ownT eo
 refine thn (dH hN hv hd hcd pins s1 σ H1 (fun v H' => v = .ref a /\ H' = H1) I1 ⟨.ref a, sa, rfl, rfl⟩) fun u s2 ⟨y, H2, I2, ry, ey, eH⟩ => ?_
 subst ey eH
 cases ry
 obtain ⟨z, hsm, xs, rel, dd⟩ := gk I2.hok ha
 refine wpAny_in_heap (tupleKind_room_in1 hu) (lR I2 hq) hsm dd ?_
 have q1 := (rel.val ks).isSome_eq
 rw [Option.isSome_map] at q1
 rw [<- q1, mB ekk hden]
 refine wpAny_truthy_bool ?_
 exact ⟨H2, I2.tok _, e1, q⟩
def lj (i : Nat) (tk te : DE) : DS := fun E ρ => ∃ kvs, ρ[i]? = some (some (.ob (.dt kvs))) /\ tk ρ fun k => ∃ (ks : List Key) (n : Int), k = .tup (ks.map da) /\ bf kvs ks = some (.int n) /\ te ρ fun d => ∃ m, d = .int m /\ E.nx (ρ.set i (some (.ob (.dt (putD kvs ks (.int (n + m)))))))
theorem rN {x : Str} {px tpos : Pos} {b e : Expr} {tb te : DE} (i : Nat) (hu : X.A.units + 1 < cLine) (hb : PED X b tb) (he : PED X e te) (hN : X.N[i]? = some x := by rfl) (hv : Vis X.env.scope x := by first | exact Or.inl rfl | exact Or.inr (Or.inl rfl) | exact Or.inr (Or.inr rfl)) (hd : (x == ("__debug__" : Str)) = false := by decide)
  (hcd : (x == ("__classdict__" : Str)) = false := by decide) (ha : ∀ ov iv new, augStore b ov iv new = (do holding [new, ov, iv] (setItem ov iv new); release [new, ov, iv] []; pure .next) := by intros; rfl) : PSD X (.AugAssign (.Subscript (.Name x px) b tpos) .Add e pos) (lj i tb te) := by
 intro pins s σ H W ρ E I r h
 obtain ⟨kvs, eo, h⟩ := h
 obtain ⟨a, kws, oa, sa, hda, ek, hden⟩ := r.ownT eo
 refine wpAny_AugAssign_SubscriptAny (thn (dH hN hv hd hcd pins s σ H (fun v H' => v = .ref a /\ H' = H) I ⟨.ref a, sa, rfl, rfl⟩) fun u s1 ⟨y, H0, I1, ry, ey, eH⟩ => ?_) ha
 subst ey eH
 cases ry
 refine thn (hb pins s1 σ H0 W ρ _ I1 r h) fun iv s2 ⟨kv, H1, k, I2, rk, e1, hk, ks, n, eks, l, q⟩ => ?_
 subst eks
 obtain ⟨bb, vs, ev, hq, hds⟩ := hk.tup_
 subst ev
 cases rk
 have := dE hds
 subst this
 obtain ⟨v', l', hv'⟩ := iG ek hden l
 have := hv'.int_
 subst this
 have hd1 := e1 _ _ hda
 obtain ⟨z, hsm, xs, rel, dd⟩ := gk I2.hok hd1
 obtain ⟨w', hw, rw'⟩ := cj.some_of (v := .int n) (o := (atKey xs ks).map (·.2)) (by rw [<- l']; exact rel.val ks)
 obtain ⟨p, hp, hp2⟩ := Option.map_eq_some_iff.mp hw
 refine wpAny_getItem_heap (tupleKind_room_in1 hu) (lR I2 hq) dd hp ?_
 rw [hp2]
 refine thn (he pins _ σ H1 W ρ _ (I2.tok _) (r.same e1) q) fun w2 s4 ⟨y2, H3, d2, I4, ry2, e3, hd2, m, ed, q3⟩ => ?_
 subst ed
 have := hd2.int_
 subst this
 refine thn (qt pins s4 σ H3 (.int n) (.int m) w' w2 (fun v H' => v = .int (n + m) /\ H' = H3) I4 rw' ry2 ⟨n, m, rfl, rfl, rfl, rfl⟩) fun w3 s5 ⟨zz, H4, I5, rz, ez, eH4⟩ => ?_
 subst ez eH4
 have e13 := e1.trans e3
 have hd3 := e13 _ _ hda
 obtain ⟨z3, hsm3, xs3, rel3, dd3⟩ := gk I5.hok hd3
 have hz : xs3.length <= sizeLine := by rw [<- Paired.length rel3]; exact z3
 have hsome : (kws.any fun kv => decide (kv.1 = ks)) = true := by rw [dj, l']; rfl
 have hsome3 : (atKey xs3 ks).isSome = true := by
  have q := (rel3.val ks).isSome_eq
  rw [Option.isSome_map] at q
  rw [<- q, l']
  rfl
 have ep : putK kws ks (.int (n + m)) = kws.map fun kv => if kv.1 = ks then (kv.1, .int (n + m)) else kv := by unfold putK; rw [if_pos hsome]
 have hl : (putK kws ks (V.int (n + m))).length <= sizeLine := by rw [ep, zAJ]; exact z3
 refine wpAny_setItem_heap (hsz := hz) (tupleKind_room_in1 hu) (lR I5 (SqT.same e3 hq)) dd3 fun h' dd' hs => ?_
 obtain ⟨q', es, ep', hq', h2, h3, h4, _, h5⟩ := dd'
 have relp : KT H4 (putK kws ks (.int (n + m))) (storedH xs3 ks bb w3) := by
  rw [ep]
  unfold storedH
  rw [if_pos hsome3]
  exact rel3.repl ks rz
 have I6 := fO (t' := s5.toks + (tupleKind (aQ X.prog X.w)).draws ks) I5 (by rw [hd3]; exact True.intro) hs ⟨q', hq'⟩ (show aI X.prog X.w (L2.upd H4 a (.dT (putK kws ks (.int (n + m))))) h' a (.dT (putK kws ks (.int (n + m)))) from ⟨hl, hsm3, _, relp.keeps fun c ys ec => by rw [aq (dn ec hd3 (fun z => nomatch z))]; exact ec, q', es, ep', hq', h2, h3, h4, h5⟩)
 obtain ⟨p1, p2⟩ := nJ (k := ks) ek (hden.same e13) (Den.int (n + m))
 obtain ⟨r2, f2⟩ := (r.same e13).mutG eo oa sa hd3 True.intro (.dt p1 p2)
 exact ⟨W, σ, _, I6, (Fwd.same e13).trans f2, _, r2, q3⟩
end
end PD
namespace PD
open PySem PySem.Spec PyProof.Rows L2
inductive KPs (K : PySem.W.Frag) (P : Bool -> Addr -> Prop) (H : Hp) : List (List D × D) -> List (Value × Value) -> Prop
 | nil : KPs K P H [] []
 | cons {b : Addr} {vs : List V} {ks : List D} {d : D} {x : V} {u : Value} {ds : List (List D × D)} {ws : List (Value × Value)} (hb : H b = some (.tup vs)) (hk : af K P H ks vs) (hd : Den K P H d x) (r : RelV x u) (t : KPs K P H ds ws) : KPs K P H ((ks, d) :: ds) ((.ref b, u) :: ws)
def PPK (X : Cx) (pos : Pos) (keys : List (Option Expr)) (values : List Expr) (t : Ro -> (List (List D × D) -> Prop) -> Prop) : Prop :=
 ∀ (pins : List (Addr × Obj)) (s : Shared) (σ : St) (H : Hp) (W : Own) (ρ : Ro) (Q : List (List D × D) -> Prop), Inv X pins σ H s -> Rel X W H σ ρ -> t ρ Q →
  wpAny (model X.prog X.w) X.A (evalPairs (pairTrees keys values X.env pos)) (fun ws s' => ∃ H' ds, Inv X pins σ H' s' /\ ah H H' /\ KPs X.K W.bad H' ds ws /\ Q ds) X.xe s
section
variable {X : Cx} {pos : Pos}
def oC : Ro -> (List (List D × D) -> Prop) -> Prop := fun _ Q => Q []
def lA (tk tv : DE) (t : Ro -> (List (List D × D) -> Prop) -> Prop) : Ro -> (List (List D × D) -> Prop) -> Prop := fun ρ Q => tk ρ fun k => ∃ ks, k = .tup ks /\ tv ρ fun v => t ρ fun r => Q ((ks, v) :: r)
theorem uN : PPK X pos [] [] oC := fun pins s σ H W ρ Q I r h => pairTrees_nil_walk ⟨H, [], I, ah.refl H, .nil, h⟩
theorem iE {k v : Expr} {ks : List (Option Expr)} {vs : List Expr} {tk tv : DE} {t : Ro -> (List (List D × D) -> Prop) -> Prop} (hk : PEK X k tk) (hv : PED X v tv) (hr : PPK X pos ks vs t) : PPK X pos (some k :: ks) (v :: vs) (lA tk tv t) := by
 intro pins s σ H W ρ Q I r h
 refine pairTrees_cons_walk (thn (hk pins s σ H W ρ _ I r h) fun u s1 ⟨b, ws, H1, dk, eu, I1, e1, hb, hd, kk, ek, q1⟩ => thn (hv pins s1 σ H1 W ρ _ I1 (r.same e1) q1) fun w2 s2 ⟨y, H2, dy, I2, ry, e2, hy, q2⟩ =>
  thn (hr pins s2 σ H2 W ρ _ I2 ((r.same e1).same e2) q2) fun ws s3 ⟨H3, ds, I3, e3, kp, q3⟩ => ?_)
 cases ek
 subst eu
 exact ⟨H3, _, I3, e1.trans (e2.trans e3), .cons (e3 _ _ (e2 _ _ hb)) (hd.same (e2.trans e3)) (hy.same e3) ry kp, q3⟩
theorem jh {es : List Expr} {t : DA} {x1} (h : PAD X es t) : PEK X (.Tuple es x1 pos) (oy t) := by
 intro pins s σ H W ρ Q I rr hq
 refine wpAny_Tuple_spliced (thn (h pos pins s σ H W ρ _ I rr hq) fun us s1 ⟨vs, H1, ds, I1, r, e1, hd, z, q⟩ => ?_)
 rw [<- hd.len] at z
 have hf : H1 s1.heap.objs.size = none := I1.hok.fresh (zAG _)
 exact ⟨by rw [<- r.length]; exact z, s1.heap.objs.size, vs, L2.upd H1 s1.heap.objs.size (.tup vs), ds, rfl, I1.laid (t' := s1.toks) (fun b u e => zAA _ e) (zAG _) ⟨z, us, r, ⟨_, zAD _ rfl, rfl, _, rfl⟩⟩, e1.trans (ah.upd hf), ax, hd.same (ah.upd hf), q⟩
inductive KPi (H : Hp) : List (List Key × Int) -> List (Value × Value) -> Prop
 | nil : KPi H [] []
 | cons {b : Addr} {k : List Key} {n : Int} {u : Value} {ds : List (List Key × Int)} {ws : List (Value × Value)} (hb : H b = some (.tup (k.map kV))) (r : RelV (.int n) u) (t : KPi H ds ws) : KPi H ((k, n) :: ds) ((.ref b, u) :: ws)
theorem KPs.ints {K : PySem.W.Frag} {P : Bool -> Addr -> Prop} {H : Hp} : ∀ {kns : List (List Key × Int)} {ws : List (Value × Value)}, KPs K P H (kns.map fun kn => (kn.1.map da, D.int kn.2)) ws -> KPi H kns ws
 | [], _, h => by rw [zAi] at h; cases h; exact .nil
 | kn :: r, _, h => by
  rw [zAF] at h
  cases h with
  | cons hb hk hd ru t =>
   have e := dE hk
   subst e
   have e2 := hd.int_
   subst e2
   exact .cons hb ru t.ints
theorem KPi.keep {H : Hp} {a : Addr} {kws kws' : List (List Key × V)} (ha : H a = some (.dT kws)) : ∀ {kns : List (List Key × Int)} {ws : List (Value × Value)}, KPi H kns ws -> KPi (L2.upd H a (.dT kws')) kns ws
 | _, _, .nil => .nil
 | _, _, .cons hb r t => .cons (by rw [aq (dn hb ha (fun z => nomatch z))]; exact hb) r (t.keep ha)
def gZ (kws : List (List Key × V)) (kns : List (List Key × Int)) : List (List Key × V) := kns.foldl (fun acc kn => putK acc kn.1 (.int kn.2)) kws
theorem iy {pins : List (Addr × Obj)} {σ : St} {a : Addr} {A : Around} {E : Value -> Shared -> Prop} (hu : A.units < cLine) : ∀ (kns : List (List Key × Int)) (ws : List (Value × Value)) (kws : List (List Key × V)) (H : Hp) (s : Shared) (Q : PUnit -> Shared -> Prop), Inv X pins σ H s -> H a = some (.dT kws) -> KPi H kns ws -> kws.length + kns.length <= sizeLine →
  (∀ s', Inv X pins σ (L2.upd H a (.dT (gZ kws kns))) s' -> Q PUnit.unit s') -> wpAny (model X.prog X.w) A (storeAll a ws) Q E s
 | [], _, kws, H, s, Q, I, ha, kp, _, q => by
  cases kp
  unfold storeAll
  rw [List.forIn_nil]
  have e : L2.upd H a (.dT (gZ kws [])) = H := by
   funext b
   unfold L2.upd
   split
   ·rename_i e; subst e; exact ha.symm
   ·rfl
  rw [e] at q
  exact wpAny_pure (q s I)
 | (k, n) :: r, _, kws, H, s, Q, I, ha, kp, hz, q => by
  cases kp with
  | cons hb ru t =>
   rw [zAh] at hz
   unfold storeAll
   rw [List.forIn_cons]
   obtain ⟨z, hsm, xs, rel, dd⟩ := gk I.hok ha
   have hxz : xs.length <= sizeLine := by rw [<- Paired.length rel]; exact z
   have hl : (putK kws k (V.int n)).length <= kws.length + 1 := fv _ _ _
   refine wpAny_bind (wpAny_bind (wpAny_dictSet_heap (hsz := hxz) (knd := tupleKind (aQ X.prog X.w)) hu (jo I.hok hb) dd fun h' dd' hs => wpAny_pure ?_))
   obtain ⟨q', es, ep', hq', h2, h3, h4, _, h5⟩ := dd'
   have I6 := fO (t' := s.toks + (tupleKind (aQ X.prog X.w)).draws k) I (by rw [ha]; exact True.intro) hs ⟨q', hq'⟩ (show aI X.prog X.w (L2.upd H a (.dT (putK kws k (.int n)))) h' a (.dT (putK kws k (.int n))) from ⟨by omega, hsm, _, (rel.put k hb ru).keeps fun c ys ec => by rw [aq (dn ec ha (fun z => nomatch z))]; exact ec, q', es, ep', hq', h2, h3, h4, h5⟩)
   refine iy hu r _ _ _ _ Q I6 ax (t.keep ha) (by omega) fun s' I' => q s' ?_
   rw [fZ] at I'
   exact I'
theorem oU {more : List (List Key × Int)} : ∀ {kws : List (List Key × V)}, (kws.map (·.1) ++ more.map (·.1)).Nodup -> gZ kws more = kws ++ more.map fun kn => (kn.1, V.int kn.2) := by
 induction more with
 | nil => intro kws _; show kws = kws ++ []; rw [zAd]
 | cons p r ih =>
  intro kws h
  show gZ (putK kws p.1 (.int p.2)) r = _
  have hn : (kws.any fun kv => decide (kv.1 = p.1)) = false := by
   rw [List.any_eq_false]
   intro kv hm he
   exact (List.nodup_append.mp h).2.2 kv.1 (List.mem_map_of_mem hm) p.1 (by simp) (of_decide_eq_true he)
  have e : putK kws p.1 (V.int p.2) = kws ++ [(p.1, .int p.2)] := by unfold putK; rw [hn]; rfl
  rw [e, ih (by rw [zAW]; simpa using h)]
  simp
theorem gT {K : PySem.W.Frag} {P : Bool -> Addr -> Prop} {H : Hp} : ∀ kns : List (List Key × Int), af K P H ((kns.map fun kn => (kn.1, D.int kn.2)).map (·.2)) ((kns.map fun kn => (kn.1, V.int kn.2)).map (·.2))
 | [] => af.nil
 | _ :: r => af.cons (Den.int _) (gT r)
def jK (i : Nat) (t : Ro -> (List (List D × D) -> Prop) -> Prop) : DS := fun E ρ => t ρ fun ps => ∃ kns : List (List Key × Int), ps = kns.map (fun kn => (kn.1.map da, D.int kn.2)) /\ kns.length <= 15 /\ (kns.map (·.1)).Nodup /\ E.nx (ρ.set i (some (.ob (.dt (kns.map fun kn => (kn.1, D.int kn.2))))))
theorem pY {x : Str} {pos' dpos : Pos} {keys : List (Option Expr)} {values : List Expr} {t : Ro -> (List (List D × D) -> Prop) -> Prop} (i : Nat) (hu : X.A.units + 1 < cLine) (hN : X.N.Nodup) (h : PPK X dpos keys values t) (hi : X.N[i]? = some x := by rfl) (hall : keys.all (·.isSome) = true := by rfl) (hl : keys.length = values.length := by rfl) (h0 : keys ≠ [] := by simp)
  (h15 : keys.length <= 15 := by decide) (hx : Loc X.env.scope x := by first | exact Or.inl rfl | exact Or.inr rfl) (hs : swapsWith (.Dict keys values dpos) (some (.Name x pos')) pos.line X.env = pure false := by rfl)
  (hf : X.fn x = true ∨ X.env.scope.names.lookup x = some .local := by first | exact .inl rfl | exact .inr rfl | assumption) : PSD X (.Assign [.Name x pos'] (.Dict keys values dpos) pos) (jK i t) := by
 intro pins s σ H W ρ E I r hq
 have hn := I.hok.fresh (zAG s.heap.objs.size)
 have hkn := Inv.kfresh I
 have I1 := I.laid (a := s.heap.objs.size) (o := .dT []) (h' := s.heap.push { cls := .type "dict", data := .dict #[] }) (t' := s.toks) (fun _ _ q => zAA _ q) (zAG _) (rQ s.heap I.big)
 refine wpAny_Assign_Name (wpAny_Dict_any hall hl h0 h15 (thn (h pins _ σ _ W ρ _ I1 (r.same (ah.upd hn)) hq) fun ws s2 ⟨H2, ds, I2, sm, kp, kns, ed, lk, nd, q⟩ => ?_)) hs
 subst ed
 have e := sm _ _ (ax (H := H) (a := s.heap.objs.size) (o := .dT []))
 have em : gZ [] kns = kns.map fun kn => (kn.1, V.int kn.2) := by rw [oU (by simpa using nd)]; rfl
 refine iy (by omega) kns ws [] H2 s2 _ I2 e kp.ints (by rw [sizeLine_eq]; simp; omega) fun s3 I3 => ?_
 rw [em] at I3
 have rp := r.putG (x := .dt (kns.map fun kn => (kn.1, D.int kn.2))) (Inv.ilt I2 hi) (H' := L2.upd H2 s.heap.objs.size (.dT (kns.map fun kn => (kn.1, V.int kn.2)))) (((ah.upd hn).trans sm).ins hn e True.intro True.intro) hn hkn ax (.dt (by simp [zAz, Function.comp_def]) (gT kns))
 exact eY (v := .ref s.heap.objs.size) I3 hN hi hx rfl (fun s3 I4 => ⟨_, _, _, I4, rp.2, _, rp.1, q⟩) hf
end
section
variable {X : Cx} {pos : Pos}
theorem tN (hc : X.calm = true) : d0 X (.builtin "max") (fun ds Q => (∃ i j : Int, ds = [.int i, .int j] /\ Q (.int (max i j))) ∨ ∃ (t : Bool) (ns : List Int), ds = [.lst t (ns.map D.int)] /\ 0 < ns.length /\ ∀ m, m ∈ ns -> (∀ n ∈ ns, n <= m) -> Q (.int m)) := by
 intro pins s σ H W ds vs us Q I tr r hd q
 rcases q with ⟨i, j, e, q⟩ | ⟨t, ns, e, hne, q⟩
 ·exact la hc pins s σ H W ds vs us Q I tr r hd ⟨i, j, e, q⟩
 subst e
 obtain ⟨v, rfl, h1⟩ := jg hd
 obtain ⟨a, ws, ev, _, hq, hw⟩ := h1.lst_
 subst ev
 cases r with
 | cons r1 rr =>
  cases rr
  cases r1
  obtain ⟨its, rv, pl, _⟩ := I.list hq
  rw [eG hw] at rv
  have ia := intsAre_of rv
  obtain ⟨xs, ex⟩ := ia.allInts.items
  have hl : s.heap.IsList a (intItems xs) := by rw [<- ex]; exact pl.isList
  have hns : ns = xs.toList.map (·.1) := by rw [<- ia.numsOf, <- nums_intItems, <- ex]
  have hsz : 0 < xs.size := by rw [hns, zAJ, zAt] at hne; exact hne
  refine max_intList (I.ok.hd hc) hl hsz fun y h' tk hy kp => ?_
  obtain ⟨tt, rfl⟩ := intItems_at hy
  obtain ⟨g1, g2⟩ := argBest_gt (numAt xs) (xs.size - 1)
  have at_ : ∀ j, j < xs.size -> xs.toList.map (·.1) ≠ [] -> numAt xs j ∈ ns := fun j hj _ => by
   rw [hns, numAt_eq]
   have : (xs.toList.map (·.1))[j]? = some ((xs.toList.map (·.1)).getD j 0) := by simp [hj]
   exact zAM this
  refine ⟨.int _, H, _, I.kept kp, ⟨_, rfl⟩, ah.refl H, Den.int _, q _ (at_ _ (by omega) (by rw [<- hns]; exact List.ne_nil_of_length_pos hne)) fun n hn => ?_⟩
  rw [hns] at hn
  obtain ⟨j, hj, ej⟩ := List.getElem_of_mem hn
  have : numAt xs j = n := by rw [numAt_eq, <- ej]; simp only [zA2, List.getElem?_eq_getElem hj, Option.getD_some]
  rw [<- this]
  rw [zAJ, zAt] at hj
  exact g2 j (by omega)
end
end PD
namespace PD
open PySem PySem.Spec PyProof.Rows L2
section
variable {X : Cx} {pos : Pos}
end
end PD
namespace PZ
open PySem PySem.Spec PyProof.Rows
abbrev sO (h : Heap) (T : Addr) (a b c : Value) : Prop := h.get? T = some { cls := .type "tuple", data := .seq #[a, b, c] }
structure Ap3 (z TI TO i1 i2 i3 : Addr) : Prop where
 a1 : TI ≠ z
 a2 : TO ≠ z
 a3 : i1 ≠ z
 a4 : i2 ≠ z
 a5 : i3 ≠ z
 b1 : TI ≠ TO
 b2 : TI ≠ i1
 b3 : TI ≠ i2
 b4 : TI ≠ i3
 c1 : TO ≠ i1
 c2 : TO ≠ i2
 c3 : TO ≠ i3
 d1 : i1 ≠ i2
 d2 : i1 ≠ i3
 d3 : i2 ≠ i3
structure wJ (z TO i1 i2 i3 l : Addr) : Prop where
 c1 : l ≠ z
 c2 : l ≠ TO
 c3 : l ≠ i1
 c4 : l ≠ i2
 c5 : l ≠ i3
structure wM (z TI TO i1 i2 i3 l1 l2 l3 : Addr) (i : Nat) (h : Heap) : Prop where
 z : IsZip h z TI TO .none
 ti : sO h TI (.ref i1) (.ref i2) (.ref i3)
 to : ∃ a b c, sO h TO a b c
 s1 : SIt true h i1 l1 i
 s2 : SIt true h i2 l2 i
 s3 : SIt true h i3 l3 i
section
variable {prog : Program} {w : World} {A : Around} {E : Value -> Shared -> Prop} {s : Shared} {z TI TO i1 i2 i3 l1 l2 l3 : Addr} {i : Nat} {xs ys zs : Array Value}
end
section
variable {prog : Program} {w : World} {A : Around} {E : Value -> Shared -> Prop} {s : Shared} {l1 l2 l3 : Addr} {xs ys zs : Array Value}
end
end PZ
namespace PD
open PySem PySem.Spec PyProof.Rows L2 PZ
section
variable {X : Cx}
def tri (xs ys zs : List D) : List D := List.zipWith (fun f z => f z) (List.zipWith (fun x y z => D.tup [x, y, z]) xs ys) zs
def sY (ta : DA) : DA := fun ρ R => ta ρ fun ds => ∃ t1 t2 t3 xs ys zs, ds = [.lst t1 xs, .lst t2 ys, .lst t3 zs] /\ ys.length = xs.length /\ zs.length = xs.length /\ R (tri xs ys zs)
end
end PD
namespace PD
open PySem PySem.Spec PyProof.Rows L2
section
variable {X : Cx} {pos : Pos}
def mX (i iw : Nat) (tt : DT) : DS := fun E ρ => ∃ ds, ρ[i]? = some (some (.own ds)) /\ ds ≠ [] /\ (∀ d ∈ ds, tt (ρ.set iw (some (.val d))) fun k => k = false) /\ ∀ d ∈ ds, E.nx (ρ.set iw (some (.val d)))
end
end PD
namespace ST
open PySem PySem.SetTable
def S : Nat -> Nat
 | 0 => 0
 | n + 1 => 5 * S n + 1
theorem kJ : ∀ n, 5 ^ n = 4 * S n + 1
 | 0 => rfl
 | n + 1 => by rw [zAj, kJ n]; show _ = 4 * (5 * S n + 1) + 1; omega
theorem nX (m : Nat) : ∀ n, S (n + m) = 5 ^ m * S n + S m
 | 0 => by simp [S]
 | n + 1 => by
  rw [show n + 1 + m = (n + m) + 1 by omega]
  show 5 * S (n + m) + 1 = 5 ^ m * (5 * S n + 1) + S m
  rw [nX m n, kJ m]
  grind
theorem sP : ∀ k, ∃ o, S (2 ^ k) = 2 ^ k * (2 * o + 1)
 | 0 => ⟨0, rfl⟩
 | k + 1 => by
  obtain ⟨o, e⟩ := sP k
  refine ⟨o + (2 * o + 1) * (2 ^ k * (2 * o + 1)), ?_⟩
  rw [show 2 ^ (k + 1) = 2 ^ k + 2 ^ k by rw [zAj]; omega, nX, kJ, e]
  grind
theorem round : ∀ (k x e : Nat), e < 2 ^ k -> ∃ n, n < 2 ^ k /\ (5 ^ n * x + S n) % 2 ^ k = e
 | 0, x, e, h => ⟨0, by decide, by omega⟩
 | k + 1, x, e, h => by
  obtain ⟨n, hn, q⟩ := round k x (e % 2 ^ k) (Nat.mod_lt _ (Nat.two_pow_pos k))
  obtain ⟨o, eo⟩ := sP k
  have hp := Nat.two_pow_pos k
  have h2 : 2 ^ (k + 1) = 2 * 2 ^ k := by rw [zAj]; omega
  generalize hv : 5 ^ n * x + S n = v at q
  have nxt : 5 ^ (n + 2 ^ k) * x + S (n + 2 ^ k) = v + 2 ^ k + 2 ^ (k + 1) * (o + 2 * (2 * o + 1) * v) := by
   rw [nX, Nat.pow_add, kJ (2 ^ k), eo, h2, <- hv]
   grind
  generalize 2 ^ k = p at *
  rw [h2] at h ⊢
  by_cases z : v % (2 * p) = e
  ·exact ⟨n, by omega, by rw [hv]; exact z⟩
  ·refine ⟨n + p, by omega, ?_⟩
   rw [nxt, h2, Nat.add_mul_mod_self_left]
   have a1 : v % (2 * p) % p = v % p := Nat.mod_mul_left_mod v 2 p
   have l1 : v % (2 * p) < 2 * p := Nat.mod_lt _ (by omega)
   rw [Nat.add_mod, zAn (show p < 2 * p by omega)]
   generalize v % (2 * p) = u at *
   have eu : u = u % p ∨ u = u % p + p := by
    by_cases c : u < p
    ·left; rw [zAn c]
    ·right
     have : u % p = u - p := by rw [Nat.mod_eq_sub_mod (by omega), zAn (by omega)]
     omega
   have ee : e = e % p ∨ e = e % p + p := by
    by_cases c : e < p
    ·left; rw [zAn c]
    ·right
     have : e % p = e - p := by rw [Nat.mod_eq_sub_mod (by omega), zAn (by omega)]
     omega
   have lt : e % p < p := Nat.mod_lt _ hp
   rcases eu with eu | eu <;> rcases ee with ee | ee
   ·omega
   ·rw [zAn (by omega)]; omega
   ·rw [Nat.mod_eq_sub_mod (by omega), zAn (by omega)]; omega
   ·omega
def runs (mask : Nat) : Nat -> Nat -> Nat -> List Nat
 | 0, _, _ => []
 | c + 1, i, pt => List.range' i (runEnd mask i + 1 - i) ++ runs mask c (leap mask i pt).1 (leap mask i pt).2
def qU (mask : Nat) (h : Int) : List Nat := runs mask (turns mask) (bits h % (mask + 1)) (bits h)
def vH (mask : Nat) : Nat -> Nat × Nat -> Nat × Nat
 | 0, p => p
 | n + 1, p => vH mask n (leap mask p.1 p.2)
def wb (xs : Array Nat) : Prop := ∀ a b : Nat, a < b -> b < xs.size -> xs.getD a 0 < xs.getD b 0
def ahead (mask : Nat) (c : Nat) (p : Probe) : List Nat := List.range' p.j (p.more + 1) ++ runs mask c (leap mask p.i p.perturb).1 (leap mask p.i p.perturb).2
structure Tab (t : SetTable) (hs : List Int) : Prop where
 k : ∃ k, t.mask + 1 = 2 ^ (k + 1)
 rise : wb t.place
 le : ∀ x ∈ t.place.toList, x <= t.mask
 dum : t.dummies = #[]
 len : t.place.size = hs.length
 room : t.place.size <= t.mask
 reach : ∀ (a x : Nat) (h : Int), t.place[a]? = some x -> hs[a]? = some h -> ∃ pre post, qU t.mask h = pre ++ x :: post /\ ∀ y ∈ pre, y ∈ t.place.toList
structure Ow (mask : Nat) (hs : List Int) (owner : Array (Option Nat)) : Prop where
 size : owner.size = mask + 1
 cnt : (owner.toList.filter Option.isSome).length = hs.length
 at_ : ∀ (i : Nat) (h : Int), hs[i]? = some h -> ∃ j : Nat, owner[j]? = some (some i) /\ ∃ pre post, qU mask h = pre ++ j :: post /\ ∀ y ∈ pre, ∃ q, owner[y]? = some (some q)
 lt : ∀ j i : Nat, owner[j]? = some (some i) -> i < hs.length
 inj : ∀ j j' i : Nat, owner[j]? = some (some i) -> owner[j']? = some (some i) -> j = j'
theorem kW : ∀ (fuel size n : Nat), n < size * 2 ^ fuel -> ∃ m, sizeAbove.go n fuel size = size * 2 ^ m /\ n < size * 2 ^ m
 | 0, size, n, h => ⟨0, by simp [sizeAbove.go], h⟩
 | fuel + 1, size, n, h => by
  unfold sizeAbove.go
  by_cases c : size <= n
  ·rw [if_pos c]
   obtain ⟨m, e1, e2⟩ := kW fuel (size * 2) n (by rw [zAj] at h; rw [Nat.mul_assoc, Nat.mul_comm 2]; exact h)
   refine ⟨m + 1, ?_, ?_⟩
   ·rw [e1, zAj, Nat.mul_assoc, Nat.mul_comm 2]
   ·rw [zAj, Nat.mul_comm (2 ^ m), <- Nat.mul_assoc]; exact e2
  ·rw [if_neg c]
   exact ⟨0, by simp, by simp; omega⟩
theorem above {n : Nat} (h : n < 2 ^ 60) : ∃ k, sizeAbove n - 1 + 1 = 2 ^ (k + 1) /\ n <= sizeAbove n - 1 := by
 obtain ⟨m, e1, e2⟩ := kW 64 8 n (zAH h (by decide))
 have e : sizeAbove n = 8 * 2 ^ m := e1
 have hp := Nat.two_pow_pos m
 refine ⟨m + 2, ?_, by omega⟩
 rw [e, show 2 ^ (m + 2 + 1) = 8 * 2 ^ m by rw [zAj, zAj, zAj]; omega]
 omega
end ST
namespace SW
open PySem PySem.SetTable ST
section
variable {prog : Program} {w : World} {A : Around} {E : Value -> Shared -> Prop} {s : Shared}
abbrev TK (prog : Program) (w : World) : HeapKind prog w (List Int) := tupleKind (intKind prog w)
theorem items_int : ∀ {ks : List Int} {vs : List Value}, ItemsAre (intKind prog w) ks vs -> ∀ v ∈ vs, ∃ n t, v = Value.int n t
 | _, _, .nil, v, h => by cases h
 | _, _, .cons h t, v, hv => by
  rcases zAN.mp hv with z | z
  ·subst z
   obtain ⟨t, e⟩ := Value.isInt_shape h
   exact ⟨_, t, e⟩
  ·exact items_int t v z
structure wL (prog : Program) (w : World) (h : Heap) (a : Addr) (xs : List (List Int × Addr)) : Prop where
 ex : ∃ o es ep t, h.get? a = some o /\ o.ExactSet /\ o.data = .set es ep t /\ es.toList = xs.map (fun x => ((TK prog w).hash x.1, Value.ref x.2)) /\ Tab t (xs.map fun x => (TK prog w).hash x.1) /\ (t.plain = true /\ t.led = !w.params.followText "set-order") /\ t.place.size * 5 < t.mask * 3 /\ t.mask <= 8191
 is_ : ∀ x ∈ xs, (TK prog w).is h x.1 x.2
 nd : (xs.map (·.1)).Nodup
end
end SW
namespace SW
open PySem PySem.SetTable ST
section
variable {prog : Program} {w : World} {A : Around} {E : Value -> Shared -> Prop} {s : Shared}
end
end SW
namespace SW
open PySem PySem.SetTable ST
section
variable {prog : Program} {w : World} {A : Around} {E : Value -> Shared -> Prop} {s : Shared}
set_option maxHeartbeats 1000000 in
end
end SW
namespace SW
open PySem PySem.SetTable ST
section
variable {prog : Program} {w : World} {A : Around} {E : Value -> Shared -> Prop} {s : Shared}
end
end SW
namespace SS
open PySem PySem.W PyProof.Rows
section
variable {r : Nat -> Nat} {n : Nat}
def v (r : Nat -> Nat) (p : Array Nat) (k : Nat) : Nat := r (p.getD k 0)
def S (r : Nat -> Nat) (p : Array Nat) (k : Nat) : Prop := ∀ i j, i <= j -> j < k -> v r p i <= v r p j
def D (r : Nat -> Nat) (p : Array Nat) (k : Nat) : Prop := ∀ i j, i <= j -> j < k -> v r p j <= v r p i
structure Ok (n : Nat) (p : Array Nat) : Prop where
 perm : p.Perm (List.toArray (List.range n))
end
end SS
namespace SW
open PySem PySem.SetTable ST PySem.W PyProof.Rows
section
variable {prog : Program} {w : World} {A : Around} {E : Value -> Shared -> Prop} {s : Shared}
end
end SW
namespace TS
open PySem PyProof.Rows
structure Cmp (M : Model) (A : Around) (E : Value -> Shared -> Prop) (s : Shared) (r : Keyed -> Nat) (Mem : Keyed -> Prop) (k0 : SortKind) : Prop where
 lt : ∀ (x y : Keyed) (st : SortSt) (Q : Option Bool -> SortSt -> Prop), Mem x -> Mem y -> kindOf st = k0 -> Q (some (decide (r x < r y))) st -> wpS M A E s (lt' x y) Q st
structure Cut (B : Nat -> Bool) (n k : Nat) : Prop where
 le : k <= n
 lo : ∀ i, i < k -> B i = true
 hi : ∀ i, k <= i -> i < n -> B i = false
section
variable {M : Model} {A : Around} {E : Value -> Shared -> Prop} {s : Shared} {r : Keyed -> Nat} {Mem : Keyed -> Prop} {k0 : SortKind}
end
end TS
namespace TS
open PySem PyProof.Rows
section
variable {M : Model} {A : Around} {E : Value -> Shared -> Prop} {s : Shared} {r : Keyed -> Nat} {Mem : Keyed -> Prop} {k0 : SortKind}
end
structure MI (R : Keyed -> Keyed -> Prop) (T o a b : List Keyed) : Prop where
 p : (o ++ (a ++ b)).Perm T
 so : o.Pairwise R
 sa : a.Pairwise R
 sb : b.Pairwise R
 oa : ∀ x ∈ o, ∀ y ∈ a, R x y
 ob : ∀ x ∈ o, ∀ y ∈ b, R x y
section
variable {R : Keyed -> Keyed -> Prop} {T o a b : List Keyed}
end
structure wI (st st' : SortSt) : Prop where
 k : kindOf st' = kindOf st
 a : arrOf st' = arrOf st
 p : pendingOf st' = pendingOf st
 f : failedOf st' = failedOf st
section
variable {M : Model} {A : Around} {E : Value -> Shared -> Prop} {s : Shared}
end
end TS
namespace TS
open PySem PyProof.Rows
section
variable {M : Model} {A : Around} {E : Value -> Shared -> Prop} {s : Shared} {r : Keyed -> Nat} {Mem : Keyed -> Prop} {k0 : SortKind}
section
variable {R : Keyed -> Keyed -> Prop} {T X : List Keyed} {a o : Array Keyed} {i : Nat}
end
structure Mid (r : Keyed -> Nat) (a b : Array Keyed) (o : Array Keyed) (i j : Nat) : Prop where
 m : MI (fun x y => r x <= r y) (a.toList ++ b.toList) o.toList (a.toList.drop i) (b.toList.drop j)
 hi : i + 1 < a.size
 hj : j < b.size
end
end TS
namespace TS
open PySem PyProof.Rows
section
variable {M : Model} {A : Around} {E : Value -> Shared -> Prop} {s : Shared} {r : Keyed -> Nat} {Mem : Keyed -> Prop} {k0 : SortKind}
section
variable {R : Keyed -> Keyed -> Prop} {T X : List Keyed} {a o : Array Keyed} {n : Nat}
end
structure Mir (r : Keyed -> Nat) (a b : Array Keyed) (o : Array Keyed) (i j : Nat) : Prop where
 m : MI (fun x y => r y <= r x) (a.toList ++ b.toList) o.toList (a.toList.take i).reverse (b.toList.take j).reverse
 h0 : 0 < i
 hi : i <= a.size
 h1 : 1 < j
 hj : j <= b.size
end
end TS
namespace TS
open PySem PyProof.Rows
def rk (r : Keyed -> Nat) (xs : Array Keyed) (i : Nat) : Nat := match xs[i]? with
 | some p => r p
 | none => 0
def Seg (r : Keyed -> Nat) (xs : Array Keyed) (lo hi : Nat) : Prop := ∀ i j, lo <= i -> i <= j -> j < hi -> rk r xs i <= rk r xs j
section
variable {r : Keyed -> Nat} {xs : Array Keyed} {P W S : List Keyed}
end
section
variable {M : Model} {A : Around} {E : Value -> Shared -> Prop} {s : Shared} {r : Keyed -> Nat} {Mem : Keyed -> Prop} {k0 : SortKind}
end
end TS
namespace TS
open PySem PyProof.Rows
section
variable {r : Keyed -> Nat}
end
structure Nr (lo : Nat) (st st' : SortSt) : Prop where
 k : kindOf st' = kindOf st
 f : failedOf st' = failedOf st
 p : pendingOf st' = pendingOf st
 a : (arrOf st').Perm (arrOf st)
 fr : ∀ i, i < lo -> (arrOf st')[i]? = (arrOf st)[i]?
section
variable {M : Model} {A : Around} {E : Value -> Shared -> Prop} {s : Shared} {r : Keyed -> Nat} {Mem : Keyed -> Prop} {k0 : SortKind}
end
end TS
namespace TS
open PySem PyProof.Rows
def Chain : List (Nat × Nat × Nat) -> Nat -> Nat -> Prop
 | [], s, e => s = e
 | q :: ps, s, e => q.1 = s /\ 0 < q.2.1 /\ Chain ps (s + q.2.1) e
section
variable {M : Model} {A : Around} {E : Value -> Shared -> Prop} {s : Shared} {r : Keyed -> Nat} {Mem : Keyed -> Prop} {k0 : SortKind}
structure PI (r : Keyed -> Nat) (st st' : SortSt) (lo : Nat) : Prop where
 k : kindOf st' = kindOf st
 f : failedOf st' = failedOf st
 a : (arrOf st').Perm (arrOf st)
 ch : Chain (pendingOf st').toList 0 lo
 sg : ∀ q ∈ (pendingOf st').toList, Seg r (arrOf st') q.1 (q.1 + q.2.1)
end
end TS
namespace SW
open PySem PyProof.Rows
section
variable {prog : Program} {w : World} {A : Around} {E : Value -> Shared -> Prop} {s : Shared}
end
end SW
namespace SW
open PySem PySem.SetTable ST PySem.W PyProof.Rows
section
variable {prog : Program} {w : World} {A : Around} {E : Value -> Shared -> Prop} {s : Shared}
end
end SW
namespace PD
open PySem PySem.Spec PyProof.Rows L2
section
variable {X : Cx} {pos : Pos}
end
end PD
namespace HT
open PySem PyProof.Rows
section
open PySem.SeqAt
open PySem.AutoSeq1 (wpAny_loadPart')
open PySem.MeetsSeq PySem.MeetsSeq2 PySem.MeetsSeq3
end
section
variable {prog : Program} {w : World} {A : Around} {E : Value -> Shared -> Prop} {s : Shared}
end
end HT
namespace SW
open PySem PySem.SetTable ST PySem.W PyProof.Rows
section
variable {prog : Program} {w : World} {A : Around} {E : Value -> Shared -> Prop} {s : Shared}
end
end SW
namespace SW
open PySem PySem.SetTable ST PySem.W PyProof.Rows
section
variable {prog : Program} {w : World} {A : Around} {E : Value -> Shared -> Prop} {s : Shared}
end
end SW
namespace SW
open PySem PySem.SetTable ST PySem.W PyProof.Rows
section
variable {prog : Program} {w : World} {A : Around} {E : Value -> Shared -> Prop} {s : Shared}
end
end SW
namespace PD
open PySem PySem.Spec PyProof.Rows L2
section
variable {X : Cx} {pos : Pos}
end
end PD
namespace PD
open PySem PySem.Spec PyProof.Rows L2
section
variable {X : Cx} {pos : Pos}
end
end PD
namespace SW
open PySem PySem.SetTable ST PySem.W PyProof.Rows
section
variable {prog : Program} {w : World} {A : Around} {E : Value -> Shared -> Prop} {s : Shared}
structure wK (prog : Program) (w : World) (h : Heap) (a : Addr) (xs : List (Int × Tok)) : Prop where
 ex : ∃ o es ep t, h.get? a = some o /\ o.ExactSet /\ o.data = .set es ep t /\ es.toList = xs.map (fun x => ((intKind prog w).hash x.1, Value.int x.1 x.2)) /\ Tab t (xs.map fun x => (intKind prog w).hash x.1) /\ (t.plain = true /\ t.led = !w.params.followText "set-order") /\ 7 <= t.mask
 nd : (xs.map (·.1)).Nodup
end
end SW
namespace SW
open PySem PySem.SetTable ST PySem.W PyProof.Rows
section
variable {prog : Program} {w : World} {A : Around} {E : Value -> Shared -> Prop} {s : Shared}
end
end SW
namespace SW
open PySem PySem.SetTable ST PySem.W PyProof.Rows
section
variable {prog : Program} {w : World} {A : Around} {E : Value -> Shared -> Prop} {s : Shared}
end
end SW
namespace PD
open PySem PySem.Spec PyProof.Rows L2
section
variable {X : Cx} {pos : Pos}
theorem fk : ∀ {out : List Value} {ms : List Int}, IntsAre out ms -> Vals (ms.map V.int) out
 | _, _, .nil => .nil
 | _, _, .cons n t r => .cons ⟨t, rfl⟩ (fk r)
end
end PD
namespace PD
open PySem PySem.Spec PyProof.Rows L2
section
variable {X : Cx}
end
section
variable {P : Program} {w : World} {K : PySem.W.Frag} {mg : Str -> Option Value} {base : Heap}
end
end PD
namespace PD
open PySem PySem.Spec PyProof.Rows L2
section
variable {X : Cx}
end
end PD
namespace PD
open PySem PySem.Spec PyProof.Rows L2
section
variable {X : Cx}
end
end PD
namespace PD
open PySem PySem.Spec PyProof.Rows L2
def FL (K : PySem.W.Frag) (x : Str) (st : Stmt) : Prop := ∃ (f : Addr) (oc : Value) (od : Option Addr) (kV dc pm : Value) (an : Option Addr) (cd ct : Value) (sl : Array (Option Value)),
 PySem.W.nsIn K mainGlobals x = some (some (.ref f)) /\ K.lookup f = some ⟨oc, od, .func (PySem.W.fnOf x x (bj st) (aU st) (ak st) .none kV dc pm an cd ct), sl⟩ /\ PySem.W.codeIn K cd x = true /\ PySem.W.keepIn K (.ref f) = true
theorem FL.mk {K : PySem.W.Frag} {x : Str} {st : Stmt} {f : Addr} {oc : Value} {od : Option Addr} {kV dc pm : Value} {an : Option Addr} {cd ct : Value} {sl : Array (Option Value)} (a : PySem.W.nsIn K mainGlobals x = some (some (.ref f)))
  (b : K.lookup f = some ⟨oc, od, .func (PySem.W.fnOf x x (bj st) (aU st) (ak st) .none kV dc pm an cd ct), sl⟩) (c : PySem.W.codeIn K cd x = true) (d : PySem.W.keepIn K (.ref f) = true) : FL K x st := ⟨f, oc, od, kV, dc, pm, an, cd, ct, sl, a, b, c, d⟩
theorem r9 {α : Type} : ∀ {us : List α}, us.length = 1 -> ∃ a, us = [a]
 | [a], _ => ⟨a, rfl⟩
theorem oO {α : Type} : ∀ {us : List α}, us.length = 2 -> ∃ a b, us = [a, b]
 | [a, b], _ => ⟨a, b, rfl⟩
theorem lT {α : Type} : ∀ {us : List α}, us.length = 3 -> ∃ a b c, us = [a, b, c]
 | [a, b, c], _ => ⟨a, b, c, rfl⟩
theorem sd {α : Type} : ∀ {us : List α}, us.length = 4 -> ∃ a b c d, us = [a, b, c, d]
 | [a, b, c, d], _ => ⟨a, b, c, d, rfl⟩
theorem se {α : Type} : ∀ {us : List α}, us.length = 5 -> ∃ a b c d e, us = [a, b, c, d, e]
 | [a, b, c, d, e], _ => ⟨a, b, c, d, e, rfl⟩
theorem FL.has {K : PySem.W.Frag} {x : Str} {st : Stmt} {h : Heap} {mg : Str -> Option Value} {k : Nat} {ps : List Str} {sp : DSp} (e : FL K x st) (P : Program) (w : World) (base : Heap) (X : K.In h) (G : h.Ns mainGlobals mg)
  (ok : ∀ {f : Addr} {fd : FuncData}, aw K x x st f fd -> aC P w K mg base (CX1 P w) k f fd ps (aG K sp))
  (hb : ∀ (kV dc pm : Value) (an : Option Addr) (cd ct : Value) (us : List Value), us.length = ps.length -> bindArgs (PySem.W.fnOf x x (bj st) (aU st) (ak st) .none kV dc pm an cd ct) ⟨us, []⟩ = pure (ps.zip us) := by
   intro _ _ _ _ _ _ us hl
   first
    | (obtain ⟨a, e⟩ := r9 hl; subst e; rfl)
    | (obtain ⟨a, b, e⟩ := oO hl; subst e; rfl)
    | (obtain ⟨a, b, c, e⟩ := lT hl; subst e; rfl)
    | (obtain ⟨a, b, c, d, e⟩ := sd hl; subst e; rfl)
    | (obtain ⟨a, b, c, d, e', e⟩ := se hl; subst e; rfl)) : Has P w K mg base x k ps sp := by
 obtain ⟨f, oc, od, kV, dc, pm, an, cd, ct, sl, a, b, c, d⟩ := e
 exact ⟨f, _, ok (el b c d), PySem.W.mg_of X G a, d, .all fun us hl => hb kV dc pm an cd ct us hl⟩
section
variable {X : Cx}
end
end PD
namespace PD
open PySem PySem.Spec PyProof.Rows L2
section
variable {X : Cx} {pos : Pos}
end
end PD
namespace HT
open PySem PyProof.Rows
section
open PySem.SeqAt
open PySem.AutoSeq1 (wpAny_loadPart')
open PySem.MeetsSeq PySem.MeetsSeq2 PySem.MeetsSeq3
end
section
variable {prog : Program} {w : World} {A : Around} {E : Value -> Shared -> Prop} {s : Shared}
end
end HT
namespace PD
open PySem PySem.Spec PyProof.Rows L2
section
variable {X : Cx}
end
end PD
namespace PD
open PySem PySem.Spec PyProof.Rows L2
section
variable {prog : Program} {w : World} {A : Around} {E : Value -> Shared -> Prop} {s : Shared} {p : Addr} {us : List Value} {Q : Value -> Shared -> Prop}
end
section
variable {X : Cx} {pos : Pos}
end
end PD
namespace PD
open PySem PySem.Spec PyProof.Rows L2
def gb (P : Program) (w : World) (K : PySem.W.Frag) (mg : Str -> Option Value) (base : Heap) (C : Addr) (m : Str) (k : Nat) (ps : List Str) (sp : DSp) : Prop :=
 ∃ f fd, aC P w K mg base (CX1 P w) k f fd ps (aG K sp) /\ Meth K C m f /\ Binds K fd ps []
section
variable {K : PySem.W.Frag} {P : Bool -> Addr -> Prop} {H : Hp}
theorem ng {f : Str} {x : D} : ∀ {ns : List Str} {ds : List D} {vs : List V}, af K P H ds vs -> (ns.zip ds).lookup f = some x -> ∃ v, (ns.zip vs).lookup f = some v /\ Den K P H x v
 | [], _, _, _, l => by simp at l
 | _ :: _, [], _, _, l => by simp at l
 | n :: ns, d :: ds, _, h, l => by
  simp only [af] at h
  obtain ⟨v, r, rfl, h1, h2⟩ := h
  rw [List.zip_cons_cons, zAU] at l ⊢
  cases e : f == n with
  | true =>
   rw [e] at l
   cases l
   exact ⟨v, rfl, h1⟩
  | false =>
   rw [e] at l
   exact ng h2 l
theorem iZ {m : Str} : ∀ {ns : List Str} {vs : List V}, m ∉ ns -> (ns.zip vs).lookup m = none
 | [], _, _ => by simp
 | _ :: _, [], _ => by simp
 | n :: ns, v :: vs, h => by
  rw [List.zip_cons_cons, zAU]
  have e : (m == n) = false := beq_eq_false_iff_ne.mpr fun z => h (by rw [z]; exact zAO)
  rw [e]
  exact iZ fun z => h (zAK _ z)
end
section
variable {X : Cx} {k : Nat} {ps : List Str} {sp : DSp} {x m f : Str} {p pos apos : Pos} {e o : Expr} {es : List Expr} {te to : DE} {t : DA} {C : Addr}
def ro (C : Addr) (te : DE) (f : Str) : DE := fun ρ Q => te ρ fun d => ∃ ns ds x, d = .obj C ns ds /\ (ns.zip ds).lookup f = some x /\ Q x
theorem bE (c : Cls X.K C) (n : cg X.K C f) (he : PED X e te) (hb : attributeBase e f X.env (eval e X.env) = eval e X.env := by rfl) : PED X (.Attribute e f pos) (ro C te f) := by
 intro pins s σ H W ρ Q I r h
 refine tM hb (thn (he pins s σ H W ρ _ I r h) fun u s1 ⟨v, H1, d, I1, ru, sm, hd, ns, ds, y, e1, l, q⟩ => ?_)
 subst e1
 obtain ⟨a, dx, vs, e2, ha, _, _, hds⟩ := hd.obj_
 subst e2
 cases ru
 obtain ⟨v2, l2, hy⟩ := ng hds l
 exact oN I1 ha c n l2 fun u' s2 I2 ru' => ⟨v2, H1, y, I2, ru', sm, hy, q⟩
def kL (C : Addr) (m : Str) (sp : DSp) (to : DE) (t : DA) : DE := fun ρ Q => to ρ fun d => ∃ ns ds, d = .obj C ns ds /\ m ∉ ns /\ t ρ fun as => sp (aA d :: aF as) Q fun _ => False
theorem jM {pl : Sem Bool} (c : Cls X.K C) (hM : gb X.prog X.w X.K X.mg X.base C m k ps sp) (hr : aW k X.A) (he : PED X o to) (ha : PAD X (e :: es) t)
  (hst : starEach (e :: es) X.env = (false, eval e X.env) :: starEach es X.env := by rfl) (hpl : (backTo pos (starEach es X.env)).any (·.1) = false := by rfl)
  (ht : eval (.Call (.Attribute o m apos) (e :: es) [] pos) X.env = (do
   let ov ← eval o X.env
   standAt apos.atName
   let (f, first) ← holding [ov] (getMethod ov m pl)
   callWith pos f first (backTo pos (starEach (e :: es) X.env)) (backToKw pos (keywordEach [] X.env))) := by rfl) :
  PED X (.Call (.Attribute o m apos) (e :: es) [] pos) (kL C m sp to t) := by
 obtain ⟨f, fd, F, hm, hb⟩ := hM
 intro pins s σ H W ρ Q I r h
 refine PySem.W.methodCall_KW (pl := pl) (thn (he pins s σ H W ρ _ I r h) fun u s1 ⟨v, H1, d, I1, ru, sm, hd, ns, ds, e1, nm, q⟩ => ?_) ht
 subst e1
 have hd0 := hd
 obtain ⟨a, dx, vs, e2, ha', _, _, hds⟩ := hd.obj_
 subst e2
 cases ru
 refine ji I1 ha' c hm (iZ nm) ?_
 refine PySem.W.callWith_K (first := [.ref a]) (h₀ := X.base) I.ok.mod.kin hm.kp (thn (ha pos pins s1 σ H1 W ρ _ I1 (r.same sm) q) fun us s2 ⟨vs2, H2, ds2, I2, rv, sm2, hd2, q2⟩ => ⟨I2.kIn, ?_⟩) hst hpl
 refine thn (o6 (dds := []) (dsv := []) (us := .ref a :: us) (vs := .ref a :: vs2) (ds := .obj C ns ds :: ds2) F hr hb .nil (by simp) jv I2 ((r.same sm).same sm2) (.cons rfl rv) (af.cons (hd0.same sm2) hd2) ?_) fun _ _ z => (z.up sm2).up sm
 rw [zAd, aF]
 exact q2
theorem iY {pl : Sem Bool} (c : Cls X.K C) (hM : gb X.prog X.w X.K X.mg X.base C m k ps sp) (hr : aW k X.A) (he : PED X o to)
  (ht : eval (.Call (.Attribute o m apos) [] [] pos) X.env = (do
   let ov ← eval o X.env
   standAt apos.atName
   let (f, first) ← holding [ov] (getMethod ov m pl)
   callWith pos f first (backTo pos (starEach [] X.env)) (backToKw pos (keywordEach [] X.env))) := by rfl) :
  PED X (.Call (.Attribute o m apos) [] [] pos) (kL C m sp to oj) := by
 obtain ⟨f, fd, F, hm, hb⟩ := hM
 intro pins s σ H W ρ Q I r h
 refine PySem.W.methodCall_KW (pl := pl) (thn (he pins s σ H W ρ _ I r h) fun u s1 ⟨v, H1, d, I1, ru, sm, hd, ns, ds, e1, nm, q⟩ => ?_) ht
 subst e1
 have hd0 := hd
 obtain ⟨a, dx, vs, e2, ha', _, _, hds⟩ := hd.obj_
 subst e2
 cases ru
 refine ji I1 ha' c hm (iZ nm) ?_
 refine PySem.W.callWith_K0 (first := [.ref a]) I1.kIn hm.kp ?_
 refine thn (o6 (dds := []) (dsv := []) (us := [.ref a]) (vs := [.ref a]) (ds := [.obj C ns ds]) F hr hb .nil (by simp) jv I1 (r.same sm) (.cons rfl .nil) (af.one hd0) ?_) fun _ _ z => z.up sm
 rw [zAd, aF]
 exact q
def dEi (t u : DE) : DE := fun ρ Q => t ρ Q ∨ u ρ Q
theorem oB {u : DE} (h1 : PED X e te) (h2 : PED X e u) : PED X e (dEi te u) := fun pins s σ H W ρ Q I r h => h.elim (h1 pins s σ H W ρ Q I r) (h2 pins s σ H W ρ Q I r)
def jz (C : Addr) (ns : List Str) : Sp := fun vs H Q _ => ∃ x us dx, vs = .ref x :: us /\ us.length = ns.length /\ H x = some (.ins C dx []) /\ Q .non (L2.upd H x (.ins C dx (ns.zip us)))
def jE (P : Program) (w : World) (K : PySem.W.Frag) (mg : Str -> Option Value) (base : Heap) (x : Str) (C : Addr) (k : Nat) (ns : List Str) : Prop :=
 ∃ f fd ps, aC P w K mg base (CX1 P w) k f fd ps (jz C ns) /\ Mk K C f /\ mg x = some (.ref C) /\ PX.cK K C /\ Binds K fd ps []
def oh (C : Addr) (ns : List Str) (t : DA) : DE := fun ρ Q => t ρ fun ds => ds.length = ns.length /\ Q (.obj C ns ds)
theorem m5 {ns : List Str} (hC : jE X.prog X.w X.K X.mg X.base x C k ns) (hr : aW (k + 1) X.A) (ha : PAD X (e :: es) t) (hg : Gl X x := by rfl) (hdb : (x == ("__debug__" : Str)) = false := by decide)
  (he : starEach (e :: es) X.env = (false, eval e X.env) :: starEach es X.env := by rfl) (hpl : (backTo pos (starEach es X.env)).any (·.1) = false := by rfl) : PED X (.Call (.Name x p) (e :: es) [] pos) (oh C ns t) := by
 obtain ⟨f, fd, ps, F, M, hm, kc, hb⟩ := hC
 intro pins s σ H W ρ Q I r h
 refine wpAny_Call_Name_kw (iI I hg hm ?_ hdb)
 refine PySem.W.callWith_K (h₀ := X.base) I.ok.mod.kin M.kp (thn (ha pos pins s σ H W ρ _ I r h) fun us s1 ⟨vs, H1, ds, I1, rv, sm, hds, hl, q⟩ => ⟨I1.kIn, ?_⟩) he hpl
 refine thn (sC (Q := fun v H2 => ∃ a dx, v = .ref a /\ ah H1 H2 /\ H2 a = some (.ins C dx (ns.zip vs))) (E := E0) M F hr hb .nil jv I1 rv fun a dx na nd ne => ?_) fun u s2 ⟨v, H2, I2, ru, a, dx, ev, sm2, ha2⟩ => ?_
 ·refine ⟨a, vs, dx, by rw [zAd], by rw [hds.len]; exact hl, ax, rfl, a, dx, rfl, ?_, ax⟩
  rw [fZ]
  exact (ah.upd nd).trans (ah.upd (by rw [aq (Ne.symm ne)]; exact na))
 ·subst ev
  exact ⟨.ref a, H2, _, I2, ru, sm.trans sm2, Den.obj ha2 (by rw [hds.len]; exact hl) kc (hds.same sm2), q⟩
end
end PD
namespace PD
open PySem PySem.Spec PyProof.Rows L2
section
variable {X : Cx} {k : Nat} {ps : List Str} {sp : DSp} {x m f : Str} {p pos apos : Pos} {e o : Expr} {es : List Expr} {te to : DE} {t : DA} {C : Addr}
theorem qP {pins : List (Addr × Obj)} {σ : St} {H : Hp} {s : Shared} {Q : VK} (hm : PySem.W.makesIn X.K C = true) (hi : PySem.W.findIn X.K (.ref C) "__init__" = some (some (.builtin "object.__init__"))) (I : Inv X pins σ H s)
  (h : ∀ x dx, H x = none -> H dx = none -> dx ≠ x -> Q (.ref x) (upd (upd H dx (.own x)) x (.ins C dx []))) : wpAny (model X.prog X.w) X.A (call (.ref C) []) (EP X pins σ Q) X.xe s := by
 have hq := h (s.heap.objs.size + 1) s.heap.objs.size (I.hok.fresh (Nat.le_succ _)) (I.hok.fresh (zAG _)) (zAP (Nat.lt_succ_self _))
 have I2 := Inv.made (C := C) I
 have Y := PySem.W.makes_of (M := model X.prog X.w) I.kIn hm
 refine wpAny_call (qH I.kIn hm hi (fun self => PySem.W.Looks.of_pure (PySem.W.oi_bind self)) ?_)
 have e2 : ((s.heap.push PySem.W.emptyDict).push (PySem.W.instObj C s.heap.objs.size)).get? (s.heap.objs.size + 1) = some (PySem.W.instObj C s.heap.objs.size) := by
  have := zAD (s.heap.push PySem.W.emptyDict) (o := PySem.W.instObj C s.heap.objs.size) rfl
  rwa [zAm] at this
 have t1 : PySem.W.Looks (model X.prog X.w) ((s.heap.push PySem.W.emptyDict).push (PySem.W.instObj C s.heap.objs.size)) (typeOf (.ref (s.heap.objs.size + 1))) (.ref C) := (PySem.W.Looks.ld e2).andThen .now
 have t2 : PySem.W.Looks (model X.prog X.w) ((s.heap.push PySem.W.emptyDict).push (PySem.W.instObj C s.heap.objs.size)) (isInstance (.ref (s.heap.objs.size + 1)) (.type "object")) true := t1.andThen (Y.top.keeps fun b o e => zAA _ (zAA _ e))
 obtain ⟨hh, g, d, tk, os⟩ := s
 refine codeAny_call_builtin PySem.W.oi_plain PySem.W.entry_oi (@PySem.W.check_slot (model X.prog X.w) _ _ _ "object.__init__" "object" "__init__" (.ref (hh.objs.size + 1)) [] [] _ PySem.W.oi_kind PySem.W.oi_split t2 (PySem.W.oi_args (.ref (hh.objs.size + 1))) ?_)
 rw [PySem.W.oi_run]
 exact wpAny_pure (And.intro rfl ⟨V.ref (hh.objs.size + 1), _, I2, rfl, hq⟩)
def nV (K : PySem.W.Frag) (mg : Str -> Option Value) (x : Str) (C : Addr) : Prop :=
 PySem.W.makesIn K C = true /\ PySem.W.findIn K (.ref C) "__init__" = some (some (.builtin "object.__init__")) /\ PySem.W.keepIn K (.ref C) = true /\ mg x = some (.ref C) /\ PX.cK K C
def lq (C : Addr) : DE := fun _ Q => Q (.obj C [] [])
theorem rL (hC : nV X.K X.mg x C) (hg : Gl X x := by rfl) (hdb : (x == ("__debug__" : Str)) = false := by decide) : PED X (.Call (.Name x p) [] [] pos) (lq C) := by
 obtain ⟨hk, hi, kp, hm, kc⟩ := hC
 intro pins s σ H W ρ Q I r h
 refine wpAny_Call_Name_kw (iI I hg hm ?_ hdb)
 refine PySem.W.callWith_K0 I.kIn kp ?_
 refine thn (qP (Q := fun v H2 => ∃ a dx, v = .ref a /\ ah H H2 /\ H2 a = some (.ins C dx [])) hk hi I fun a dx na nd ne => ⟨a, dx, rfl, (ah.upd nd).trans (ah.upd (by rw [aq (Ne.symm ne)]; exact na)), ax⟩) fun u s2 ⟨v, H2, I2, ru, a, dx, ev, sm2, ha2⟩ => ?_
 subst ev
 exact ⟨.ref a, H2, _, I2, ru, sm2, Den.obj (vs := []) ha2 rfl kc af.nil, h⟩
theorem vG {pins : List (Addr × Obj)} {σ : St} {H : Hp} {s : Shared} {P : Bool -> Addr -> Prop} {d : D} {v : V} {u : Value} (I : Inv X pins σ H s) (h : Den X.K P H d v) (r : RelV v u) : ∃ Hh : Heap -> Prop, PySem.W.KitX X.K u (tyV d) Hh /\ Hh s.heap /\ u ≠ .builtin "__main__.__loader__#opaque" := by
 cases d with
 | non => have z := h.non_; subst z; cases r; exact ⟨_, PySem.W.kitx_none, True.intro, (fun z => nomatch z)⟩
 | bl y => have z := h.bl_; subst z; cases r; exact ⟨_, PySem.W.kitx_bool, True.intro, (fun z => nomatch z)⟩
 | int i => have z := h.int_; subst z; obtain ⟨t, rfl⟩ := r; exact ⟨_, PySem.W.kitx_int, True.intro, (fun z => nomatch z)⟩
 | str y => have z := h.str_; subst z; obtain ⟨t, rfl⟩ := r; exact ⟨_, PySem.W.kitx_str, True.intro, (fun z => nomatch z)⟩
 | tup ds =>
  obtain ⟨a, vs, z, hq, _⟩ := h.tup_
  subst z
  cases r
  obtain ⟨its, rv, ⟨o, h1, h2, n, h3⟩, _⟩ := I.tuple hq.w
  exact ⟨_, PySem.W.kitx_tuple, ⟨o, h1, h2⟩, (fun z => nomatch z)⟩
 | lst _ ds =>
  obtain ⟨a, vs, z, _, hq, _⟩ := h.lst_
  subst z
  cases r
  obtain ⟨its, rv, ⟨o, n, h1, h2, _, h3⟩, _⟩ := I.list hq
  exact ⟨_, PySem.W.kitx_list, ⟨o, h1, h2⟩, (fun z => nomatch z)⟩
 | exc c' =>
  obtain ⟨a, z, hq, k⟩ := h.exc_
  subst z
  cases r
  exact ⟨_, PX.lS k, (I.hok a _ hq).1, (fun z => nomatch z)⟩
 | obj C ns ds =>
  obtain ⟨a, dx, vs, z, hq, _, k, _⟩ := h.obj_
  subst z
  cases r
  obtain ⟨od, hI⟩ := ni (I.hok a _ hq)
  exact ⟨_, PySem.W.kitx_own k.pg k.hd k.at_ k.get k.takes k.obj, hI, (fun z => nomatch z)⟩
def rA (T U : String) (te : DE) : DE := fun ρ Q => te ρ fun d => Q (.bl (isT T d || isT U d))
theorem gg {T U : String} {y : Str} {p1 p2 p3 : Pos} {x1} (hg : Gl X "isinstance") (hm : X.mg "isinstance" = none) (hgT : Gl X x) (hmT : X.mg x = none) (hv : bootBuiltins x = some (.type T)) (hT : T = "int" ∨ T = "bool" ∨ T = "tuple" ∨ T = "list" ∨ T = "str")
  (hgU : Gl X y) (hmU : X.mg y = none) (hvU : bootBuiltins y = some (.type U)) (hU : U = "int" ∨ U = "bool" ∨ U = "tuple" ∨ U = "list" ∨ U = "str") (he : PED X e te)
  (hn : x ≠ "__name__" := by decide) (hdb : (x == ("__debug__" : Str)) = false := by decide) (hn2 : y ≠ "__name__" := by decide) (hdb2 : (y == ("__debug__" : Str)) = false := by decide)
  (hst : starEach [e, .Tuple [.Name x p1, .Name y p2] x1 p3] X.env = (false, eval e X.env) :: starEach [.Tuple [.Name x p1, .Name y p2] x1 p3] X.env := by rfl)
  (hst2 : starEach [.Tuple [.Name x p1, .Name y p2] x1 p3] X.env = (false, eval (.Tuple [.Name x p1, .Name y p2] x1 p3) X.env) :: starEach [] X.env := by rfl) (hst3 : (backTo pos (starEach [.Tuple [.Name x p1, .Name y p2] x1 p3] X.env)).any (·.1) = false := by rfl)
  (hs4 : starEach [.Name x p1, .Name y p2] X.env = (false, eval (.Name x p1) X.env) :: starEach [.Name y p2] X.env := by rfl) (hs5 : starEach [.Name y p2] X.env = (false, eval (.Name y p2) X.env) :: starEach [] X.env := by rfl) :
  PED X (.Call (.Name "isinstance" p) [e, .Tuple [.Name x p1, .Name y p2] x1 p3] [] pos) (rA T U te) := by
 intro pins s σ H W ρ Q I rr h
 have hpt : PE X (.Tuple [.Name x p1, .Name y p2] x1 p3) (sJ (cX (tC (.ty T)) (cX (tC (.ty U)) j1))) := vo (bL (jW hgT hmT hv rfl hn hdb) (bL (jW hgU hmU hvU rfl hn2 hdb2) eI hs5) hs4)
 have hpa : PA X [e, .Tuple [.Name x p1, .Name y p2] x1 p3] (cX (kN X te) (cX (sJ (cX (tC (.ty T)) (cX (tC (.ty U)) j1))) j1)) := bL he.pe (bL hpt eI hst2) hst
 refine wpAny_Call_Name_kw (dG I hg hm boot_isinstance ?_ (by decide) (by decide))
 refine PyProof.Rows.callWith_builtin1 (thn (hpa pos pins s σ H (fun vs H1 => ∃ v d a, vs = [v, .ref a] /\ ah H H1 /\ Den X.K W.bad H1 d v /\ H1 a = some (.tup [.ty T, .ty U]) /\ Q (.bl (isT T d || isT U d))) I
  ⟨W, ρ, _, rr, h, fun v H1 d e1 hd q1 => ⟨by rw [sizeLine_eq]; show 2 <= _; omega, fun a ha => ⟨v, d, a, rfl, e1.trans (ah.upd ha), hd.same (ah.upd ha), ax, q1⟩⟩⟩) fun us s1 ⟨vs, H1, I1, rv, v, d, a, ev, e1, hd, ha, q1⟩ => ?_) hst hst3
 subst ev
 cases rv with
 | cons r1 rr =>
  cases rr with
  | cons r2 rr =>
   cases rr
   cases r2
   obtain ⟨Hh, Z, hp, no⟩ := vG I1 hd r1
   obtain ⟨_, its, rv, o, h1, h2, n, h3⟩ := (show aI X.prog X.w H1 s1.heap a (.tup [.ty T, .ty U]) from I1.hok a _ ha)
   have hits : its = [.type T, .type U] := by
    cases rv with
    | cons a1 rv =>
     cases rv with
     | cons a2 rv =>
      cases rv
      cases (show _ = Value.type T from a1)
      cases (show _ = Value.type U from a2)
      rfl
   subst hits
   obtain ⟨oc, od, dat, sl⟩ := o
   cases h2
   cases h3
   have kk : ∀ {V : String}, (V = "int" ∨ V = "bool" ∨ V = "tuple" ∨ V = "list" ∨ V = "str") -> PySem.W.kitOne X.K (tyV d) (.type V) = some (isT V d) := fun hV => kit_ans X.K d (fun c z => by subst z; exact hd.exc_.choose_spec.2.2) (fun C ns ds z => by subst z; obtain ⟨_, _, _, _, _, _, k, _⟩ := hd.obj_; exact k) hV
   refine PySem.W.kia_tup Z I1.kIn hp h1 (b := isT T d || isT U d) ?_ no fun tk => ⟨.bl _, H1, _, I1.tok tk, rfl, e1, Den.bl _, q1⟩
   unfold PySem.W.kitAny PySem.W.kitAny PySem.W.kitAny
   rw [kk hT, kk hU]
   cases isT T d <;> cases isT U d <;> rfl
end
end PD
namespace PD
open PySem PySem.Spec PyProof.Rows L2
def wj (s : Stmt) : List Stmt := match s with
 | .ClassDef _ _ _ b _ _ _ _ _ _ _ => b
 | _ => []
def gf (K : PySem.W.Frag) (C : Addr) : Bool := PySem.W.plainGet K C Str.empty && PySem.W.hasDictIn K C && PySem.W.plainOver K C && PySem.W.findIn K (.ref C) "__setattr__" == some (some (.builtin "object.__setattr__"))
theorem gf.of {K : PySem.W.Frag} {C : Addr} (h : gf K C = true) : Cls K C := by
 unfold gf at h
 simp only [zAk, beq_iff_eq] at h
 exact ⟨h.1.1.1, h.1.1.2, h.1.2, h.2⟩
def FLM (K : PySem.W.Frag) (C : Addr) (m qual : Str) (st : Stmt) : Prop := ∃ (f : Addr) (oc : Value) (od : Option Addr) (kV dc pm : Value) (an : Option Addr) (cd ct : Value) (sl : Array (Option Value)),
 PySem.W.findIn K (.ref C) m = some (some (.ref f)) /\ PySem.W.isFn K (.ref f) = true /\ K.lookup f = some ⟨oc, od, .func (PySem.W.fnOf m qual (bj st) (aU st) (ak st) .none kV dc pm an cd ct), sl⟩ /\ PySem.W.codeIn K cd qual = true /\ PySem.W.keepIn K (.ref f) = true
theorem FLM.mk {K : PySem.W.Frag} {C : Addr} {m qual : Str} {st : Stmt} {f : Addr} {oc : Value} {od : Option Addr} {kV dc pm : Value} {an : Option Addr} {cd ct : Value} {sl : Array (Option Value)} (a : PySem.W.findIn K (.ref C) m = some (some (.ref f))) (i : PySem.W.isFn K (.ref f) = true)
  (b : K.lookup f = some ⟨oc, od, .func (PySem.W.fnOf m qual (bj st) (aU st) (ak st) .none kV dc pm an cd ct), sl⟩) (c : PySem.W.codeIn K cd qual = true) (d : PySem.W.keepIn K (.ref f) = true) : FLM K C m qual st := ⟨f, oc, od, kV, dc, pm, an, cd, ct, sl, a, i, b, c, d⟩
section
variable {K : PySem.W.Frag} {C : Addr} {m qual : Str} {st : Stmt} {mg : Str -> Option Value} {k : Nat} {ps : List Str} {sp : DSp}
theorem FLM.has (e : FLM K C m qual st) (P : Program) (w : World) (base : Heap)
  (ok : ∀ {f : Addr} {fd : FuncData}, aw K m qual st f fd -> aC P w K mg base (CX1 P w) k f fd ps (aG K sp))
  (hb : ∀ (kV dc pm : Value) (an : Option Addr) (cd ct : Value) (us : List Value), us.length = ps.length -> bindArgs (PySem.W.fnOf m qual (bj st) (aU st) (ak st) .none kV dc pm an cd ct) ⟨us, []⟩ = pure (ps.zip us) := by
   intro _ _ _ _ _ _ us hl
   first
    | (obtain ⟨a, e⟩ := r9 hl; subst e; rfl)
    | (obtain ⟨a, b, e⟩ := oO hl; subst e; rfl)
    | (obtain ⟨a, b, c, e⟩ := lT hl; subst e; rfl)
    | (obtain ⟨a, b, c, d, e⟩ := sd hl; subst e; rfl)
    | (obtain ⟨a, b, c, d, e', e⟩ := se hl; subst e; rfl)) : gb P w K mg base C m k ps sp := by
 obtain ⟨f, oc, od, kV, dc, pm, an, cd, ct, sl, a, i, b, c, d⟩ := e
 exact ⟨f, _, ok (el b c d), ⟨a, i, d⟩, .all fun us hl => hb kV dc pm an cd ct us hl⟩
theorem FLM.made {x : Str} {ns : List Str} (e : FLM K C "__init__" qual st) (hm : PySem.W.makesIn K C = true) (hk : PySem.W.keepIn K (.ref C) = true) (hx : mg x = some (.ref C)) (ko : PX.cK K C) (P : Program) (w : World) (base : Heap)
  (ok : ∀ {f : Addr} {fd : FuncData}, aw K "__init__" qual st f fd -> aC P w K mg base (CX1 P w) k f fd ps (jz C ns))
  (hb : ∀ (kV dc pm : Value) (an : Option Addr) (cd ct : Value) (us : List Value), us.length = ps.length -> bindArgs (PySem.W.fnOf "__init__" qual (bj st) (aU st) (ak st) .none kV dc pm an cd ct) ⟨us, []⟩ = pure (ps.zip us) := by
   intro _ _ _ _ _ _ us hl
   first
    | (obtain ⟨a, e⟩ := r9 hl; subst e; rfl)
    | (obtain ⟨a, b, e⟩ := oO hl; subst e; rfl)
    | (obtain ⟨a, b, c, e⟩ := lT hl; subst e; rfl)
    | (obtain ⟨a, b, c, d, e⟩ := sd hl; subst e; rfl)
    | (obtain ⟨a, b, c, d, e', e⟩ := se hl; subst e; rfl)) : jE P w K mg base x C k ns := by
 obtain ⟨f, oc, od, kV, dc, pm, an, cd, ct, sl, a, i, b, c, d⟩ := e
 exact ⟨f, _, ps, ok (el b c d), ⟨hm, a, i, hk⟩, hx, ko, .all fun us hl => hb kV dc pm an cd ct us hl⟩
end
end PD
namespace LW
open PySem PySem.Spec PyProof.Rows L2 PD
seal PD.b6 PD.PSD PD.PED PD.PTD PD.PWD PD.PAD PD.PID PD.PGD PD.kU PD.TsD PD.PEF PD.PKD PD.PPD PD.PDO PD.PFL PD.PPK PD.PEK
local macro_rules | `(tactic| walk_at "sc") => `(tactic| exact ⟨rfl, rfl, rfl, by decide +kernel, rfl, by decide +kernel, by decide +kernel⟩)
def top (i : Nat) : Stmt := PySem.Challenge.pw_halvecut_k71_papers_of_lines.main.body.getD i (.Pass ⟨0, 0, 0, 0⟩)
def mth (i j : Nat) : Stmt := (PD.wj (top i)).getD j (.Pass ⟨0, 0, 0, 0⟩)
abbrev mq : Stmt := top 5
abbrev jX : Stmt := top 9
abbrev mn : Stmt := top 10
abbrev gu : Stmt := top 11
abbrev gx : Stmt := top 14
abbrev ik : Stmt := top 18
abbrev du : Stmt := top 19
abbrev dg : Stmt := top 20
abbrev cM : Stmt := top 21
abbrev ic : Stmt := top 23
abbrev ie : Stmt := top 25
abbrev gy : Stmt := top 26
abbrev fJ : Stmt := top 39
abbrev dO : Stmt := top 40
abbrev eO : Stmt := top 41
abbrev gw : Stmt := top 42
abbrev ig : Stmt := top 43
abbrev fF : Stmt := top 45
abbrev fH : Stmt := top 46
abbrev fG : Stmt := top 47
abbrev fE : Stmt := top 48
abbrev eN : Stmt := top 49
abbrev cy : Stmt := top 50
abbrev fD : Stmt := top 51
abbrev dq : Stmt := top 52
abbrev df : Stmt := mth 33 0
abbrev dN : Stmt := mth 33 1
abbrev cA : Stmt := mth 34 0
abbrev cn : Stmt := mth 34 1
abbrev cB : Stmt := mth 34 2
abbrev bS : Stmt := mth 35 0
abbrev bM : Stmt := mth 35 1
abbrev bT : Stmt := mth 35 2
abbrev eK : Stmt := top 44
abbrev eL : Stmt := top 44
abbrev eM : Stmt := top 44
theorem uq : ay ["number"] ["number"] (ak mq) := by walk_at "sc"
theorem sE : ay ["gauge", "place"] ["gauge", "place"] (ak jX) := by walk_at "sc"
theorem uo : ay ["gauge", "place"] ["gauge", "place"] (ak mn) := by walk_at "sc"
theorem mR : ay ["gauge"] ["gauge"] (ak gu) := by walk_at "sc"
theorem mS : ay ["spot"] ["spot"] (ak gx) := by walk_at "sc"
theorem o8 : ay ["dot"] ["dot"] (ak ik) := by walk_at "sc"
theorem mx : ay ["dots", "colour"] ["dots", "colour"] (ak du) := by walk_at "sc"
theorem sD : ay ["dots", "colour"] ["dots", "colour"] (ak dg) := by walk_at "sc"
theorem gz : ay ["dots", "gauge", "colour", "weights", "dot"] ["dots", "gauge", "colour"] (ak cM) := by walk_at "sc"
theorem o7 : ay ["under", "over", "whole"] ["under", "over", "whole"] (ak ic) := by walk_at "sc"
theorem jy : ay ["dots", "gauge", "colour", "split"] ["dots", "gauge", "colour"] (ak ie) := by walk_at "sc"
theorem cD : ay ["dots", "gauge", "other", "weights", "dot", "spot", "sides"] ["dots", "gauge", "other"] (ak gy) := by walk_at "sc"
theorem mw : ay ["_law_found"] ["_law_found"] (ak fJ) := by walk_at "sc"
theorem jZ : ay ["_law_script", "_law_k"] ["_law_script", "_law_k"] (ak dO) := by walk_at "sc"
theorem bY : ay ["_law_cell", "_law_many", "_law_found", "_law_number", "_law_k"] ["_law_cell", "_law_many"] (ak eO) := by walk_at "sc"
theorem iS : ay ["_law_kind", "_law_cell", "_law_x"] ["_law_kind", "_law_cell"] (ak gw) := by walk_at "sc"
theorem cR : ay ["_law_kind", "_law_cell", "_law_xs", "_law_weight", "_law_x", "_law_y"] ["_law_kind", "_law_cell"] (ak ig) := by walk_at "sc"
theorem ix : ay ["_law_paper", "_law_dots", "_law_due", "_law_found"] ["_law_paper", "_law_dots", "_law_due"] (ak fF) := by walk_at "sc"
theorem mv : ay ["_law_gauge_here", "_law_dot_here"] ["_law_gauge_here", "_law_dot_here"] (ak fH) := by walk_at "sc"
theorem mr : ay ["_law_gauge_here"] ["_law_gauge_here"] (ak fG) := by walk_at "sc"
theorem bB : ay ["_law_dots", "_law_xs", "_law_one", "_law_other", "_law_by", "_law_a", "_law_b", "_law_c"] ["_law_dots", "_law_xs"] (ak fE) := by walk_at "sc"
theorem bh : ay ["_law_dots", "_law_gauge_here", "_law_colour", "_law_under", "_law_over", "_law_every", "_law_dot_here"] ["_law_dots", "_law_gauge_here", "_law_colour"] (ak eN) := by walk_at "sc"
theorem aT : ay ["_law_dots", "_law_gauge_here", "_law_other", "_law_heaviest", "_law_first", "_law_second", "_law_slice_weight", "_law_dot_here"] ["_law_dots", "_law_gauge_here", "_law_other"] (ak cy) := by walk_at "sc"
theorem iu : ay ["_law_paper", "_law_parts", "_law_lists", "_law_dues", "_law_k"] ["_law_paper", "_law_parts", "_law_lists", "_law_dues"] (ak fD) := by walk_at "sc"
theorem bA : ay ["_law_script", "_law_first", "_law_dots", "_law_xs", "_law_lists", "_law_gauge_here", "_law_other", "_law_colours", "_law_one", "_law_two", "_law_dues", "_law_fours", "_law_some", "_law_bare", "_law_fair"] ["_law_script"] (ak dq) := by walk_at "sc"
theorem jx : ay ["self", "dots"] ["self", "dots"] (ak df) := by walk_at "sc"
theorem jY : ay ["self"] ["self"] (ak dN) := by walk_at "sc"
theorem ip : ay ["self", "gauge", "one", "other"] ["self", "gauge", "one", "other"] (ak cA) := by walk_at "sc"
theorem gN : ay ["self", "dots"] ["self", "dots"] (ak cn) := by walk_at "sc"
theorem iq : ay ["self"] ["self"] (ak cB) := by walk_at "sc"
theorem fT : ay ["self", "gauge", "other"] ["self", "gauge", "other"] (ak bS) := by walk_at "sc"
theorem fK : ay ["self", "dots"] ["self", "dots"] (ak bM) := by walk_at "sc"
theorem fU : ay ["self"] ["self"] (ak bT) := by walk_at "sc"
theorem kH : ay ["_law_found", "_law_due", "_law_here", "_law_there"] ["_law_found", "_law_due"] (ak eK) := by walk_at "sc"
theorem dP : ay ["_law_found", "_law_due", "_law_here", "_law_there"] ["_law_found", "_law_due"] (ak eL) := by walk_at "sc"
theorem dQ : ay ["_law_found", "_law_due", "_law_here", "_law_there"] ["_law_found", "_law_due"] (ak eM) := by walk_at "sc"
structure Cls where
 PlaneError : Addr
 NoPlace : Addr
 Paper : Addr
 HalfPaper : Addr
 QuarterPaper : Addr
 InPaper : Addr
 GroupsPaper : Addr
structure COk (K : PySem.W.Frag) (mg : Str -> Option Value) (κ : Cls) : Prop where
 mg_PlaneError : mg "PlaneError" = some (.ref κ.PlaneError)
 mg_NoPlace : mg "NoPlace" = some (.ref κ.NoPlace)
 mg_Paper : mg "Paper" = some (.ref κ.Paper)
 mg_HalfPaper : mg "HalfPaper" = some (.ref κ.HalfPaper)
 mg_QuarterPaper : mg "QuarterPaper" = some (.ref κ.QuarterPaper)
 mg_InPaper : mg "InPaper" = some (.ref κ.InPaper)
 mg_GroupsPaper : mg "GroupsPaper" = some (.ref κ.GroupsPaper)
 cl_Paper : L2.Cls K κ.Paper
 ob_Paper : PX.cK K κ.Paper
 kit_Paper_Paper : PySem.W.kitOne K (.ref κ.Paper) (.ref κ.Paper) = some true
 kit_Paper_HalfPaper : PySem.W.kitOne K (.ref κ.Paper) (.ref κ.HalfPaper) = some false
 kit_Paper_QuarterPaper : PySem.W.kitOne K (.ref κ.Paper) (.ref κ.QuarterPaper) = some false
 kit_Paper_GroupsPaper : PySem.W.kitOne K (.ref κ.Paper) (.ref κ.GroupsPaper) = some false
 cl_HalfPaper : L2.Cls K κ.HalfPaper
 ob_HalfPaper : PX.cK K κ.HalfPaper
 na_HalfPaper_gauge : L2.cg K κ.HalfPaper "gauge"
 na_HalfPaper_one : L2.cg K κ.HalfPaper "one"
 na_HalfPaper_other : L2.cg K κ.HalfPaper "other"
 kit_HalfPaper_Paper : PySem.W.kitOne K (.ref κ.HalfPaper) (.ref κ.Paper) = some true
 kit_HalfPaper_HalfPaper : PySem.W.kitOne K (.ref κ.HalfPaper) (.ref κ.HalfPaper) = some true
 kit_HalfPaper_QuarterPaper : PySem.W.kitOne K (.ref κ.HalfPaper) (.ref κ.QuarterPaper) = some false
 kit_HalfPaper_GroupsPaper : PySem.W.kitOne K (.ref κ.HalfPaper) (.ref κ.GroupsPaper) = some false
 cl_QuarterPaper : L2.Cls K κ.QuarterPaper
 ob_QuarterPaper : PX.cK K κ.QuarterPaper
 na_QuarterPaper_gauge : L2.cg K κ.QuarterPaper "gauge"
 na_QuarterPaper_other : L2.cg K κ.QuarterPaper "other"
 kit_QuarterPaper_Paper : PySem.W.kitOne K (.ref κ.QuarterPaper) (.ref κ.Paper) = some true
 kit_QuarterPaper_HalfPaper : PySem.W.kitOne K (.ref κ.QuarterPaper) (.ref κ.HalfPaper) = some false
 kit_QuarterPaper_QuarterPaper : PySem.W.kitOne K (.ref κ.QuarterPaper) (.ref κ.QuarterPaper) = some true
 kit_QuarterPaper_GroupsPaper : PySem.W.kitOne K (.ref κ.QuarterPaper) (.ref κ.GroupsPaper) = some false
abbrev Dt := Int × Int × Int × Int
def dtD (p : Dt) : D := .tup [.int p.1, .int p.2.1, .int p.2.2.1, .int p.2.2.2]
theorem jP {p q : Dt} (h : dtD p = dtD q) : p = q := by
 unfold dtD at h
 simp only [D.tup.injEq, zAB, D.int.injEq, and_true] at h
 obtain ⟨h1, h2, h3, h4⟩ := h
 exact Prod.ext h1 (Prod.ext h2 (Prod.ext h3 h4))
theorem map_inj {α : Type} {f : α -> D} (hf : ∀ {p q}, f p = f q -> p = q) : ∀ {ps qs : List α}, ps.map f = qs.map f -> ps = qs
 | [], [], _ => rfl
 | [], _ :: _, h => by simp at h
 | _ :: _, [], h => by simp at h
 | p :: ps, q :: qs, h => by
  simp only [zAF, zAB] at h
  rw [hf h.1, map_inj hf h.2]
theorem bK {ps qs : List Dt} (h : ps.map dtD = qs.map dtD) : ps = qs := map_inj jP h
theorem iz (p : Dt) : aA (dtD p) = dtD p := by unfold dtD; simp only [bw, aP, aV, aZ]
theorem iV (ps : List Dt) : aF (ps.map dtD) = ps.map dtD := eg dtD iz ps
theorem nH (p : Dt) : OkN 1 (dtD p) := OkN.tup (.cons (.int _ _) (.cons (.int _ _) (.cons (.int _ _) (.cons (.int _ _) (.nil _)))))
structure GD (p : Dt) : Prop where
 x : Bd 60 p.1
 y : Bd 60 p.2.1
 c0 : 0 <= p.2.2.1
 c2 : p.2.2.1 <= 2
def eZ (col : D) (cs : Int -> Bool) : Prop := (col = .non /\ cs = fun _ => true) ∨ ∃ k : Int, col = .int k /\ cs = fun c => decide (c = k)
theorem eZ.unt {col : D} {cs : Int -> Bool} (h : eZ col cs) : aA col = col := by
 rcases h with ⟨rfl, _⟩ | ⟨k, rfl, _⟩
 ·exact fj
 ·exact aZ _
def gv (g0 g1 g2 : Int) (p : Dt) : Int := g0 + g1 * p.1 + g2 * p.2.1
def w3 (g0 g1 g2 s : Int) (ps : List Dt) : Int := (ps.map fun p => if sg (gv g0 g1 g2 p) = s then p.2.2.2 else 0).sum
def wt (cs : Int -> Bool) (g0 g1 g2 s : Int) (ps : List Dt) : Int := w3 g0 g1 g2 s (ps.filter fun p => cs p.2.2.1)
def tot (cs : Int -> Bool) (ps : List Dt) : Int := ((ps.filter fun p => cs p.2.2.1).map fun p => p.2.2.2).sum
theorem ux (g0 g1 g2 s : Int) (ps : List Dt) (p : Dt) : w3 g0 g1 g2 s (ps ++ [p]) = w3 g0 g1 g2 s ps + if sg (gv g0 g1 g2 p) = s then p.2.2.2 else 0 := by
 unfold w3
 rw [zAW, List.sum_append]
 simp
theorem sg3 (n : Int) : sg n = -1 ∨ sg n = 0 ∨ sg n = 1 := by
 unfold sg
 split
 ·exact .inr (.inr rfl)
 ·split
  ·exact .inl rfl
  ·exact .inr (.inl rfl)
def eF {α : Type} (xs : List α) (lo hi : Option Int) : List α := (xs.drop (HT.sIx xs.length 0 lo)).take (HT.sIx xs.length xs.length hi - HT.sIx xs.length 0 lo)
theorem iC {α : Type} (f : α -> D) (xs : List α) (lo hi : Option Int) : PD.cutD (xs.map f) lo hi = (eF xs lo hi).map f := by
 unfold PD.cutD eF
 rw [zAJ, List.map_take, List.map_drop]
theorem getInt {xs : List Int} {j : Nat} {d : D} (h : (xs.map D.int)[j]? = some d) : ∃ n : Int, d = .int n /\ n ∈ xs /\ j < xs.length := by
 rw [zAQ] at h
 cases e : xs[j]? with
 | none => rw [e] at h; cases h
 | some n =>
  rw [e] at h
  cases h
  exact ⟨n, rfl, zAM e, (zAI.mp e).1⟩
theorem four {xs : List Int} (h : xs.length = 4) : ∃ x y z u : Int, xs = [x, y, z, u] := by
 match xs, h with
 | [x, y, z, u], _ => exact ⟨x, y, z, u, rfl⟩
theorem vR (a b c x : D) : putD (κ := Key) [(.inl (-1), a), (.inl 0, b), (.inl 1, c)] (.inl (-1)) x = [(.inl (-1), x), (.inl 0, b), (.inl 1, c)] := rfl
theorem vS (a b c x : D) : putD (κ := Key) [(.inl (-1), a), (.inl 0, b), (.inl 1, c)] (.inl 0) x = [(.inl (-1), a), (.inl 0, x), (.inl 1, c)] := rfl
theorem vT (a b c x : D) : putD (κ := Key) [(.inl (-1), a), (.inl 0, b), (.inl 1, c)] (.inl 1) x = [(.inl (-1), a), (.inl 0, b), (.inl 1, x)] := rfl
theorem fm {a b : Int} (hb : 0 < b) : 0 <= a.fmod b /\ a.fmod b < b := ⟨Int.fmod_nonneg_of_pos a hb, Int.fmod_lt_of_pos a hb⟩
theorem bdl {n : Nat} {x : Int} (m : Nat) (h : x.natAbs < m) (hm : m <= 2 ^ n) : Bd n x := zAH h hm
theorem p12 : ((10 : Int) ^ (12 : Int).toNat) = 1000000000000 := by decide
theorem lh : q9 10 12 := ⟨by decide, by decide, by decide⟩
def wq (f : Dt -> Bool) : List Dt -> Int
 | [] => 0
 | p :: r => (if f p = true then p.2.2.2 else 0) + wq f r
def Pos (qs : List Dt) : Prop := ∀ p ∈ qs, 0 < p.2.2.2
theorem Pos.tail {p : Dt} {qs : List Dt} (h : Pos (p :: qs)) : Pos qs := fun q hq => h q (zAK _ hq)
theorem nS {f g : Dt -> Bool} : ∀ {qs : List Dt}, Pos qs -> (∀ p ∈ qs, f p = true -> g p = true) -> wq f qs <= wq g qs
 | [], _, _ => Int.le_refl _
 | p :: r, hp, h => by
  have ih := nS hp.tail fun q hq => h q (zAK _ hq)
  have h1 := h p zAO
  have h2 := hp p zAO
  unfold wq
  by_cases hf : f p = true
  ·rw [if_pos hf, if_pos (h1 hf)]; omega
  ·rw [if_neg hf]; split <;> omega
theorem gH {f g : Dt -> Bool} : ∀ {qs : List Dt}, (∀ p ∈ qs, f p = g p) -> wq f qs = wq g qs
 | [], _ => rfl
 | p :: r, h => by
  unfold wq
  rw [h p zAO, gH fun q hq => h q (zAK _ hq)]
theorem uz {f : Dt -> Bool} {qs : List Dt} (h : ∀ p ∈ qs, f p = false) : wq f qs = 0 := by
 induction qs with
 | nil => rfl
 | cons p r ih =>
  unfold wq
  rw [h p zAO, ih fun q hq => h q (zAK _ hq)]
  simp
theorem qW {f : Dt -> Bool} {qs : List Dt} (hp : Pos qs) : 0 <= wq f qs := by
 have := nS (f := fun _ => false) (g := f) hp (fun _ _ z => by cases z)
 rw [uz (f := fun _ => false) fun _ _ => rfl] at this
 exact this
structure Or (lt : Dt -> Dt -> Bool) : Prop where
 ir : ∀ p, lt p p = false
 tr : ∀ p q r, lt p q = true -> lt q r = true -> lt p r = true
 nt : ∀ p q r, lt p q = true -> lt r q = false -> lt p r = true
section
variable {lt : Dt -> Dt -> Bool} {A B : Dt -> Bool} {qs : List Dt}
end
abbrev Vc := Int × Int
def hh (d : Vc) (z : Dt) : Int := d.1 * z.2.1 - d.2 * z.1
def rk (p q : Dt) : Bool := decide (p.1 < q.1 ∨ (p.1 = q.1 /\ p.2.1 < q.2.1))
def op (d : Vc) (p q : Dt) : Bool := decide (hh d p < hh d q) || (decide (hh d p = hh d q) && rk q p)
section
variable {A B : Dt -> Bool} {qs : List Dt} {d : Vc}
end
section
variable {A B : Dt -> Bool} {qs : List Dt}
end
def vec (p q : Dt) : Vc := (q.1 - p.1, q.2.1 - p.2.1)
def wF (qs : List Dt) : List Vc := qs.flatMap fun p => (qs.filter fun q => rk p q).map fun q => vec p q
section
variable {A B : Dt -> Bool} {qs : List Dt}
end
theorem er (f : Dt -> Bool) (p : Dt) : ∀ qs : List Dt, wq f (qs ++ [p]) = wq f qs + if f p = true then p.2.2.2 else 0
 | [] => by simp [wq]
 | q :: r => by
  rw [List.cons_append]
  unfold wq
  rw [er f p r]
  omega
theorem pf (cs : Int -> Bool) (g0 g1 g2 s : Int) : ∀ ps : List Dt, wt cs g0 g1 g2 s ps = wq (fun z => cs z.2.2.1 && decide (sg (gv g0 g1 g2 z) = s)) ps
 | [] => rfl
 | p :: r => by
  have ih := pf cs g0 g1 g2 s r
  unfold wt w3 at ih ⊢
  unfold wq
  rw [<- ih]
  by_cases hc : cs p.2.2.1 = true
  ·rw [List.filter_cons_of_pos (by simpa using hc), zAF, List.sum_cons]
   simp [hc]
  ·rw [List.filter_cons_of_neg (by simpa using hc)]
   simp [hc]
theorem mE (cs : Int -> Bool) : ∀ ps : List Dt, tot cs ps = wq (fun z => cs z.2.2.1) ps
 | [] => rfl
 | p :: r => by
  have ih := mE cs r
  unfold tot at ih ⊢
  unfold wq
  rw [<- ih]
  by_cases hc : cs p.2.2.1 = true
  ·rw [List.filter_cons_of_pos (by simpa using hc), zAF, List.sum_cons]
   simp [hc]
  ·rw [List.filter_cons_of_neg (by simpa using hc)]
   simp [hc]
def prD (ij : Nat × Nat) : D := .tup [.int ij.1, .int ij.2]
theorem gE (a : Nat × Nat) : aA (prD a) = prD a := by unfold prD; simp only [bw, aP, aV, aZ]
theorem jD (ps : List (Nat × Nat)) : aF (ps.map prD) = ps.map prD := eg prD gE ps
def prO : Option (Nat × Nat) -> D
 | none => .non
 | some ij => prD ij
theorem kA (o : Option (Nat × Nat)) : aA (prO o) = prO o := by
 cases o with
 | none => exact fj
 | some a => exact gE a
def tu (pk : List Nat) : Nat := match pk.getLast? with
 | none => 0
 | some l => l + 1
def nxt (n : Nat) (pk : List Nat) : List (List Nat) := (List.range' (tu pk) (n - tu pk)).map fun k => pk ++ [k]
def gp (ps : List Dt) (i : Nat) : Dt := ps.getD i (0, 0, 0, 0)
def inc (a b : Int) (p : Dt) : Bool := decide (p.2.2.1 = a) || decide (p.2.2.1 = b)
def kp (p : Dt) : List Key := [.inl p.1, .inl p.2.1]
structure Met (a b : Int) (done : List Dt) (kvs : List (List Key × D)) : Prop where
 nd : (kvs.map (·.1)).Nodup
 mem : ∀ k, k ∈ kvs.map (·.1) ↔ ∃ p ∈ done, inc a b p = true /\ k = kp p
 len : kvs.length <= done.length
theorem p8 : ((10 : Int) ^ (8 : Int).toNat) = 100000000 := by decide
def hv (p : Dt) : Dt := (p.1, p.2.1, p.2.2.1, 9 * p.2.2.2)
def qf (f h : Dt -> Int) (a b : Int) (ps : List Dt) : Int := wq (fun z => decide (sg (f z) = a) && decide (sg (h z) = b)) ps
def WA (ps : List Dt) : Int := wq (fun _ => true) ps
def iF (f h : Dt -> Int) (ps : List Dt) : List Int := [qf f h (-1) (-1) ps, qf f h (-1) 1 ps, qf f h 1 (-1) ps, qf f h 1 1 ps]
def quB (f h : Dt -> Int) (ps : List Dt) : Bool := decide (4 * qf f h (-1) (-1) ps <= WA ps /\ 4 * qf f h (-1) 1 ps <= WA ps /\ 4 * qf f h 1 (-1) ps <= WA ps /\ 4 * qf f h 1 1 ps <= WA ps)
theorem wo {f h : Dt -> Int} {ps : List Dt} {m : Int} (h1 : m ∈ iF f h ps) (h2 : ∀ n ∈ iF f h ps, n <= m) : decide (4 * m <= WA ps) = quB f h ps := by
 unfold quB iF at *
 simp only [zAN, zAY, or_false] at h1
 have a := h2 _ (zAO ..)
 have b := h2 (qf f h (-1) 1 ps) (by simp)
 have c := h2 (qf f h 1 (-1) ps) (by simp)
 have d := h2 (qf f h 1 1 ps) (by simp)
 apply decide_eq_decide.mpr
 rcases h1 with e | e | e | e <;> omega
def dT4 (a b c d : Int) : List (List Key × D) := [([.inl (-1), .inl (-1)], .int a), ([.inl (-1), .inl 1], .int b), ([.inl 1, .inl (-1)], .int c), ([.inl 1, .inl 1], .int d)]
theorem pu1 (a b c d x : Int) : putD (dT4 a b c d) [Sum.inl (-1), Sum.inl (-1)] (.int x) = dT4 x b c d := rfl
theorem pu2 (a b c d x : Int) : putD (dT4 a b c d) [Sum.inl (-1), Sum.inl 1] (.int x) = dT4 a x c d := rfl
theorem pu3 (a b c d x : Int) : putD (dT4 a b c d) [Sum.inl 1, Sum.inl (-1)] (.int x) = dT4 a b x d := rfl
theorem pu4 (a b c d x : Int) : putD (dT4 a b c d) [Sum.inl 1, Sum.inl 1] (.int x) = dT4 a b c x := rfl
theorem qX : ∀ ps : List Dt, (ps.map fun p => p.2.2.2).sum = WA ps
 | [] => rfl
 | p :: r => by
  have ih := qX r
  unfold WA at ih ⊢
  rw [zAF, List.sum_cons, ih]
  simp [wq]
theorem bo {s1 s2 : DS} {E : d4} {ρ : Ro} (P : Ro -> Prop) (h2 : ∀ ρ', P ρ' -> s2 E ρ') (h1 : ∀ K : Ro -> Prop, (∀ ρ', P ρ' -> K ρ') -> s1 { E with nx := K } ρ) : ou s1 s2 E ρ := h1 _ h2
theorem kz (C : Addr) (ns : List Str) (ds : List D) : aA (.obj C ns ds) = .obj C ns (aF ds) := by rw [aA]
abbrev oH (C : Addr) (g a b : D) : D := .obj C ["gauge", "one", "other"] [g, a, b]
abbrev oQ (C : Addr) (g o : D) : D := .obj C ["gauge", "other"] [g, o]
theorem lH (C : Addr) (g a b : D) (R : D -> Prop) : (∃ ns ds x, D.obj C ["gauge", "one", "other"] [g, a, b] = .obj C ns ds /\ (ns.zip ds).lookup ("gauge" : Str) = some x /\ R x) = R g :=
 propext ⟨fun ⟨ns, ds, x, e, l, q⟩ => by cases e; cases (show some g = some x from l); exact q, fun q => ⟨_, _, _, rfl, rfl, q⟩⟩
theorem qh (C : Addr) (g a b : D) (R : D -> Prop) : (∃ ns ds x, D.obj C ["gauge", "one", "other"] [g, a, b] = .obj C ns ds /\ (ns.zip ds).lookup ("one" : Str) = some x /\ R x) = R a :=
 propext ⟨fun ⟨ns, ds, x, e, l, q⟩ => by cases e; cases (show some a = some x from l); exact q, fun q => ⟨_, _, _, rfl, rfl, q⟩⟩
theorem lJ (C : Addr) (g a b : D) (R : D -> Prop) : (∃ ns ds x, D.obj C ["gauge", "one", "other"] [g, a, b] = .obj C ns ds /\ (ns.zip ds).lookup ("other" : Str) = some x /\ R x) = R b :=
 propext ⟨fun ⟨ns, ds, x, e, l, q⟩ => by cases e; cases (show some b = some x from l); exact q, fun q => ⟨_, _, _, rfl, rfl, q⟩⟩
theorem lK (C : Addr) (g a : D) (R : D -> Prop) : (∃ ns ds x, D.obj C ["gauge", "other"] [g, a] = .obj C ns ds /\ (ns.zip ds).lookup ("gauge" : Str) = some x /\ R x) = R g :=
 propext ⟨fun ⟨ns, ds, x, e, l, q⟩ => by cases e; cases (show some g = some x from l); exact q, fun q => ⟨_, _, _, rfl, rfl, q⟩⟩
theorem lL (C : Addr) (g a : D) (R : D -> Prop) : (∃ ns ds x, D.obj C ["gauge", "other"] [g, a] = .obj C ns ds /\ (ns.zip ds).lookup ("other" : Str) = some x /\ R x) = R a :=
 propext ⟨fun ⟨ns, ds, x, e, l, q⟩ => by cases e; cases (show some a = some x from l); exact q, fun q => ⟨_, _, _, rfl, rfl, q⟩⟩
theorem iO (i : Int) : isT "tuple" (.int i) = false := by show ("int" == "tuple" || ("int" == "bool" && "tuple" == "int")) = false; decide +kernel
theorem jm (i : Int) : isT "list" (.int i) = false := by show ("int" == "list" || ("int" == "bool" && "list" == "int")) = false; decide +kernel
theorem iN (ds : List D) : isT "list" (.tup ds) = false := by show ("tuple" == "list" || ("tuple" == "bool" && "list" == "int")) = false; decide +kernel
theorem jk (b : Bool) : isT "bool" (.bl b) = true := by show ("bool" == "bool" || ("bool" == "bool" && "bool" == "int")) = true; decide +kernel
theorem mF (ds : List D) : List.zipWith (fun x y => D.tup [x, y]) ds ds = ds.map fun d => .tup [d, d] := by rw [List.zipWith_self]
def hB (g0 g1 g2 k : Int) (ps : List Dt) : Bool := decide (2 * max (wt (fun c => decide (c = k)) g0 g1 g2 (-1) ps) (wt (fun c => decide (c = k)) g0 g1 g2 1 ps) <= tot (fun c => decide (c = k)) ps)
theorem qA (p : Dt) (R : D -> Prop) : ib (dtD p) (.int 0) R = R (.int p.1) := by unfold dtD; simp only [de, at0, eh]
theorem qB (p : Dt) (R : D -> Prop) : ib (dtD p) (.int 1) R = R (.int p.2.1) := by unfold dtD; simp only [de, at1, eh]
theorem qC (p : Dt) (R : D -> Prop) : ib (dtD p) (.int 2) R = R (.int p.2.2.1) := by unfold dtD; simp only [de, at2, eh]
theorem qD (p : Dt) (R : D -> Prop) : ib (dtD p) (.int 3) R = R (.int p.2.2.2) := by unfold dtD; simp only [de, at3, eh]
theorem sF {x : Int} : sg x = -1 ↔ x < 0 := by
 unfold sg
 constructor
 ·intro h
  split at h
  ·omega
  ·split at h <;> omega
 ·intro h
  rw [if_neg (by omega), if_pos h]
theorem sG {x : Int} : sg x = 1 ↔ 0 < x := by
 unfold sg
 constructor
 ·intro h
  split at h
  ·assumption
  ·split at h <;> omega
 ·intro h
  rw [if_pos h]
theorem vD (g0 g1 g2 k : Int) (ps : List Dt) : hB g0 g1 g2 k ps = decide (2 * wq (fun z => decide (z.2.2.1 = k) && decide (gv g0 g1 g2 z < 0)) ps <= wq (fun z => decide (z.2.2.1 = k)) ps /\ 2 * wq (fun z => decide (z.2.2.1 = k) && decide (0 < gv g0 g1 g2 z)) ps <= wq (fun z => decide (z.2.2.1 = k)) ps) := by
 unfold hB
 rw [pf, pf, mE]
 rw [gH (g := fun z => decide (z.2.2.1 = k) && decide (gv g0 g1 g2 z < 0)) fun z _ => by rw [decide_eq_decide.mpr sF], gH (f := fun z => decide (z.2.2.1 = k) && decide (sg (gv g0 g1 g2 z) = 1)) (g := fun z => decide (z.2.2.1 = k) && decide (0 < gv g0 g1 g2 z)) fun z _ => by rw [decide_eq_decide.mpr sG]]
 exact decide_eq_decide.mpr (by omega)
def hvF (f h : Dt -> Int) (ps : List Dt) (l : List (Int × Int)) : Int := l.foldl (fun m ab => max m (qf f h ab.1 ab.2 ps)) 0
theorem rW (f h : Dt -> Int) (ps : List Dt) (l : List (Int × Int)) (ab : Int × Int) : hvF f h ps (l ++ [ab]) = max (hvF f h ps l) (qf f h ab.1 ab.2 ps) := by
 unfold hvF
 rw [List.foldl_append]
 rfl
theorem vp {f h : Dt -> Int} {a b : Int} (ha : a = 1 ∨ a = -1) (hb : b = 1 ∨ b = -1) (ps : List Dt) : wq (fun z => decide (0 < a * f z) && decide (0 < b * h z)) ps = qf f h a b ps := by
 unfold qf
 refine gH fun z _ => ?_
 have e1 : (0 < a * f z) ↔ sg (f z) = a := by
  rcases ha with rfl | rfl
  ·rw [sG, Int.one_mul]
  ·rw [sF]; omega
 have e2 : (0 < b * h z) ↔ sg (h z) = b := by
  rcases hb with rfl | rfl
  ·rw [sG, Int.one_mul]
  ·rw [sF]; omega
 rw [decide_eq_decide.mpr e1, decide_eq_decide.mpr e2]
theorem uV {f h : Dt -> Int} {ps : List Dt} (hp : Pos ps) : decide (4 * hvF f h ps [(1, 1), (1, -1), (-1, 1), (-1, -1)] <= WA ps) = quB f h ps := by
 have w0 : 0 <= WA ps := qW hp
 unfold quB hvF
 simp only [List.foldl_cons, List.foldl_nil]
 exact decide_eq_decide.mpr (by omega)
theorem jH {α : Type} {xs : List α} {lo hi : Nat} : (eF xs (some (lo : Int)) (some (hi : Int))).length = min (min hi xs.length - min lo xs.length) (xs.length - min lo xs.length) := by
 unfold eF
 rw [HT.nO, HT.nO, zAs, List.length_drop]
theorem uG {α : Type} (xs : List α) (lo hi : Option Int) : (eF xs lo hi).length <= xs.length := by
 unfold eF
 rw [zAs, List.length_drop]
 omega
theorem iJ {α : Type} {xs : List α} {lo hi : Option Int} {x : α} (h : x ∈ eF xs lo hi) : x ∈ xs := List.mem_of_mem_drop (List.mem_of_mem_take h)
def lvB (g1 g2 : Int) : Bool := decide (g1 = 0 /\ g2 = 0)
def hH (g0 g1 g2 a b : Int) (ps : List Dt) : Bool := (hB g0 g1 g2 a ps && hB g0 g1 g2 b ps) && !lvB g1 g2
def hQ (g0 g1 g2 o0 o1 o2 : Int) (ps : List Dt) : Bool := quB (gv g0 g1 g2) (gv o0 o1 o2) ps && (!lvB g1 g2 && !lvB o1 o2)
def j0 (κ : Cls) : DSp := fun ds Q Ed => ∃ (n : Int), ds = [.int n] /\ (Q (.int (sg n)))
theorem jC (κ : Cls) (n : Int) (Q : D -> Prop) (Ed : Value -> Prop) : j0 κ [.int n] Q Ed = (Q (.int (sg n))) := by
 apply propext
 constructor
 ·rintro ⟨x0, e, q⟩
  simp only [T3, zAB, D.int.injEq, D.tup.injEq, D.lst.injEq, and_true, true_and] at e
  obtain rfl := e
  exact q
 ·intro q; exact ⟨_, rfl, q⟩
def i6 (κ : Cls) : DSp := fun ds Q Ed => ∃ (g0 g1 g2 : Int) (p0 p1 p2 : Int), ds = [T3 g0 g1 g2, T3 p0 p1 p2] /\ (Bd 1000 g0 /\ Bd 1000 g1 /\ Bd 1000 g2 /\ Bd 1000 p0 /\ Bd 1000 p1 /\ Bd 1000 p2 /\ Q (.int (g0 * p0 + g1 * p1 + g2 * p2)))
theorem iU (κ : Cls) (g0 g1 g2 : Int) (p0 p1 p2 : Int) (Q : D -> Prop) (Ed : Value -> Prop) : i6 κ [T3 g0 g1 g2, T3 p0 p1 p2] Q Ed = (Bd 1000 g0 /\ Bd 1000 g1 /\ Bd 1000 g2 /\ Bd 1000 p0 /\ Bd 1000 p1 /\ Bd 1000 p2 /\ Q (.int (g0 * p0 + g1 * p1 + g2 * p2))) := by
 apply propext
 constructor
 ·rintro ⟨x0, x1, x2, x3, x4, x5, e, q⟩
  simp only [T3, zAB, D.int.injEq, D.tup.injEq, D.lst.injEq, and_true, true_and] at e
  obtain ⟨⟨rfl, rfl, rfl⟩, ⟨rfl, rfl, rfl⟩⟩ := e
  exact q
 ·intro q; exact ⟨_, _, _, _, _, _, rfl, q⟩
def iL (κ : Cls) : DSp := fun ds Q Ed => ∃ (g0 g1 g2 : Int) (p0 p1 p2 : Int), ds = [T3 g0 g1 g2, T3 p0 p1 p2] /\ (Bd 1000 g0 /\ Bd 1000 g1 /\ Bd 1000 g2 /\ Bd 1000 p0 /\ Bd 1000 p1 /\ Bd 1000 p2 /\ Q (.int (sg (g0 * p0 + g1 * p1 + g2 * p2))))
theorem jB (κ : Cls) (g0 g1 g2 : Int) (p0 p1 p2 : Int) (Q : D -> Prop) (Ed : Value -> Prop) : iL κ [T3 g0 g1 g2, T3 p0 p1 p2] Q Ed = (Bd 1000 g0 /\ Bd 1000 g1 /\ Bd 1000 g2 /\ Bd 1000 p0 /\ Bd 1000 p1 /\ Bd 1000 p2 /\ Q (.int (sg (g0 * p0 + g1 * p1 + g2 * p2)))) := by
 apply propext
 constructor
 ·rintro ⟨x0, x1, x2, x3, x4, x5, e, q⟩
  simp only [T3, zAB, D.int.injEq, D.tup.injEq, D.lst.injEq, and_true, true_and] at e
  obtain ⟨⟨rfl, rfl, rfl⟩, ⟨rfl, rfl, rfl⟩⟩ := e
  exact q
 ·intro q; exact ⟨_, _, _, _, _, _, rfl, q⟩
def dz (κ : Cls) : DSp := fun ds Q Ed => ∃ (a b : Int), ds = [.tup [.int a, .int b]] /\ (Q (T3 1 a b))
theorem fX (κ : Cls) (a b : Int) (Q : D -> Prop) (Ed : Value -> Prop) : dz κ [.tup [.int a, .int b]] Q Ed = (Q (T3 1 a b)) := by
 apply propext
 constructor
 ·rintro ⟨x0, x1, e, q⟩
  simp only [T3, zAB, D.int.injEq, D.tup.injEq, D.lst.injEq, and_true, true_and] at e
  obtain ⟨rfl, rfl⟩ := e
  exact q
 ·intro q; exact ⟨_, _, rfl, q⟩
def d9 (κ : Cls) : DSp := fun ds Q Ed => ∃ (p : Dt), ds = [dtD p] /\ (Q (.tup [.int p.1, .int p.2.1]))
theorem gK (κ : Cls) (p : Dt) (Q : D -> Prop) (Ed : Value -> Prop) : d9 κ [dtD p] Q Ed = (Q (.tup [.int p.1, .int p.2.1])) := by
 apply propext
 constructor
 ·rintro ⟨x0, e, q⟩
  simp only [T3, zAB, D.int.injEq, D.tup.injEq, D.lst.injEq, and_true, true_and] at e
  have e_p := e
  have f_p := jP e_p
  subst f_p
  exact q
 ·intro q; exact ⟨_, rfl, q⟩
def cW (κ : Cls) : DSp := fun ds Q Ed => ∃ (ps : List Dt) (col : D), ds = [.lst false (ps.map dtD), col] /\ (∃ cs : Int -> Bool, eZ col cs /\ ps.length <= 60 /\ Q (.lst true ((ps.filter fun p => cs p.2.2.1).map dtD)))
theorem fi (κ : Cls) (ps : List Dt) (col : D) (Q : D -> Prop) (Ed : Value -> Prop) : cW κ [.lst false (ps.map dtD), col] Q Ed = (∃ cs : Int -> Bool, eZ col cs /\ ps.length <= 60 /\ Q (.lst true ((ps.filter fun p => cs p.2.2.1).map dtD))) := by
 apply propext
 constructor
 ·rintro ⟨x0, x1, e, q⟩
  simp only [T3, zAB, D.int.injEq, D.tup.injEq, D.lst.injEq, and_true, true_and] at e
  obtain ⟨e_ps, rfl⟩ := e
  have f_ps := bK e_ps
  subst f_ps
  exact q
 ·intro q; exact ⟨_, _, rfl, q⟩
def eX (κ : Cls) : DSp := fun ds Q Ed => ∃ (ps : List Dt) (col : D), ds = [.lst false (ps.map dtD), col] /\ (∃ cs : Int -> Bool, eZ col cs /\ ps.length <= 60 /\ Q (.int (tot cs ps)))
theorem iT (κ : Cls) (ps : List Dt) (col : D) (Q : D -> Prop) (Ed : Value -> Prop) : eX κ [.lst false (ps.map dtD), col] Q Ed = (∃ cs : Int -> Bool, eZ col cs /\ ps.length <= 60 /\ Q (.int (tot cs ps))) := by
 apply propext
 constructor
 ·rintro ⟨x0, x1, e, q⟩
  simp only [T3, zAB, D.int.injEq, D.tup.injEq, D.lst.injEq, and_true, true_and] at e
  obtain ⟨e_ps, rfl⟩ := e
  have f_ps := bK e_ps
  subst f_ps
  exact q
 ·intro q; exact ⟨_, _, rfl, q⟩
def ef (κ : Cls) : DSp := fun ds Q Ed => ∃ (ps : List Dt) (g0 g1 g2 : Int) (col : D), ds = [.lst false (ps.map dtD), T3 g0 g1 g2, col] /\ (∃ cs : Int -> Bool, eZ col cs /\ ps.length <= 60 /\ Bd 1000 g0 /\ Bd 1000 g1 /\ Bd 1000 g2 /\ (∀ p ∈ ps, GD p) /\ Q (.tup [.int (wt cs g0 g1 g2 (-1) ps), .int (wt cs g0 g1 g2 0 ps), .int (wt cs g0 g1 g2 1 ps)]))
theorem gL (κ : Cls) (ps : List Dt) (g0 g1 g2 : Int) (col : D) (Q : D -> Prop) (Ed : Value -> Prop) : ef κ [.lst false (ps.map dtD), T3 g0 g1 g2, col] Q Ed = (∃ cs : Int -> Bool, eZ col cs /\ ps.length <= 60 /\ Bd 1000 g0 /\ Bd 1000 g1 /\ Bd 1000 g2 /\ (∀ p ∈ ps, GD p) /\ Q (.tup [.int (wt cs g0 g1 g2 (-1) ps), .int (wt cs g0 g1 g2 0 ps), .int (wt cs g0 g1 g2 1 ps)])) := by
 apply propext
 constructor
 ·rintro ⟨x0, x1, x2, x3, x4, e, q⟩
  simp only [T3, zAB, D.int.injEq, D.tup.injEq, D.lst.injEq, and_true, true_and] at e
  obtain ⟨e_ps, ⟨rfl, rfl, rfl⟩, rfl⟩ := e
  have f_ps := bK e_ps
  subst f_ps
  exact q
 ·intro q; exact ⟨_, _, _, _, _, rfl, q⟩
def dw (κ : Cls) : DSp := fun ds Q Ed => ∃ (g0 g1 g2 : Int), ds = [T3 g0 g1 g2] /\ (Q (.bl (decide (g1 = 0 /\ g2 = 0))))
theorem fV (κ : Cls) (g0 g1 g2 : Int) (Q : D -> Prop) (Ed : Value -> Prop) : dw κ [T3 g0 g1 g2] Q Ed = (Q (.bl (decide (g1 = 0 /\ g2 = 0)))) := by
 apply propext
 constructor
 ·rintro ⟨x0, x1, x2, e, q⟩
  simp only [T3, zAB, D.int.injEq, D.tup.injEq, D.lst.injEq, and_true, true_and] at e
  obtain ⟨rfl, rfl, rfl⟩ := e
  exact q
 ·intro q; exact ⟨_, _, _, rfl, q⟩
def fM (κ : Cls) : DSp := fun ds Q Ed => ∃ (ps : List Dt) (g0 g1 g2 : Int) (o0 o1 o2 : Int), ds = [.lst false (ps.map dtD), T3 g0 g1 g2, T3 o0 o1 o2] /\ (Bd 1000 g0 /\ Bd 1000 g1 /\ Bd 1000 g2 /\ Bd 1000 o0 /\ Bd 1000 o1 /\ Bd 1000 o2 /\ ps.length <= 60 /\ (∀ p ∈ ps, GD p) /\ Q (.lst true ((iF (gv g0 g1 g2) (gv o0 o1 o2) ps).map D.int)))
theorem fY (κ : Cls) (ps : List Dt) (g0 g1 g2 : Int) (o0 o1 o2 : Int) (Q : D -> Prop) (Ed : Value -> Prop) : fM κ [.lst false (ps.map dtD), T3 g0 g1 g2, T3 o0 o1 o2] Q Ed = (Bd 1000 g0 /\ Bd 1000 g1 /\ Bd 1000 g2 /\ Bd 1000 o0 /\ Bd 1000 o1 /\ Bd 1000 o2 /\ ps.length <= 60 /\ (∀ p ∈ ps, GD p) /\ Q (.lst true ((iF (gv g0 g1 g2) (gv o0 o1 o2) ps).map D.int))) := by
 apply propext
 constructor
 ·rintro ⟨x0, x1, x2, x3, x4, x5, x6, e, q⟩
  simp only [T3, zAB, D.int.injEq, D.tup.injEq, D.lst.injEq, and_true, true_and] at e
  obtain ⟨e_ps, ⟨rfl, rfl, rfl⟩, ⟨rfl, rfl, rfl⟩⟩ := e
  have f_ps := bK e_ps
  subst f_ps
  exact q
 ·intro q; exact ⟨_, _, _, _, _, _, _, rfl, q⟩
def gA (κ : Cls) : DSp := fun ds Q Ed => ∃ (u : Int) (o : Int) (w : Int), ds = [.int u, .int o, .int w] /\ (Q (.bl (decide (2 * max u o <= w))))
theorem gI (κ : Cls) (u : Int) (o : Int) (w : Int) (Q : D -> Prop) (Ed : Value -> Prop) : gA κ [.int u, .int o, .int w] Q Ed = (Q (.bl (decide (2 * max u o <= w)))) := by
 apply propext
 constructor
 ·rintro ⟨x0, x1, x2, e, q⟩
  simp only [T3, zAB, D.int.injEq, D.tup.injEq, D.lst.injEq, and_true, true_and] at e
  obtain ⟨rfl, rfl, rfl⟩ := e
  exact q
 ·intro q; exact ⟨_, _, _, rfl, q⟩
def gB (κ : Cls) : DSp := fun ds Q Ed => ∃ (ps : List Dt) (g0 g1 g2 : Int) (k : Int), ds = [.lst false (ps.map dtD), T3 g0 g1 g2, .int k] /\ (ps.length <= 60 /\ Bd 1000 g0 /\ Bd 1000 g1 /\ Bd 1000 g2 /\ (∀ p ∈ ps, GD p) /\ Q (.bl (decide (2 * max (wt (fun c => decide (c = k)) g0 g1 g2 (-1) ps) (wt (fun c => decide (c = k)) g0 g1 g2 1 ps) <= tot (fun c => decide (c = k)) ps))))
theorem gJ (κ : Cls) (ps : List Dt) (g0 g1 g2 : Int) (k : Int) (Q : D -> Prop) (Ed : Value -> Prop) : gB κ [.lst false (ps.map dtD), T3 g0 g1 g2, .int k] Q Ed = (ps.length <= 60 /\ Bd 1000 g0 /\ Bd 1000 g1 /\ Bd 1000 g2 /\ (∀ p ∈ ps, GD p) /\ Q (.bl (decide (2 * max (wt (fun c => decide (c = k)) g0 g1 g2 (-1) ps) (wt (fun c => decide (c = k)) g0 g1 g2 1 ps) <= tot (fun c => decide (c = k)) ps)))) := by
 apply propext
 constructor
 ·rintro ⟨x0, x1, x2, x3, x4, e, q⟩
  simp only [T3, zAB, D.int.injEq, D.tup.injEq, D.lst.injEq, and_true, true_and] at e
  obtain ⟨e_ps, ⟨rfl, rfl, rfl⟩, rfl⟩ := e
  have f_ps := bK e_ps
  subst f_ps
  exact q
 ·intro q; exact ⟨_, _, _, _, _, rfl, q⟩
def cx (κ : Cls) : DSp := fun ds Q Ed => ∃ (a : Int), ds = [.int a] /\ (Q (.bl true))
theorem fh (κ : Cls) (a : Int) (Q : D -> Prop) (Ed : Value -> Prop) : cx κ [.int a] Q Ed = (Q (.bl true)) := by
 apply propext
 constructor
 ·rintro ⟨x0, e, q⟩
  simp only [T3, zAB, D.int.injEq, D.tup.injEq, D.lst.injEq, and_true, true_and] at e
  obtain rfl := e
  exact q
 ·intro q; exact ⟨_, rfl, q⟩
def di (κ : Cls) : DSp := fun ds Q Ed => ∃ (ns : List Int) (k : Int), ds = [.lst false (ns.map D.int), .int k] /\ (0 <= k /\ ns.length <= 63 /\ ∀ v : Int, Q (.int v))
theorem dZ (κ : Cls) (ns : List Int) (k : Int) (Q : D -> Prop) (Ed : Value -> Prop) : di κ [.lst false (ns.map D.int), .int k] Q Ed = (0 <= k /\ ns.length <= 63 /\ ∀ v : Int, Q (.int v)) := by
 apply propext
 constructor
 ·rintro ⟨x0, x1, e, q⟩
  simp only [T3, zAB, D.int.injEq, D.tup.injEq, D.lst.injEq, and_true, true_and] at e
  obtain ⟨e_ns, rfl⟩ := e
  have f_ns := iR e_ns
  subst f_ns
  exact q
 ·intro q; exact ⟨_, _, rfl, q⟩
def cI (κ : Cls) : DSp := fun ds Q Ed => ∃ (c : Int) (m : Int), ds = [.int c, .int m] /\ (0 <= m /\ m < 1000 /\ ∀ xs : List Int, xs.length = m.toNat -> (∀ x ∈ xs, 0 <= x /\ x < 2147483647) -> Q (.lst true (xs.map D.int)))
theorem eW (κ : Cls) (c : Int) (m : Int) (Q : D -> Prop) (Ed : Value -> Prop) : cI κ [.int c, .int m] Q Ed = (0 <= m /\ m < 1000 /\ ∀ xs : List Int, xs.length = m.toNat -> (∀ x ∈ xs, 0 <= x /\ x < 2147483647) -> Q (.lst true (xs.map D.int))) := by
 apply propext
 constructor
 ·rintro ⟨x0, x1, e, q⟩
  simp only [T3, zAB, D.int.injEq, D.tup.injEq, D.lst.injEq, and_true, true_and] at e
  obtain ⟨rfl, rfl⟩ := e
  exact q
 ·intro q; exact ⟨_, _, rfl, q⟩
def cS (κ : Cls) : DSp := fun ds Q Ed => ∃ (o : D) (dd : D), ds = [o, dd] /\ (Q (.bl false))
theorem dI (κ : Cls) (o : D) (dd : D) (Q : D -> Prop) (Ed : Value -> Prop) : cS κ [o, dd] Q Ed = (Q (.bl false)) := by
 apply propext
 constructor
 ·rintro ⟨x0, x1, e, q⟩
  simp only [T3, zAB, D.int.injEq, D.tup.injEq, D.lst.injEq, and_true, true_and] at e
  obtain ⟨rfl, rfl⟩ := e
  exact q
 ·intro q; exact ⟨_, _, rfl, q⟩
def dh (κ : Cls) : DSp := fun ds Q Ed => ∃ (o : D), ds = [o] /\ (Q (.tup []))
theorem dY (κ : Cls) (o : D) (Q : D -> Prop) (Ed : Value -> Prop) : dh κ [o] Q Ed = (Q (.tup [])) := by
 apply propext
 constructor
 ·rintro ⟨x0, e, q⟩
  simp only [T3, zAB, D.int.injEq, D.tup.injEq, D.lst.injEq, and_true, true_and] at e
  obtain rfl := e
  exact q
 ·intro q; exact ⟨_, rfl, q⟩
def cb (κ : Cls) : DSp := fun ds Q Ed => ∃ (o : D) (ps : List Dt), ds = [o, .lst false (ps.map dtD)] /\ (∃ g0 g1 g2 a b : Int, o = oH κ.HalfPaper (T3 g0 g1 g2) (.int a) (.int b) /\ Bd 1000 g0 /\ Bd 1000 g1 /\ Bd 1000 g2 /\ ps.length <= 60 /\ (∀ p ∈ ps, GD p) /\ Q (.bl (hH g0 g1 g2 a b ps)))
theorem cE (κ : Cls) (o : D) (ps : List Dt) (Q : D -> Prop) (Ed : Value -> Prop) : cb κ [o, .lst false (ps.map dtD)] Q Ed = (∃ g0 g1 g2 a b : Int, o = oH κ.HalfPaper (T3 g0 g1 g2) (.int a) (.int b) /\ Bd 1000 g0 /\ Bd 1000 g1 /\ Bd 1000 g2 /\ ps.length <= 60 /\ (∀ p ∈ ps, GD p) /\ Q (.bl (hH g0 g1 g2 a b ps))) := by
 apply propext
 constructor
 ·rintro ⟨x0, x1, e, q⟩
  simp only [T3, zAB, D.int.injEq, D.tup.injEq, D.lst.injEq, and_true, true_and] at e
  obtain ⟨rfl, e_ps⟩ := e
  have f_ps := bK e_ps
  subst f_ps
  exact q
 ·intro q; exact ⟨_, _, rfl, q⟩
def cq (κ : Cls) : DSp := fun ds Q Ed => ∃ (o : D), ds = [o] /\ (∃ g a b : D, o = oH κ.HalfPaper g a b /\ Q (.tup [g, a, b]))
theorem cN (κ : Cls) (o : D) (Q : D -> Prop) (Ed : Value -> Prop) : cq κ [o] Q Ed = (∃ g a b : D, o = oH κ.HalfPaper g a b /\ Q (.tup [g, a, b])) := by
 apply propext
 constructor
 ·rintro ⟨x0, e, q⟩
  simp only [T3, zAB, D.int.injEq, D.tup.injEq, D.lst.injEq, and_true, true_and] at e
  obtain rfl := e
  exact q
 ·intro q; exact ⟨_, rfl, q⟩
def bI (κ : Cls) : DSp := fun ds Q Ed => ∃ (o : D) (ps : List Dt), ds = [o, .lst false (ps.map dtD)] /\ (∃ g0 g1 g2 o0 o1 o2 : Int, o = oQ κ.QuarterPaper (T3 g0 g1 g2) (T3 o0 o1 o2) /\ Bd 1000 g0 /\ Bd 1000 g1 /\ Bd 1000 g2 /\ Bd 1000 o0 /\ Bd 1000 o1 /\ Bd 1000 o2 /\ ps.length <= 60 /\ (∀ p ∈ ps, GD p) /\ Q (.bl (hQ g0 g1 g2 o0 o1 o2 ps)))
theorem cc (κ : Cls) (o : D) (ps : List Dt) (Q : D -> Prop) (Ed : Value -> Prop) : bI κ [o, .lst false (ps.map dtD)] Q Ed = (∃ g0 g1 g2 o0 o1 o2 : Int, o = oQ κ.QuarterPaper (T3 g0 g1 g2) (T3 o0 o1 o2) /\ Bd 1000 g0 /\ Bd 1000 g1 /\ Bd 1000 g2 /\ Bd 1000 o0 /\ Bd 1000 o1 /\ Bd 1000 o2 /\ ps.length <= 60 /\ (∀ p ∈ ps, GD p) /\ Q (.bl (hQ g0 g1 g2 o0 o1 o2 ps))) := by
 apply propext
 constructor
 ·rintro ⟨x0, x1, e, q⟩
  simp only [T3, zAB, D.int.injEq, D.tup.injEq, D.lst.injEq, and_true, true_and] at e
  obtain ⟨rfl, e_ps⟩ := e
  have f_ps := bK e_ps
  subst f_ps
  exact q
 ·intro q; exact ⟨_, _, rfl, q⟩
def bN (κ : Cls) : DSp := fun ds Q Ed => ∃ (o : D), ds = [o] /\ (∃ g a : D, o = oQ κ.QuarterPaper g a /\ Q (.tup [g, a]))
theorem cu (κ : Cls) (o : D) (Q : D -> Prop) (Ed : Value -> Prop) : bN κ [o] Q Ed = (∃ g a : D, o = oQ κ.QuarterPaper g a /\ Q (.tup [g, a])) := by
 apply propext
 constructor
 ·rintro ⟨x0, e, q⟩
  simp only [T3, zAB, D.int.injEq, D.tup.injEq, D.lst.injEq, and_true, true_and] at e
  obtain rfl := e
  exact q
 ·intro q; exact ⟨_, rfl, q⟩
def dR (κ : Cls) : DSp := fun ds Q Ed => ∃ (a : Int) (b : Int), ds = [.int a, .int b] /\ (a = b /\ Q (.bl true))
theorem eP (κ : Cls) (a : Int) (b : Int) (Q : D -> Prop) (Ed : Value -> Prop) : dR κ [.int a, .int b] Q Ed = (a = b /\ Q (.bl true)) := by
 apply propext
 constructor
 ·rintro ⟨x0, x1, e, q⟩
  simp only [T3, zAB, D.int.injEq, D.tup.injEq, D.lst.injEq, and_true, true_and] at e
  obtain ⟨rfl, rfl⟩ := e
  exact q
 ·intro q; exact ⟨_, _, rfl, q⟩
def dS (κ : Cls) : DSp := fun ds Q Ed => ∃ (x : D) (y : D), ds = [x, y] /\ (x = y /\ ((∃ i, x = .int i) ∨ ∃ ns : List Int, x = .tup (ns.map D.int)) /\ Q (.bl true))
theorem eQ (κ : Cls) (x : D) (y : D) (Q : D -> Prop) (Ed : Value -> Prop) : dS κ [x, y] Q Ed = (x = y /\ ((∃ i, x = .int i) ∨ ∃ ns : List Int, x = .tup (ns.map D.int)) /\ Q (.bl true)) := by
 apply propext
 constructor
 ·rintro ⟨x0, x1, e, q⟩
  simp only [T3, zAB, D.int.injEq, D.tup.injEq, D.lst.injEq, and_true, true_and] at e
  obtain ⟨rfl, rfl⟩ := e
  exact q
 ·intro q; exact ⟨_, _, rfl, q⟩
def dU (κ : Cls) : DSp := fun ds Q Ed => ∃ (x : D) (y : D), ds = [x, y] /\ (x = y /\ (∃ ds, x = .tup ds /\ ∀ d ∈ ds, (∃ i, d = .int i) ∨ ∃ ns : List Int, d = .tup (ns.map D.int)) /\ Q (.bl true))
theorem eR (κ : Cls) (x : D) (y : D) (Q : D -> Prop) (Ed : Value -> Prop) : dU κ [x, y] Q Ed = (x = y /\ (∃ ds, x = .tup ds /\ ∀ d ∈ ds, (∃ i, d = .int i) ∨ ∃ ns : List Int, d = .tup (ns.map D.int)) /\ Q (.bl true)) := by
 apply propext
 constructor
 ·rintro ⟨x0, x1, e, q⟩
  simp only [T3, zAB, D.int.injEq, D.tup.injEq, D.lst.injEq, and_true, true_and] at e
  obtain ⟨rfl, rfl⟩ := e
  exact q
 ·intro q; exact ⟨_, _, rfl, q⟩
def cw (κ : Cls) : DSp := fun ds Q Ed => ∃ (o : D) (ps : List Dt) (due : D), ds = [o, .lst false (ps.map dtD), due] /\ (((∃ g0 g1 g2 a b : Int, o = oH κ.HalfPaper (T3 g0 g1 g2) (.int a) (.int b) /\ Bd 1000 g0 /\ Bd 1000 g1 /\ Bd 1000 g2 /\ due = .bl (hH g0 g1 g2 a b ps)) ∨ (∃ g0 g1 g2 o0 o1 o2 : Int, o = oQ κ.QuarterPaper (T3 g0 g1 g2) (T3 o0 o1 o2) /\ Bd 1000 g0 /\ Bd 1000 g1 /\ Bd 1000 g2 /\ Bd 1000 o0 /\ Bd 1000 o1 /\ Bd 1000 o2 /\ due = .bl (hQ g0 g1 g2 o0 o1 o2 ps)) ∨ (o = .obj κ.Paper [] [] /\ due = .bl false)) /\ ps.length <= 60 /\ (∀ p ∈ ps, GD p) /\ Q (.bl true))
theorem cT (κ : Cls) (o : D) (ps : List Dt) (due : D) (Q : D -> Prop) (Ed : Value -> Prop) : cw κ [o, .lst false (ps.map dtD), due] Q Ed = (((∃ g0 g1 g2 a b : Int, o = oH κ.HalfPaper (T3 g0 g1 g2) (.int a) (.int b) /\ Bd 1000 g0 /\ Bd 1000 g1 /\ Bd 1000 g2 /\ due = .bl (hH g0 g1 g2 a b ps)) ∨ (∃ g0 g1 g2 o0 o1 o2 : Int, o = oQ κ.QuarterPaper (T3 g0 g1 g2) (T3 o0 o1 o2) /\ Bd 1000 g0 /\ Bd 1000 g1 /\ Bd 1000 g2 /\ Bd 1000 o0 /\ Bd 1000 o1 /\ Bd 1000 o2 /\ due = .bl (hQ g0 g1 g2 o0 o1 o2 ps)) ∨ (o = .obj κ.Paper [] [] /\ due = .bl false)) /\ ps.length <= 60 /\ (∀ p ∈ ps, GD p) /\ Q (.bl true)) := by
 apply propext
 constructor
 ·rintro ⟨x0, x1, x2, e, q⟩
  simp only [T3, zAB, D.int.injEq, D.tup.injEq, D.lst.injEq, and_true, true_and] at e
  obtain ⟨rfl, e_ps, rfl⟩ := e
  have f_ps := bK e_ps
  subst f_ps
  exact q
 ·intro q; exact ⟨_, _, _, rfl, q⟩
def cV (κ : Cls) : DSp := fun ds Q Ed => ∃ (g0 g1 g2 : Int) (p : Dt), ds = [T3 g0 g1 g2, dtD p] /\ (Bd 1000 g0 /\ Bd 1000 g1 /\ Bd 1000 g2 /\ GD p /\ Q (.int (gv g0 g1 g2 p)))
theorem fg (κ : Cls) (g0 g1 g2 : Int) (p : Dt) (Q : D -> Prop) (Ed : Value -> Prop) : cV κ [T3 g0 g1 g2, dtD p] Q Ed = (Bd 1000 g0 /\ Bd 1000 g1 /\ Bd 1000 g2 /\ GD p /\ Q (.int (gv g0 g1 g2 p))) := by
 apply propext
 constructor
 ·rintro ⟨x0, x1, x2, x3, e, q⟩
  simp only [T3, zAB, D.int.injEq, D.tup.injEq, D.lst.injEq, and_true, true_and] at e
  obtain ⟨⟨rfl, rfl, rfl⟩, e_p⟩ := e
  have f_p := jP e_p
  subst f_p
  exact q
 ·intro q; exact ⟨_, _, _, _, rfl, q⟩
def eV (κ : Cls) : DSp := fun ds Q Ed => ∃ (g0 g1 g2 : Int), ds = [T3 g0 g1 g2] /\ (Q (.bl (lvB g1 g2)))
theorem fe (κ : Cls) (g0 g1 g2 : Int) (Q : D -> Prop) (Ed : Value -> Prop) : eV κ [T3 g0 g1 g2] Q Ed = (Q (.bl (lvB g1 g2))) := by
 apply propext
 constructor
 ·rintro ⟨x0, x1, x2, e, q⟩
  simp only [T3, zAB, D.int.injEq, D.tup.injEq, D.lst.injEq, and_true, true_and] at e
  obtain ⟨rfl, rfl, rfl⟩ := e
  exact q
 ·intro q; exact ⟨_, _, _, rfl, q⟩
def dX (κ : Cls) : DSp := fun ds Q Ed => ∃ (ps : List Dt) (g0 g1 g2 : Int) (k : Int), ds = [.lst false (ps.map dtD), T3 g0 g1 g2, .int k] /\ (Bd 1000 g0 /\ Bd 1000 g1 /\ Bd 1000 g2 /\ ps.length <= 60 /\ (∀ p ∈ ps, GD p) /\ Q (.bl (hB g0 g1 g2 k ps)))
theorem eU (κ : Cls) (ps : List Dt) (g0 g1 g2 : Int) (k : Int) (Q : D -> Prop) (Ed : Value -> Prop) : dX κ [.lst false (ps.map dtD), T3 g0 g1 g2, .int k] Q Ed = (Bd 1000 g0 /\ Bd 1000 g1 /\ Bd 1000 g2 /\ ps.length <= 60 /\ (∀ p ∈ ps, GD p) /\ Q (.bl (hB g0 g1 g2 k ps))) := by
 apply propext
 constructor
 ·rintro ⟨x0, x1, x2, x3, x4, e, q⟩
  simp only [T3, zAB, D.int.injEq, D.tup.injEq, D.lst.injEq, and_true, true_and] at e
  obtain ⟨e_ps, ⟨rfl, rfl, rfl⟩, rfl⟩ := e
  have f_ps := bK e_ps
  subst f_ps
  exact q
 ·intro q; exact ⟨_, _, _, _, _, rfl, q⟩
def cU (κ : Cls) : DSp := fun ds Q Ed => ∃ (ps : List Dt) (g0 g1 g2 : Int) (o0 o1 o2 : Int), ds = [.lst false (ps.map dtD), T3 g0 g1 g2, T3 o0 o1 o2] /\ (Bd 1000 g0 /\ Bd 1000 g1 /\ Bd 1000 g2 /\ Bd 1000 o0 /\ Bd 1000 o1 /\ Bd 1000 o2 /\ ps.length <= 60 /\ (∀ p ∈ ps, GD p) /\ Pos ps /\ Q (.bl (quB (gv g0 g1 g2) (gv o0 o1 o2) ps)))
theorem dJ (κ : Cls) (ps : List Dt) (g0 g1 g2 : Int) (o0 o1 o2 : Int) (Q : D -> Prop) (Ed : Value -> Prop) : cU κ [.lst false (ps.map dtD), T3 g0 g1 g2, T3 o0 o1 o2] Q Ed = (Bd 1000 g0 /\ Bd 1000 g1 /\ Bd 1000 g2 /\ Bd 1000 o0 /\ Bd 1000 o1 /\ Bd 1000 o2 /\ ps.length <= 60 /\ (∀ p ∈ ps, GD p) /\ Pos ps /\ Q (.bl (quB (gv g0 g1 g2) (gv o0 o1 o2) ps))) := by
 apply propext
 constructor
 ·rintro ⟨x0, x1, x2, x3, x4, x5, x6, e, q⟩
  simp only [T3, zAB, D.int.injEq, D.tup.injEq, D.lst.injEq, and_true, true_and] at e
  obtain ⟨e_ps, ⟨rfl, rfl, rfl⟩, ⟨rfl, rfl, rfl⟩⟩ := e
  have f_ps := bK e_ps
  subst f_ps
  exact q
 ·intro q; exact ⟨_, _, _, _, _, _, _, rfl, q⟩
def fL (κ : Cls) : DSp := fun ds Q Ed => ∃ (k : Int) (c : Int), ds = [.int k, .int c] /\ (∀ a b : Int, Bd 60 a -> Bd 60 b -> Q (.tup [.int a, .int b]))
theorem fW (κ : Cls) (k : Int) (c : Int) (Q : D -> Prop) (Ed : Value -> Prop) : fL κ [.int k, .int c] Q Ed = (∀ a b : Int, Bd 60 a -> Bd 60 b -> Q (.tup [.int a, .int b])) := by
 apply propext
 constructor
 ·rintro ⟨x0, x1, e, q⟩
  simp only [T3, zAB, D.int.injEq, D.tup.injEq, D.lst.injEq, and_true, true_and] at e
  obtain ⟨rfl, rfl⟩ := e
  exact q
 ·intro q; exact ⟨_, _, rfl, q⟩
def gC (κ : Cls) : DSp := fun ds Q Ed => ∃ (k : Int) (c : Int), ds = [.int k, .int c] /\ (∀ p : Dt, GD p -> 0 < p.2.2.2 -> Q (dtD p))
theorem dW (κ : Cls) (k : Int) (c : Int) (Q : D -> Prop) (Ed : Value -> Prop) : gC κ [.int k, .int c] Q Ed = (∀ p : Dt, GD p -> 0 < p.2.2.2 -> Q (dtD p)) := by
 apply propext
 constructor
 ·rintro ⟨x0, x1, e, q⟩
  simp only [T3, zAB, D.int.injEq, D.tup.injEq, D.lst.injEq, and_true, true_and] at e
  obtain ⟨rfl, rfl⟩ := e
  exact q
 ·intro q; exact ⟨_, _, rfl, q⟩
def eT (κ : Cls) : DSp := fun ds Q Ed => ∃ (ps : List Dt) (xs : List Int), ds = [.lst false (ps.map dtD), .lst false (xs.map D.int)] /\ (ps.length <= 60 /\ (∀ p ∈ ps, GD p) /\ xs.length = 4 /\ (∀ x ∈ xs, 0 <= x /\ x < 2147483647) /\ ∀ g0 g1 g2 : Int, Bd 1000 g0 -> Bd 1000 g1 -> Bd 1000 g2 -> Q (T3 g0 g1 g2))
theorem cf (κ : Cls) (ps : List Dt) (xs : List Int) (Q : D -> Prop) (Ed : Value -> Prop) : eT κ [.lst false (ps.map dtD), .lst false (xs.map D.int)] Q Ed = (ps.length <= 60 /\ (∀ p ∈ ps, GD p) /\ xs.length = 4 /\ (∀ x ∈ xs, 0 <= x /\ x < 2147483647) /\ ∀ g0 g1 g2 : Int, Bd 1000 g0 -> Bd 1000 g1 -> Bd 1000 g2 -> Q (T3 g0 g1 g2)) := by
 apply propext
 constructor
 ·rintro ⟨x0, x1, e, q⟩
  simp only [T3, zAB, D.int.injEq, D.tup.injEq, D.lst.injEq, and_true, true_and] at e
  obtain ⟨e_ps, e_xs⟩ := e
  have f_ps := bK e_ps
  subst f_ps
  have f_xs := iR e_xs
  subst f_xs
  exact q
 ·intro q; exact ⟨_, _, rfl, q⟩
def eS (κ : Cls) : DSp := fun ds Q Ed => ∃ (o : D) (parts : D) (lists : D) (dues : D), ds = [o, parts, lists, dues] /\ (∃ (ps qs : List Dt) (due : List Dt -> Bool), lists = .lst false [.lst false (ps.map dtD), .lst false (qs.map dtD)] /\ dues = .lst false [.bl (due ps), .bl (due qs)] /\ ps.length <= 60 /\ (∀ p ∈ ps, GD p) /\ qs.length <= 60 /\ (∀ p ∈ qs, GD p) /\ ((∃ g0 g1 g2 a b : Int, o = oH κ.HalfPaper (T3 g0 g1 g2) (.int a) (.int b) /\ parts = .tup [T3 g0 g1 g2, .int a, .int b] /\ Bd 1000 g0 /\ Bd 1000 g1 /\ Bd 1000 g2 /\ due = hH g0 g1 g2 a b) ∨ (∃ g0 g1 g2 o0 o1 o2 : Int, o = oQ κ.QuarterPaper (T3 g0 g1 g2) (T3 o0 o1 o2) /\ parts = .tup [T3 g0 g1 g2, T3 o0 o1 o2] /\ Bd 1000 g0 /\ Bd 1000 g1 /\ Bd 1000 g2 /\ Bd 1000 o0 /\ Bd 1000 o1 /\ Bd 1000 o2 /\ due = hQ g0 g1 g2 o0 o1 o2)) /\ Q (.bl true))
theorem fc (κ : Cls) (o : D) (parts : D) (lists : D) (dues : D) (Q : D -> Prop) (Ed : Value -> Prop) : eS κ [o, parts, lists, dues] Q Ed = (∃ (ps qs : List Dt) (due : List Dt -> Bool), lists = .lst false [.lst false (ps.map dtD), .lst false (qs.map dtD)] /\ dues = .lst false [.bl (due ps), .bl (due qs)] /\ ps.length <= 60 /\ (∀ p ∈ ps, GD p) /\ qs.length <= 60 /\ (∀ p ∈ qs, GD p) /\ ((∃ g0 g1 g2 a b : Int, o = oH κ.HalfPaper (T3 g0 g1 g2) (.int a) (.int b) /\ parts = .tup [T3 g0 g1 g2, .int a, .int b] /\ Bd 1000 g0 /\ Bd 1000 g1 /\ Bd 1000 g2 /\ due = hH g0 g1 g2 a b) ∨ (∃ g0 g1 g2 o0 o1 o2 : Int, o = oQ κ.QuarterPaper (T3 g0 g1 g2) (T3 o0 o1 o2) /\ parts = .tup [T3 g0 g1 g2, T3 o0 o1 o2] /\ Bd 1000 g0 /\ Bd 1000 g1 /\ Bd 1000 g2 /\ Bd 1000 o0 /\ Bd 1000 o1 /\ Bd 1000 o2 /\ due = hQ g0 g1 g2 o0 o1 o2)) /\ Q (.bl true)) := by
 apply propext
 constructor
 ·rintro ⟨x0, x1, x2, x3, e, q⟩
  simp only [T3, zAB, D.int.injEq, D.tup.injEq, D.lst.injEq, and_true, true_and] at e
  obtain ⟨rfl, rfl, rfl, rfl⟩ := e
  exact q
 ·intro q; exact ⟨_, _, _, _, rfl, q⟩
section
variable {P : Program} {w : World} {K : PySem.W.Frag} {mg : Str -> Option Value} {base : Heap} {κ : Cls}
local macro_rules | `(tactic| walk_at "rd") => `(tactic| try simp only [ou, oi, ox, rH, sQ, rq, dOp, dB, rj, dOr, rF, nZ, uH, om, dIf, rD, dC, n5, oj, oy, rC, je, dCB, dIs, pP, pQ, tH, tI, nK, mh, sy, sA, qw, lZ, nB, l0, nE, jQ, lD, pZ, qy, og, rG, jI, jJ, m9, nc, kK, ri, qi, qk, qj, zAF, zAi, gd3, uU, oK, aZ, gD, fj, kB, kx, bw, ky, aV, aP, dA, de, mi, tm, p5, eh, at0, at1, at2, at3, zAd, List.cons_append, List.nil_append, ny, nA, qL, nr, kl, nk, kj, nj, jl, kh, ki, kg, ka, true_and, rB, uL, pF, pC, nR, j9, false_and, and_false, false_or, or_false, exists_false, n9, sW, sV, ot, nN, nM, nL, gW, rm, uI, gd2, zAb, Bool.true_eq_false, if_false, if_true, decide_eq_true_eq, Bool.not_eq_eq_eq_not, Bool.not_true, zA6, decide_eq_false_iff_not, ite_not, pj, pw, pq, qu, qv, nF, nG, pE, p6, rn, n6, lr, lB, oF, sX, pO, pM, rE, rJ, uJ, ow, oo, fN, pD, sS, sT, pK, qe, qg, nP, nQ, qY, q0, qZ, q5, mU, kX, kY, rK, pG, pH, qz, uK, pJ, pV, tf, pN, mZ, pL, mY, qb, qc, qo, qp, kR, tD, tE, u5, u6, List.set_cons_zero, List.set_cons_succ, mW, pI, sU, sR, p9, qa, tq, n8, lj, oz, jK, lA, oC, sY, mX, jC, iU, jB, fX, gK, fi, iT, gL, fV, fY, gI, gJ, fh, dZ, eW, dI, dY, cE, cN, cc, cu, eP, eQ, eR, cT, fg, fe, eU, dJ, fW, dW, cf, fc, iV, iz, gE, jD, kA, ro, kL, dEi, oh, lq, rA, kz, lH, qh, lJ, lK, lL, oK, iO, jm, iN, jk, Bool.or_false, Bool.true_or, Bool.false_or, Bool.or_true, qA, qB, qC, qD])
local macro_rules | `(tactic| walk_at "rx") => `(tactic| try simp only [ou, oi, ox, rH, sQ, rq, dOp, dB, rj, dOr, rF, nZ, uH, om, dIf, rD, dC, n5, oj, oy, rC, je, dCB, dIs, pP, pQ, tH, tI, nK, mh, sy, sA, qw, lZ, nB, l0, nE, jQ, lD, pZ, qy, og, rG, jI, jJ, m9, nc, ri, qi, qk, qj, zAF, zAi, gd3, uU, oK, aZ, gD, fj, kB, kx, bw, ky, aV, aP, dA, de, mi, tm, p5, eh, at0, at1, at2, at3, zAd, List.cons_append, List.nil_append, ny, nA, qL, nr, kl, nk, kj, nj, jl, kh, ki, kg, ka, true_and, rB, uL, pF, pC, nR, j9, false_and, and_false, false_or, or_false, exists_false, sW, sV, ot, nN, nM, nL, gW, rm, uI, gd2, zAb, Bool.true_eq_false, if_false, if_true, decide_eq_true_eq, Bool.not_eq_eq_eq_not, Bool.not_true, zA6, decide_eq_false_iff_not, ite_not, pj, pw, pq, qu, qv, nF, nG, pE, p6, rn, n6, lr, lB, oF, sX, pO, pM, rE, rJ, uJ, ow, oo, fN, pD, sS, sT, pK, qe, qg, nP, nQ, qY, q0, qZ, q5, mU, kX, kY, rK, pG, pH, qz, uK, pJ, pV, tf, pN, mZ, pL, mY, qb, qc, qo, qp, kR, tD, tE, u5, u6, List.set_cons_zero, List.set_cons_succ, mW, pI, sU, sR, p9, qa, tq, n8, lj, oz, jK, lA, oC, sY, mX, jC, iU, jB, fX, gK, fi, iT, gL, fV, fY, gI, gJ, fh, dZ, eW, dI, dY, cE, cN, cc, cu, eP, eQ, eR, cT, fg, fe, eU, dJ, fW, dW, cf, fc, iV, iz, gE, jD, kA, ro, kL, dEi, oh, lq, rA, kz, lH, qh, lJ, lK, lL, oK, iO, jm, iN, jk, Bool.or_false, Bool.true_or, Bool.false_or, Bool.or_true, qA, qB, qC, qD])
theorem uc {f : Addr} {fd : FuncData} (F : aw K "sign" "sign" mq f fd) (C : COk K mg κ)    : aC P w K mg base (CX1 P w) 1 f fd ["number"] (aG K (j0 κ)) := by
 refine aw.okN F uq (fun ds Q E h => by obtain ⟨_, rfl, _⟩ := h; rfl) fun cdv A outer s H E hr => ⟨_, (ai (aJ (aK kP (dv 0) ae) (ao (ar ae)) aB) (ai (aJ (aK oW (dv 0) ae) (ao (ar (bV ae))) aB) (ao (ar ae)))), ?_⟩
 rintro ds Q Ed ⟨n, rfl, h⟩
 have e0 : az ["number"] [.int n] = ([some (.val (.int n))] : Ro) := rfl
 rw [e0]; clear e0
 walk_at "rd"
 unfold sg at h
 split
 ·rename_i h0; rw [if_pos h0] at h; exact h
 ·rename_i h0
  rw [if_neg h0] at h
  split
  ·rename_i h1; rw [if_pos h1] at h; exact h
  ·rename_i h1; rw [if_neg h1] at h; exact h
theorem sq {f : Addr} {fd : FuncData} (F : aw K "value" "value" jX f fd) (C : COk K mg κ)    : aC P w K mg base (CX1 P w) 1 f fd ["gauge", "place"] (aG K (i6 κ)) := by
 refine aw.okN F sE (fun ds Q E h => by obtain ⟨_, _, _, _, _, _, rfl, _⟩ := h; rfl) fun cdv A outer s H E hr => ⟨_, (ao (ar (aj aY (aj aY (aj aL (av (dv 0) ae) (av (dv 1) ae)) (aj aL (av (dv 0) ae) (av (dv 1) ae))) (aj aL (av (dv 0) ae) (av (dv 1) ae))))), ?_⟩
 rintro ds Q Ed ⟨g0, g1, g2, p0, p1, p2, rfl, h⟩
 have e0 : az ["gauge", "place"] [T3 g0 g1 g2, T3 p0 p1 p2] = ([some (.val (T3 g0 g1 g2)), some (.val (T3 p0 p1 p2))] : Ro) := rfl
 rw [e0]; clear e0
 obtain ⟨h0, h1, h2, k0, k1, k2, h⟩ := h
 have cm : ∀ {x y : Int}, Bd 1000 x -> Bd 1000 y -> CM x y := fun hx hy => .inr (.inr ⟨hx.mono (by decide), hy.mono (by decide)⟩)
 walk_at "rd"
 exact ⟨cm h0 k0, cm h1 k1, cm h2 k2, h⟩
theorem ub {f : Addr} {fd : FuncData} (F : aw K "side" "side" mn f fd) (C : COk K mg κ)  (h_sign : Has P w K mg base "sign" 1 ["number"] (j0 κ)) (h_value : Has P w K mg base "value" 1 ["gauge", "place"] (i6 κ))  : aC P w K mg base (CX1 P w) 2 f fd ["gauge", "place"] (aG K (iL κ)) := by
 refine aw.okN F uo (fun ds Q E h => by obtain ⟨_, _, _, _, _, _, rfl, _⟩ := h; rfl) fun cdv A outer s H E hr => ⟨_, (ao (ar (au h_sign (hr.mono (by decide)) (aa (au h_value (hr.mono (by decide)) (aa (dv 0) (aa (dv 1) ag))) ag)))), ?_⟩
 rintro ds Q Ed ⟨g0, g1, g2, p0, p1, p2, rfl, h⟩
 have e0 : az ["gauge", "place"] [T3 g0 g1 g2, T3 p0 p1 p2] = ([some (.val (T3 g0 g1 g2)), some (.val (T3 p0 p1 p2))] : Ro) := rfl
 rw [e0]; clear e0
 obtain ⟨h0, h1, h2, k0, k1, k2, h⟩ := h
 walk_at "rd"
 exact ⟨h0, h1, h2, k0, k1, k2, h⟩
theorem mP {f : Addr} {fd : FuncData} (F : aw K "place_of" "place_of" gx f fd) (C : COk K mg κ)    : aC P w K mg base (CX1 P w) 1 f fd ["spot"] (aG K (dz κ)) := by
 refine aw.okN F mS (fun ds Q E h => by obtain ⟨_, _, rfl, _⟩ := h; rfl) fun cdv A outer s H E hr => ⟨_, (ao (ar (aR (aa ae (aa (av (dv 0) ae) (aa (av (dv 0) ae) ag)))))), ?_⟩
 rintro ds Q Ed ⟨a, b, rfl, h⟩
 have e0 : az ["spot"] [.tup [.int a, .int b]] = ([some (.val (.tup [.int a, .int b]))] : Ro) := rfl
 rw [e0]; clear e0
 walk_at "rd"
 exact ⟨sz3 _ _ _, h⟩
theorem o4 {f : Addr} {fd : FuncData} (F : aw K "spot_of" "spot_of" ik f fd) (C : COk K mg κ)    : aC P w K mg base (CX1 P w) 1 f fd ["dot"] (aG K (d9 κ)) := by
 refine aw.okN F o8 (fun ds Q E h => by obtain ⟨_, rfl, _⟩ := h; rfl) fun cdv A outer s H E hr => ⟨_, (ao (ar (aR (aa (av (dv 0) ae) (aa (av (dv 0) ae) ag))))), ?_⟩
 rintro ds Q Ed ⟨p, rfl, h⟩
 have e0 : az ["dot"] [dtD p] = ([some (.val (dtD p))] : Ro) := rfl
 rw [e0]; clear e0
 unfold dtD
 walk_at "rd"
 exact ⟨sz2 _ _, h⟩
theorem me {f : Addr} {fd : FuncData} (F : aw K "of_colour" "of_colour" du f fd) (C : COk K mg κ)    : aC P w K mg base (CX1 P w) 1 f fd ["dots", "colour"] (aG K (cW κ)) := by
 refine aw.okN F mx (fun ds Q E h => by obtain ⟨_, _, rfl, _⟩ := h; rfl) fun cdv A outer s H E hr => ⟨_, (ao (ar (jL (by rfl) (by exact iB (osc := ak du) (xs := ["dot"]) (ns := ["colour"]) (by decide +kernel)) (cY.cons 1 cY.nil) (bC (dv 0)) (fun _ _ _ _ _ => (vy (cH (aK u9 (dv 1) uM) (bW (aK (fb (by exact hr.units)) (av (dv 0) ae) (dv 1)))).pt)) (fun _ _ _ _ _ => (dv 0))))), ?_⟩
 rintro ds Q Ed ⟨ps, col, rfl, h⟩
 have e0 : az ["dots", "colour"] [.lst false (ps.map dtD), col] = ([some (.val (.lst false (ps.map dtD))), some (.val (col))] : Ro) := rfl
 rw [e0]; clear e0
 obtain ⟨cs, hc, hl, h⟩ := h
 walk_at "rx"
 refine PD.comp_map ps dtD (fun p => cs p.2.2.1) dtD (fun R q => ?_) (by rw [sizeLine_eq]; omega) (fun p hp K hk => ?_) (fun p hp _ K hk => ?_) h
 ·walk_at "rd"
  exact q
 ·unfold dtD
  rcases hc with ⟨rfl, rfl⟩ | ⟨k, rfl, rfl⟩
  ·walk_at "rd"
   exact hk
  ·walk_at "rd"
   exact hk
 ·walk_at "rd"
  exact hk
theorem sk {f : Addr} {fd : FuncData} (F : aw K "total" "total" dg f fd) (C : COk K mg κ)  (h_of_colour : Has P w K mg base "of_colour" 1 ["dots", "colour"] (cW κ)) (z_sum : mg "sum" = none) : aC P w K mg base (CX1 P w) 2 f fd ["dots", "colour"] (aG K (eX κ)) := by
 refine aw.okN F sD (fun ds Q E h => by obtain ⟨_, _, rfl, _⟩ := h; rfl) fun cdv A outer s H E hr => ⟨_, (ao (ar (bc (pA rfl) (by rfl) z_sum boot_sum (aa (jL (by rfl) (by exact iB (osc := ak dg) (xs := ["dot"]) (ns := []) (by decide +kernel)) cY.nil (bC (au h_of_colour (hr.mono (by decide)) (aa (dv 0) (aa (dv 1) ag)))) (fun _ _ _ _ _ => mC) (fun _ _ _ _ _ => (av (dv 0) ae))) ag)))), ?_⟩
 rintro ds Q Ed ⟨ps, col, rfl, h⟩
 have e0 : az ["dots", "colour"] [.lst false (ps.map dtD), col] = ([some (.val (.lst false (ps.map dtD))), some (.val (col))] : Ro) := rfl
 rw [e0]; clear e0
 obtain ⟨cs, hc, hl, h⟩ := h
 have hu := hc.unt
 unfold tot at h
 walk_at "rx"
 refine PD.comp_map (ps.filter fun p => cs p.2.2.1) dtD (fun _ => true) (fun p => .int p.2.2.2) (fun R q => ?_) (by have := List.length_filter_le (fun p : Dt => cs p.2.2.1) ps; rw [sizeLine_eq]; omega) (fun p hp K hk => ?_) (fun p hp _ K hk => ?_) ⟨true, (ps.filter fun p => cs p.2.2.1).map fun p => p.2.2.2, by simp [zAz, Function.comp_def], h⟩
 ·walk_at "rd"
  simp only [hu]
  exact ⟨cs, hc, hl, q⟩
 ·walk_at "rd"
  exact hk
 ·unfold dtD
  walk_at "rd"
  exact hk
theorem o5 {f : Addr} {fd : FuncData} (F : aw K "weighed" "weighed" cM f fd) (C : COk K mg κ)  (h_of_colour : Has P w K mg base "of_colour" 1 ["dots", "colour"] (cW κ)) (h_place_of : Has P w K mg base "place_of" 1 ["spot"] (dz κ)) (h_side : Has P w K mg base "side" 2 ["gauge", "place"] (iL κ)) (h_spot_of : Has P w K mg base "spot_of" 1 ["dot"] (d9 κ))  : aC P w K mg base (CX1 P w) 3 f fd ["dots", "gauge", "colour"] (aG K (ef κ)) := by
 refine aw.okN F gz (fun ds Q E h => by obtain ⟨_, _, _, _, _, rfl, _⟩ := h; rfl) fun cdv A outer s H E hr => ⟨_, (ai (rP 3 gz.nd (jO (bV ae) ae (jO ae ae (jO ae ae uO)))) (ai (ck PassesOwn.never rfl (bC (au h_of_colour (hr.mono (by decide)) (aa (dv 0) (aa (dv 2) ag)))) (bg 4 gz.nd) (ao (tP 3 (by exact gq hr) (au h_side (hr.mono (by decide)) (aa (dv 1) (aa (au h_place_of (hr.mono (by decide)) (aa (au h_spot_of (hr.mono (by decide)) (aa (dv 4) ag)) ag)) ag))) (av (dv 4) ae)))) (ao (ar (aR (aa (lx 3 (by exact gq hr) (bV ae)) (aa (lx 3 (by exact gq hr) ae) (aa (lx 3 (by exact gq hr) ae) ag)))))))), ?_⟩
 rintro ds Q Ed ⟨ps, g0, g1, g2, col, rfl, h⟩
 have e0 : az ["dots", "gauge", "colour", "weights", "dot"] [.lst false (ps.map dtD), T3 g0 g1 g2, col] = ([some (.val (.lst false (ps.map dtD))), some (.val (T3 g0 g1 g2)), some (.val (col)), none, none] : Ro) := rfl
 rw [e0]; clear e0
 obtain ⟨cs, hc, hl, h0, h1, h2, hg, h⟩ := h
 have hu := hc.unt
 walk_at "rx"
 refine ⟨[(.inl (-1), .int 0), (.inl 0, .int 0), (.inl 1, .int 0)], rfl, by decide, by decide, ?_⟩
 refine PD.nh (ps.filter fun p => cs p.2.2.1) dtD (fun done ρ => ∃ v, ρ = [some (.val (.lst false (ps.map dtD))), some (.val (T3 g0 g1 g2)), some (.val col), some (.ob (.dk [(.inl (-1), .int (w3 g0 g1 g2 (-1) done)), (.inl 0, .int (w3 g0 g1 g2 0 done)), (.inl 1, .int (w3 g0 g1 g2 1 done))])), v]) (fun R q => ?_) ⟨none, rfl⟩ ?_ ?_
 ·walk_at "rd"
  simp only [hu]
  exact ⟨cs, hc, hl, q⟩
 ·rintro done p ρ' hp hlt ⟨v, rfl⟩
  have G := hg p (List.mem_filter.mp hp).1
  have e : g0 * 1 + g1 * p.1 + g2 * p.2.1 = gv g0 g1 g2 p := by unfold gv; omega
  walk_at "rd"
  refine ⟨h0, h1, h2, Bd.mono (m := 2) (by unfold Bd; decide) (by decide), G.x.mono (by decide), G.y.mono (by decide), ?_⟩
  rw [e]
  have sn := ux g0 g1 g2
  rcases sg3 (gv g0 g1 g2 p) with z | z | z
  ·refine ⟨.inl (-1), _, by rw [z]; rfl, rfl, ?_⟩
   unfold dtD
   walk_at "rd"
   refine ⟨by rw [sizeLine_eq]; show 3 < 16777216; decide, some (.val (.tup [.int p.1, .int p.2.1, .int p.2.2.1, .int p.2.2.2])), ?_⟩
   rw [vR, sn, sn, sn, z]
   simp
  ·refine ⟨.inl 0, _, by rw [z]; rfl, rfl, ?_⟩
   unfold dtD
   walk_at "rd"
   refine ⟨by rw [sizeLine_eq]; show 3 < 16777216; decide, some (.val (.tup [.int p.1, .int p.2.1, .int p.2.2.1, .int p.2.2.2])), ?_⟩
   rw [vS, sn, sn, sn, z]
   simp
  ·refine ⟨.inl 1, _, by rw [z]; rfl, rfl, ?_⟩
   unfold dtD
   walk_at "rd"
   refine ⟨by rw [sizeLine_eq]; show 3 < 16777216; decide, some (.val (.tup [.int p.1, .int p.2.1, .int p.2.2.1, .int p.2.2.2])), ?_⟩
   rw [vT, sn, sn, sn, z]
   simp
 ·rintro ρ' ⟨v, rfl⟩
  walk_at "rd"
  exact ⟨.inl (-1), _, rfl, rfl, .inl 0, _, rfl, rfl, .inl 1, _, rfl, rfl, sz3 _ _ _, h⟩
theorem mN {f : Addr} {fd : FuncData} (F : aw K "is_level" "is_level" gu f fd) (C : COk K mg κ)    : aC P w K mg base (CX1 P w) 1 f fd ["gauge"] (aG K (dw κ)) := by
 refine aw.okN F mR (fun ds Q E h => by obtain ⟨_, _, _, rfl, _⟩ := h; rfl) fun cdv A outer s H E hr => ⟨_, (ao (ar (bq (bD bX (av (dv 0) ae) ae) (bF (bD bX (av (dv 0) ae) ae))))), ?_⟩
 rintro ds Q Ed ⟨g0, g1, g2, rfl, h⟩
 have e0 : az ["gauge"] [T3 g0 g1 g2] = ([some (.val (T3 g0 g1 g2))] : Ro) := rfl
 rw [e0]; clear e0
 walk_at "rd"
 by_cases e1 : g1 = 0
 ·rw [if_pos e1]
  by_cases e2 : g2 = 0
  ·rw [decide_eq_true e2]
   rw [decide_eq_true ⟨e1, e2⟩] at h
   exact h
  ·rw [decide_eq_false e2]
   rw [decide_eq_false (fun z => e2 z.2)] at h
   exact h
 ·rw [if_neg e1]
  rw [decide_eq_false (fun z => e1 z.1)] at h
  exact h
theorem mQ {f : Addr} {fd : FuncData} (F : aw K "quarters" "quarters" gy f fd) (C : COk K mg κ)  (h_place_of : Has P w K mg base "place_of" 1 ["spot"] (dz κ)) (h_side : Has P w K mg base "side" 2 ["gauge", "place"] (iL κ)) (h_spot_of : Has P w K mg base "spot_of" 1 ["dot"] (d9 κ)) (z_list : mg "list" = none) : aC P w K mg base (CX1 P w) 3 f fd ["dots", "gauge", "other"] (aG K (fM κ)) := by
 refine aw.okN F cD (fun ds Q E h => by obtain ⟨_, _, _, _, _, _, _, rfl, _⟩ := h; rfl) fun cdv A outer s H E hr => ⟨_, (ai (pY 3 (by exact gq hr) cD.nd (iE (jh (aa (bV ae) (aa (bV ae) ag))) ae (iE (jh (aa (bV ae) (aa ae ag))) ae (iE (jh (aa ae (aa (bV ae) ag))) ae (iE (jh (aa ae (aa ae ag))) ae uN))))) (ai (ck PassesOwn.never rfl (bC (dv 0)) (bg 4 cD.nd) (ai (aD 5 cD.nd (au h_place_of (hr.mono (by decide)) (aa (au h_spot_of (hr.mono (by decide)) (aa (dv 4) ag)) ag))) (ai (aD 6 cD.nd (aR (aa (au h_side (hr.mono (by decide)) (aa (dv 1) (aa (dv 5) ag))) (aa (au h_side (hr.mono (by decide)) (aa (dv 2) (aa (dv 5) ag))) ag)))) (ao (aJ (tQ 3 (by exact gq hr) (dv 6)) (ao (rN 3 (by exact gq hr) (dv 6) (av (dv 4) ae))) aB))))) (ao (ar ((pW 3 rfl (by rfl) z_list)).ped)))), ?_⟩
 rintro ds Q Ed ⟨ps, g0, g1, g2, o0, o1, o2, rfl, h⟩
 have e0 : az ["dots", "gauge", "other", "weights", "dot", "spot", "sides"] [.lst false (ps.map dtD), T3 g0 g1 g2, T3 o0 o1 o2] = ([some (.val (.lst false (ps.map dtD))), some (.val (T3 g0 g1 g2)), some (.val (T3 o0 o1 o2)), none, none, none, none] : Ro) := rfl
 rw [e0]; clear e0
 obtain ⟨h0, h1, h2, k0, k1, k2, hl, hG, h⟩ := h
 walk_at "rx"
 refine ⟨sz2 _ _, sz2 _ _, sz2 _ _, sz2 _ _, [([.inl (-1), .inl (-1)], 0), ([.inl (-1), .inl 1], 0), ([.inl 1, .inl (-1)], 0), ([.inl 1, .inl 1], 0)], rfl, by decide, by decide, ?_⟩
 have one : Bd 1000 1 := Bd.mono (m := 2) (by unfold Bd; decide) (by decide)
 refine PD.nh ps dtD (fun done ρ => ∃ v4 v5 v6 : Option Sl, ρ = [some (.val (.lst false (ps.map dtD))), some (.val (T3 g0 g1 g2)), some (.val (T3 o0 o1 o2)), some (.ob (.dt (dT4 (qf (gv g0 g1 g2) (gv o0 o1 o2) (-1) (-1) done) (qf (gv g0 g1 g2) (gv o0 o1 o2) (-1) 1 done) (qf (gv g0 g1 g2) (gv o0 o1 o2) 1 (-1) done) (qf (gv g0 g1 g2) (gv o0 o1 o2) 1 1 done)))), v4, v5, v6]) (fun R q => ?_) ⟨none, none, none, rfl⟩ ?_ ?_
 ·walk_at "rd"
  exact q
 ·rintro done p ρ' hp hlt ⟨v4, v5, v6, rfl⟩
  have G := hG p hp
  have e : g0 * 1 + g1 * p.1 + g2 * p.2.1 = gv g0 g1 g2 p := by unfold gv; omega
  have e' : o0 * 1 + o1 * p.1 + o2 * p.2.1 = gv o0 o1 o2 p := by unfold gv; omega
  have sn : ∀ a b, qf (gv g0 g1 g2) (gv o0 o1 o2) a b (done ++ [p]) = qf (gv g0 g1 g2) (gv o0 o1 o2) a b done + if (decide (sg (gv g0 g1 g2 p) = a) && decide (sg (gv o0 o1 o2 p) = b)) = true then p.2.2.2 else 0 := fun a b => er _ _ _
  walk_at "rd"
  rw [e, e']
  refine ⟨h0, h1, h2, one, G.x.mono (by decide), G.y.mono (by decide), k0, k1, k2, one, G.x.mono (by decide), G.y.mono (by decide), sz2 _ _, [.inl (sg (gv g0 g1 g2 p)), .inl (sg (gv o0 o1 o2 p))], rfl, ?_⟩
  rw [sn, sn, sn, sn]
  generalize qf (gv g0 g1 g2) (gv o0 o1 o2) (-1) (-1) done = q1
  generalize qf (gv g0 g1 g2) (gv o0 o1 o2) (-1) 1 done = q2
  generalize qf (gv g0 g1 g2) (gv o0 o1 o2) 1 (-1) done = q3
  generalize qf (gv g0 g1 g2) (gv o0 o1 o2) 1 1 done = q4
  have d43 : ∀ (K : D -> Prop), ib (dtD p) (.int 3) K = K (.int p.2.2.2) := fun K => by
   unfold dtD
   walk_at "rd"
  rcases sg3 (gv g0 g1 g2 p) with z | z | z <;> rcases sg3 (gv o0 o1 o2 p) with y | y | y <;> rw [z, y]
  ·rw [if_pos (show (bf (dT4 q1 q2 q3 q4) [Sum.inl (-1), Sum.inl (-1)]).isSome = true from rfl)]
   refine ⟨[Sum.inl (-1), Sum.inl (-1)], _, rfl, rfl, ?_⟩
   exact ⟨some (.val (dtD p)), some (.val (T3 1 p.1 p.2.1)), some (.val (.tup [.int (-1), .int (-1)])), by rw [pu1]; simp⟩
  ·rw [if_neg (show ¬ ((bf (dT4 q1 q2 q3 q4) [Sum.inl (-1), Sum.inl 0]).isSome = true) from zAE)]
   exact ⟨some (.val (dtD p)), some (.val (T3 1 p.1 p.2.1)), some (.val (.tup [.int (-1), .int 0])), by simp⟩
  ·rw [if_pos (show (bf (dT4 q1 q2 q3 q4) [Sum.inl (-1), Sum.inl 1]).isSome = true from rfl)]
   refine ⟨[Sum.inl (-1), Sum.inl 1], _, rfl, rfl, ?_⟩
   exact ⟨some (.val (dtD p)), some (.val (T3 1 p.1 p.2.1)), some (.val (.tup [.int (-1), .int 1])), by rw [pu2]; simp⟩
  ·rw [if_neg (show ¬ ((bf (dT4 q1 q2 q3 q4) [Sum.inl 0, Sum.inl (-1)]).isSome = true) from zAE)]
   exact ⟨some (.val (dtD p)), some (.val (T3 1 p.1 p.2.1)), some (.val (.tup [.int 0, .int (-1)])), by simp⟩
  ·rw [if_neg (show ¬ ((bf (dT4 q1 q2 q3 q4) [Sum.inl 0, Sum.inl 0]).isSome = true) from zAE)]
   exact ⟨some (.val (dtD p)), some (.val (T3 1 p.1 p.2.1)), some (.val (.tup [.int 0, .int 0])), by simp⟩
  ·rw [if_neg (show ¬ ((bf (dT4 q1 q2 q3 q4) [Sum.inl 0, Sum.inl 1]).isSome = true) from zAE)]
   exact ⟨some (.val (dtD p)), some (.val (T3 1 p.1 p.2.1)), some (.val (.tup [.int 0, .int 1])), by simp⟩
  ·rw [if_pos (show (bf (dT4 q1 q2 q3 q4) [Sum.inl 1, Sum.inl (-1)]).isSome = true from rfl)]
   refine ⟨[Sum.inl 1, Sum.inl (-1)], _, rfl, rfl, ?_⟩
   exact ⟨some (.val (dtD p)), some (.val (T3 1 p.1 p.2.1)), some (.val (.tup [.int 1, .int (-1)])), by rw [pu3]; simp⟩
  ·rw [if_neg (show ¬ ((bf (dT4 q1 q2 q3 q4) [Sum.inl 1, Sum.inl 0]).isSome = true) from zAE)]
   exact ⟨some (.val (dtD p)), some (.val (T3 1 p.1 p.2.1)), some (.val (.tup [.int 1, .int 0])), by simp⟩
  ·rw [if_pos (show (bf (dT4 q1 q2 q3 q4) [Sum.inl 1, Sum.inl 1]).isSome = true from rfl)]
   refine ⟨[Sum.inl 1, Sum.inl 1], _, rfl, rfl, ?_⟩
   exact ⟨some (.val (dtD p)), some (.val (T3 1 p.1 p.2.1)), some (.val (.tup [.int 1, .int 1])), by rw [pu4]; simp⟩
 ·rintro ρ' ⟨v4, v5, v6, rfl⟩
  walk_at "rd"
  exact h
theorem oY {f : Addr} {fd : FuncData} (F : aw K "is_even" "is_even" ic f fd) (C : COk K mg κ)   (z_max : mg "max" = none) : aC P w K mg base (CX1 P w) 1 f fd ["under", "over", "whole"] (aG K (gA κ)) := by
 refine aw.okN F o7 (fun ds Q E h => by obtain ⟨_, _, _, rfl, _⟩ := h; rfl) fun cdv A outer s H E hr => ⟨_, (ao (ar (bD jr (aj aL ae (bc (la rfl) (by rfl) z_max boot_max (aa (dv 0) (aa (dv 1) ag)))) (dv 2)))), ?_⟩
 rintro ds Q Ed ⟨u, o, w, rfl, h⟩
 have e0 : az ["under", "over", "whole"] [.int u, .int o, .int w] = ([some (.val (.int u)), some (.val (.int o)), some (.val (.int w))] : Ro) := rfl
 rw [e0]; clear e0
 walk_at "rd"
 exact ⟨.inl (by unfold Bd; decide), h⟩
theorem oZ {f : Addr} {fd : FuncData} (F : aw K "is_fair" "is_fair" ie f fd) (C : COk K mg κ)  (h_is_even : Has P w K mg base "is_even" 1 ["under", "over", "whole"] (gA κ)) (h_total : gP P w K mg base "total" 2 ["dots", "colour"] "colour" (eX κ)) (h_weighed : gP P w K mg base "weighed" 3 ["dots", "gauge", "colour"] "colour" (ef κ))  : aC P w K mg base (CX1 P w) 4 f fd ["dots", "gauge", "colour"] (aG K (gB κ)) := by
 refine aw.okN F jy (fun ds Q E h => by obtain ⟨_, _, _, _, _, rfl, _⟩ := h; rfl) fun cdv A outer s H E hr => ⟨_, (ai (aD 3 jy.nd (au h_weighed.full (hr.mono (by decide)) (aa (dv 0) (aa (dv 1) (aa (dv 2) ag))))) (ao (ar (au h_is_even (hr.mono (by decide)) (aa (av (dv 3) ae) (aa (av (dv 3) ae) (aa (au h_total.full (hr.mono (by decide)) (aa (dv 0) (aa (dv 2) ag))) ag))))))), ?_⟩
 rintro ds Q Ed ⟨ps, g0, g1, g2, k, rfl, h⟩
 have e0 : az ["dots", "gauge", "colour", "split"] [.lst false (ps.map dtD), T3 g0 g1 g2, .int k] = ([some (.val (.lst false (ps.map dtD))), some (.val (T3 g0 g1 g2)), some (.val (.int k)), none] : Ro) := rfl
 rw [e0]; clear e0
 obtain ⟨hl, h0, h1, h2, hG, h⟩ := h
 walk_at "rd"
 refine ⟨fun c => decide (c = k), .inr ⟨k, rfl, rfl⟩, hl, h0, h1, h2, hG, ?_⟩
 walk_at "rd"
 exact ⟨fun c => decide (c = k), .inr ⟨k, rfl, rfl⟩, hl, h⟩
theorem md {f : Addr} {fd : FuncData} (F : aw K "_law_whole" "_law_whole" fJ f fd) (C : COk K mg κ)   (z_bool : mg "bool" = none) (z_int : mg "int" = none) (z_isinstance : mg "isinstance" = none) : aC P w K mg base (CX1 P w) 1 f fd ["_law_found"] (aG K (cx κ)) := by
 refine aw.okN F mw (fun ds Q E h => by obtain ⟨_, rfl, _⟩ := h; rfl) fun cdv A outer s H E hr => ⟨_, (ao (ar (bq (aO (by rfl) z_isinstance (by rfl) z_int boot_int (.inl rfl) (dv 0)) (bF (gS (aO (by rfl) z_isinstance (by rfl) z_bool boot_bool (.inr (.inl rfl)) (dv 0))))))), ?_⟩
 rintro ds Q Ed ⟨a, rfl, h⟩
 have e0 : az ["_law_found"] [.int a] = ([some (.val (.int a))] : Ro) := rfl
 rw [e0]; clear e0
 walk_at "rd"
 exact h
theorem jV {f : Addr} {fd : FuncData} (F : aw K "_law_cell_at" "_law_cell_at" dO f fd) (C : COk K mg κ)   (z_len : mg "len" = none) : aC P w K mg base (CX1 P w) 1 f fd ["_law_script", "_law_k"] (aG K (di κ)) := by
 refine aw.okN F jZ (fun ds Q E h => by obtain ⟨_, _, rfl, _⟩ := h; rfl) fun cdv A outer s H E hr => ⟨_, (ai (aJ (aK oW (dv 1) (bc cO (by rfl) z_len boot_len (aa (dv 0) ag))) (ao (ar (av (dv 0) (dv 1)))) aB) (ao (ar ae))), ?_⟩
 rintro ds Q Ed ⟨ns, k, rfl, h⟩
 have e0 : az ["_law_script", "_law_k"] [.lst false (ns.map D.int), .int k] = ([some (.val (.lst false (ns.map D.int))), some (.val (.int k))] : Ro) := rfl
 rw [e0]; clear e0
 obtain ⟨hk, hn, h⟩ := h
 walk_at "rd"
 by_cases hl : k < ((ns.map D.int).length : Int)
 ·rw [if_pos (by simpa using hl)]
  rw [zAJ] at hl
  exact ⟨_, rh hk hl, h _⟩
 ·rw [if_neg (by simpa using hl)]
  exact h 0
theorem kG {f : Addr} {fd : FuncData} (F : aw K "_law_stream" "_law_stream" eO f fd) (C : COk K mg κ)   (z_range : mg "range" = none) : aC P w K mg base (CX1 P w) 1 f fd ["_law_cell", "_law_many"] (aG K (cI κ)) := by
 refine aw.okN F bY (fun ds Q E h => by obtain ⟨_, _, rfl, _⟩ := h; rfl) fun cdv A outer s H E hr => ⟨_, (ai (lC 2 bY.nd ag) (ai (aD 3 bY.nd (aj aY (aj aE (dv 0) ae) ae)) (ai (ck PassesOwn.never rfl (qq (by rfl) z_range (aa (dv 1) ag)) (bg 4 bY.nd) (ai (aD 3 bY.nd (aj aE (aj aY (aj aY (aj aL (dv 3) ae) (aj aL (dv 4) (dv 4))) ae) ae)) (ao (gU 2 (aj bZ (dv 3) ae))))) (gj 2 (ao (ar (dv 2))))))), ?_⟩
 rintro ds Q Ed ⟨c, m, rfl, h⟩
 have e0 : az ["_law_cell", "_law_many", "_law_found", "_law_number", "_law_k"] [.int c, .int m] = ([some (.val (.int c)), some (.val (.int m)), none, none, none] : Ro) := rfl
 rw [e0]; clear e0
 obtain ⟨h0, h1, h⟩ := h
 walk_at "rd"
 refine ⟨zAZ _, by decide, ⟨by omega, by omega⟩, fun j ρ => ∃ (xs : List Int) (n : Int) (v : Option Sl), ρ = [some (.val (.int c)), some (.val (.int m)), some (.own (xs.map D.int)), some (.val (.int n)), v] /\ xs.length = j /\ (∀ x ∈ xs, 0 <= x /\ x < 2147483647) /\ 0 <= n /\ n < 2147531918, ⟨[], _, none, rfl, rfl, by simp, ?_, ?_⟩, ?_, ?_⟩
 ·have := fm (a := c) (b := 2147483647) (by decide); omega
 ·have := fm (a := c) (b := 2147483647) (by decide); omega
 ·rintro j x ρ' hx ⟨xs, n, v, rfl, hlen, hb, n0, n1⟩
  obtain ⟨hj, rfl⟩ := qO hx
  have hm : j < 1000 := by
   have := um (by decide) hj
   omega
  walk_at "rd"
  refine ⟨.inr (.inl (by unfold Bd; decide)), .inl (by unfold Bd; omega), by decide, CD.lit, by rw [zAJ, sizeLine_eq]; omega, ?_⟩
  have hf := fm (a := n * 48271 + (0 + (j : Int) * 1) * (0 + (j : Int) * 1) + 11) (b := 2147483647) (by decide)
  generalize (n * 48271 + (0 + (j : Int) * 1) * (0 + (j : Int) * 1) + 11).fmod 2147483647 = y at hf ⊢
  refine ⟨xs ++ [y.fdiv 7], y, some (.val (.int (0 + (j : Int) * 1))), by simp, by simp [hlen], ?_, by omega, by omega⟩
  intro z hz
  rcases zA3.mp hz with q | q
  ·exact hb z q
  ·simp at q
   subst q
   have e := zA1 y (show (0 : Int) <= 7 by decide)
   rw [e]
   omega
 ·rintro ρ' ⟨xs, n, v, rfl, hlen, hb, n0, n1⟩
  walk_at "rd"
  refine h xs ?_ hb
  rw [hlen, i5]
  unfold eJ Builtin.Range.rangeSize
  rw [if_pos (by decide)]
  split <;> omega
theorem jt {f : Addr} {fd : FuncData} (F : aw K "holds" "Paper.holds" df f fd) (C : COk K mg κ)    : aC P w K mg base (CX1 P w) 1 f fd ["self", "dots"] (aG K (cS κ)) := by
 refine aw.okN F jx (fun ds Q E h => by obtain ⟨_, _, rfl, _⟩ := h; rfl) fun cdv A outer s H E hr => ⟨_, (ao (ar br)), ?_⟩
 rintro ds Q Ed ⟨o, dd, rfl, h⟩
 have e0 : az ["self", "dots"] [o, dd] = ([some (.val (o)), some (.val (dd))] : Ro) := rfl
 rw [e0]; clear e0
 walk_at "rx"
 exact h
theorem jU {f : Addr} {fd : FuncData} (F : aw K "told" "Paper.told" dN f fd) (C : COk K mg κ)    : aC P w K mg base (CX1 P w) 1 f fd ["self"] (aG K (dh κ)) := by
 refine aw.okN F jY (fun ds Q E h => by obtain ⟨_, rfl, _⟩ := h; rfl) fun cdv A outer s H E hr => ⟨_, (ao (ar (aR ag))), ?_⟩
 rintro ds Q Ed ⟨o, rfl, h⟩
 have e0 : az ["self"] [o] = ([some (.val (o))] : Ro) := rfl
 rw [e0]; clear e0
 walk_at "rx"
 exact ⟨by rw [sizeLine_eq]; show 0 <= _; omega, h⟩
theorem gM {f : Addr} {fd : FuncData} (F : aw K "holds" "HalfPaper.holds" cn f fd) (C : COk K mg κ)  (h_is_fair : Has P w K mg base "is_fair" 4 ["dots", "gauge", "colour"] (gB κ)) (h_is_level : Has P w K mg base "is_level" 1 ["gauge"] (dw κ))  : aC P w K mg base (CX1 P w) 5 f fd ["self", "dots"] (aG K (cb κ)) := by
 refine aw.okN F gN (fun ds Q E h => by obtain ⟨_, _, rfl, _⟩ := h; rfl) fun cdv A outer s H E hr => ⟨_, (ai (aJ (aX (au h_is_level (hr.mono (by decide)) (aa (bE C.cl_HalfPaper C.na_HalfPaper_gauge (dv 0)) ag))) (ao (ar br)) aB) (ao (ar (bq (au h_is_fair (hr.mono (by decide)) (aa (dv 1) (aa (bE C.cl_HalfPaper C.na_HalfPaper_gauge (dv 0)) (aa (bE C.cl_HalfPaper C.na_HalfPaper_one (dv 0)) ag)))) (bF (au h_is_fair (hr.mono (by decide)) (aa (dv 1) (aa (bE C.cl_HalfPaper C.na_HalfPaper_gauge (dv 0)) (aa (bE C.cl_HalfPaper C.na_HalfPaper_other (dv 0)) ag))))))))), ?_⟩
 rintro ds Q Ed ⟨o, ps, rfl, h⟩
 have e0 : az ["self", "dots"] [o, .lst false (ps.map dtD)] = ([some (.val (o)), some (.val (.lst false (ps.map dtD)))] : Ro) := rfl
 rw [e0]; clear e0
 obtain ⟨g0, g1, g2, a, b, rfl, h0, h1, h2, hl, hG, h⟩ := h
 walk_at "rx"
 unfold hH at h
 by_cases e : g1 = 0 /\ g2 = 0
 ·rw [if_pos e]
  rw [show lvB g1 g2 = true from decide_eq_true e, Bool.not_true, Bool.and_false] at h
  exact h
 ·rw [if_neg e]
  refine ⟨hl, h0, h1, h2, hG, ?_⟩
  rw [show lvB g1 g2 = false from decide_eq_false e, zA6, Bool.and_true] at h
  by_cases ea : 2 * max (wt (fun c => decide (c = a)) g0 g1 g2 (-1) ps) (wt (fun c => decide (c = a)) g0 g1 g2 1 ps) <= tot (fun c => decide (c = a)) ps
  ·rw [if_pos ea]
   rw [show hB g0 g1 g2 a ps = true from decide_eq_true ea, Bool.true_and] at h
   exact ⟨hl, h0, h1, h2, hG, h⟩
  ·rw [if_neg ea]
   rw [show hB g0 g1 g2 a ps = false from decide_eq_false ea, zA5] at h
   exact h
theorem hZ {f : Addr} {fd : FuncData} (F : aw K "told" "HalfPaper.told" cB f fd) (C : COk K mg κ)    : aC P w K mg base (CX1 P w) 1 f fd ["self"] (aG K (cq κ)) := by
 refine aw.okN F iq (fun ds Q E h => by obtain ⟨_, rfl, _⟩ := h; rfl) fun cdv A outer s H E hr => ⟨_, (ao (ar (aR (aa (bE C.cl_HalfPaper C.na_HalfPaper_gauge (dv 0)) (aa (bE C.cl_HalfPaper C.na_HalfPaper_one (dv 0)) (aa (bE C.cl_HalfPaper C.na_HalfPaper_other (dv 0)) ag)))))), ?_⟩
 rintro ds Q Ed ⟨o, rfl, h⟩
 have e0 : az ["self"] [o] = ([some (.val (o))] : Ro) := rfl
 rw [e0]; clear e0
 obtain ⟨g, a, b, rfl, h⟩ := h
 walk_at "rx"
 exact ⟨by rw [sizeLine_eq]; show 3 <= _; omega, h⟩
theorem fx {f : Addr} {fd : FuncData} (F : aw K "holds" "QuarterPaper.holds" bM f fd) (C : COk K mg κ)  (h_is_level : Has P w K mg base "is_level" 1 ["gauge"] (dw κ)) (h_quarters : Has P w K mg base "quarters" 3 ["dots", "gauge", "other"] (fM κ)) (h_total : gP P w K mg base "total" 2 ["dots", "colour"] "colour" (eX κ)) (z_max : mg "max" = none) : aC P w K mg base (CX1 P w) 4 f fd ["self", "dots"] (aG K (bI κ)) := by
 refine aw.okN F fK (fun ds Q E h => by obtain ⟨_, _, rfl, _⟩ := h; rfl) fun cdv A outer s H E hr => ⟨_, (ai (aJ (cH (aX (au h_is_level (hr.mono (by decide)) (aa (bE C.cl_QuarterPaper C.na_QuarterPaper_gauge (dv 0)) ag))) (bW (aX (au h_is_level (hr.mono (by decide)) (aa (bE C.cl_QuarterPaper C.na_QuarterPaper_other (dv 0)) ag))))).pt (ao (ar br)) aB) (ao (ar (bD jr (aj aL ae (bc (tN rfl) (by rfl) z_max boot_max (aa (au h_quarters (hr.mono (by decide)) (aa (dv 1) (aa (bE C.cl_QuarterPaper C.na_QuarterPaper_gauge (dv 0)) (aa (bE C.cl_QuarterPaper C.na_QuarterPaper_other (dv 0)) ag)))) ag))) (pS h_total (hr.mono (by decide)) (aa (dv 1) ag)))))), ?_⟩
 rintro ds Q Ed ⟨o, ps, rfl, h⟩
 have e0 : az ["self", "dots"] [o, .lst false (ps.map dtD)] = ([some (.val (o)), some (.val (.lst false (ps.map dtD)))] : Ro) := rfl
 rw [e0]; clear e0
 obtain ⟨g0, g1, g2, o0, o1, o2, rfl, h0, h1, h2, k0, k1, k2, hl, hG, h⟩ := h
 walk_at "rx"
 unfold hQ at h
 by_cases e : g1 = 0 /\ g2 = 0
 ·rw [if_pos e]
  rw [show lvB g1 g2 = true from decide_eq_true e, Bool.not_true, zA5, Bool.and_false] at h
  exact h
 ·rw [if_neg e]
  rw [show lvB g1 g2 = false from decide_eq_false e, zA6, Bool.true_and] at h
  by_cases e2 : o1 = 0 /\ o2 = 0
  ·rw [if_pos e2]
   rw [show lvB o1 o2 = true from decide_eq_true e2, Bool.not_true, Bool.and_false] at h
   exact h
  ·rw [if_neg e2]
   rw [show lvB o1 o2 = false from decide_eq_false e2, zA6, Bool.and_true] at h
   refine ⟨h0, h1, h2, k0, k1, k2, hl, hG, .inr ⟨true, iF (gv g0 g1 g2) (gv o0 o1 o2) ps, rfl, by show 0 < 4; decide, fun m m1 m2 => ?_⟩⟩
   refine ⟨.inl (by unfold Bd; decide), fun _ => true, .inl ⟨rfl, rfl⟩, hl, ?_⟩
   rw [show tot (fun _ => true) ps = WA ps from mE _ ps, wo m1 m2]
   exact h
theorem fQ {f : Addr} {fd : FuncData} (F : aw K "told" "QuarterPaper.told" bT f fd) (C : COk K mg κ)    : aC P w K mg base (CX1 P w) 1 f fd ["self"] (aG K (bN κ)) := by
 refine aw.okN F fU (fun ds Q E h => by obtain ⟨_, rfl, _⟩ := h; rfl) fun cdv A outer s H E hr => ⟨_, (ao (ar (aR (aa (bE C.cl_QuarterPaper C.na_QuarterPaper_gauge (dv 0)) (aa (bE C.cl_QuarterPaper C.na_QuarterPaper_other (dv 0)) ag))))), ?_⟩
 rintro ds Q Ed ⟨o, rfl, h⟩
 have e0 : az ["self"] [o] = ([some (.val (o))] : Ro) := rfl
 rw [e0]; clear e0
 obtain ⟨g, a, rfl, h⟩ := h
 walk_at "rx"
 exact ⟨by rw [sizeLine_eq]; show 2 <= _; omega, h⟩
theorem kC {f : Addr} {fd : FuncData} (F : aw K "_law_alike" "_law_alike" eK f fd) (C : COk K mg κ)  (h_law_whole : Has P w K mg base "_law_whole" 1 ["_law_found"] (cx κ)) (z_isinstance : mg "isinstance" = none) (z_len : mg "len" = none) (z_list : mg "list" = none) (z_tuple : mg "tuple" = none) : aC P w K mg base (CX1 P w) 2 f fd ["_law_found", "_law_due"] (aG K (dR κ)) := by
 refine aw.okN F kH (fun ds Q E h => by obtain ⟨_, _, rfl, _⟩ := h; rfl) fun cdv A outer s H E hr => ⟨_, (ai (aJ (cH (aX (aO (by rfl) z_isinstance (by rfl) z_tuple boot_tuple (.inr (.inr (.inl rfl))) (dv 1))) (bW (aX (aO (by rfl) z_isinstance (by rfl) z_list boot_list (.inr (.inr (.inr (.inl rfl)))) (dv 1))))).pt (ai (aJ (cH (cP (aX (gg (by rfl) z_isinstance (by rfl) z_tuple boot_tuple (.inr (.inr (.inl rfl))) (by rfl) z_list boot_list (.inr (.inr (.inr (.inl rfl)))) (dv 0)))) (bW (aK (oX (by exact hr.units)) (aO (by rfl) z_isinstance (by rfl) z_list boot_list (.inr (.inr (.inr (.inl rfl)))) (dv 0)) (aO (by rfl) z_isinstance (by rfl) z_list boot_list (.inr (.inr (.inr (.inl rfl)))) (dv 1))))).pt (ao (ar br)) aB) (ai (aJ (aK lY (bc cO (by rfl) z_len boot_len (aa (dv 0) ag)) (bc cO (by rfl) z_len boot_len (aa (dv 1) ag))) (ao (ar br)) aB) (ai rO (ao (ar br))))) aB) (ao (ar (bq (au h_law_whole (hr.mono (by decide)) (aa (dv 0) ag)) (bF (bD (fb (by exact hr.units)) (dv 0) (dv 1))))))), ?_⟩
 rintro ds Q Ed ⟨a, b, rfl, h⟩
 have e0 : az ["_law_found", "_law_due", "_law_here", "_law_there"] [.int a, .int b] = ([some (.val (.int a)), some (.val (.int b)), none, none] : Ro) := rfl
 rw [e0]; clear e0
 obtain ⟨rfl, h⟩ := h
 walk_at "rx"
 exact h
theorem kD {f : Addr} {fd : FuncData} (F : aw K "_law_alike" "_law_alike" eL f fd) (C : COk K mg κ)  (h_law_alike0 : Has P w K mg base "_law_alike" 2 ["_law_found", "_law_due"] (dR κ)) (h_law_whole : Has P w K mg base "_law_whole" 1 ["_law_found"] (cx κ)) (z_isinstance : mg "isinstance" = none) (z_len : mg "len" = none) (z_list : mg "list" = none) (z_tuple : mg "tuple" = none) (z_zip : mg "zip" = none) : aC P w K mg base (CX1 P w) 3 f fd ["_law_found", "_law_due"] (aG K (dS κ)) := by
 refine aw.okN F dP (fun ds Q E h => by obtain ⟨_, _, rfl, _⟩ := h; rfl) fun cdv A outer s H E hr => ⟨_, (ai (aJ (cH (aX (aO (by rfl) z_isinstance (by rfl) z_tuple boot_tuple (.inr (.inr (.inl rfl))) (dv 1))) (bW (aX (aO (by rfl) z_isinstance (by rfl) z_list boot_list (.inr (.inr (.inr (.inl rfl)))) (dv 1))))).pt (ai (aJ (cH (cP (aX (gg (by rfl) z_isinstance (by rfl) z_tuple boot_tuple (.inr (.inr (.inl rfl))) (by rfl) z_list boot_list (.inr (.inr (.inr (.inl rfl)))) (dv 0)))) (bW (aK (oX (by exact hr.units)) (aO (by rfl) z_isinstance (by rfl) z_list boot_list (.inr (.inr (.inr (.inl rfl)))) (dv 0)) (aO (by rfl) z_isinstance (by rfl) z_list boot_list (.inr (.inr (.inr (.inl rfl)))) (dv 1))))).pt (ao (ar br)) aB) (ai (aJ (aK lY (bc cO (by rfl) z_len boot_len (aa (dv 0) ag)) (bc cO (by rfl) z_len boot_len (aa (dv 1) ag))) (ao (ar br)) aB) (ai (ck PassesOwn.never rfl (qr (by rfl) z_zip (aa (dv 0) (aa (dv 1) ag))) (lN (n := 2) rfl (c9 (bg 2 dP.nd) (c9 (bg 3 dP.nd) jS))) (ao (aJ (cP (aX (au h_law_alike0 (hr.mono (by decide)) (aa (dv 2) (aa (dv 3) ag))))) (ao (ar br)) aB))) (ao (ar br))))) aB) (ao (ar (bq (au h_law_whole (hr.mono (by decide)) (aa (dv 0) ag)) (bF (bD (fb (by exact hr.units)) (dv 0) (dv 1))))))), ?_⟩
 rintro ds Q Ed ⟨x, y, rfl, h⟩
 have e0 : az ["_law_found", "_law_due", "_law_here", "_law_there"] [x, y] = ([some (.val (x)), some (.val (y)), none, none] : Ro) := rfl
 rw [e0]; clear e0
 obtain ⟨rfl, hx, h⟩ := h
 rcases hx with ⟨i, rfl⟩ | ⟨ns, rfl⟩
 ·walk_at "rx"
  exact h
 ·walk_at "rx"
  refine PD.bR ns (fun i => .tup [.int i, .int i]) (fun _ ρ => ∃ v2 v3 : Option Sl, ρ = [some (.val (.tup (ns.map D.int))), some (.val (.tup (ns.map D.int))), v2, v3]) (fun R q => ?_) ⟨none, none, rfl⟩ ?_ ?_
  ·walk_at "rd"
   rw [mF, zAz]
   exact q
  ·rintro k i ρ2 hk ⟨v2, v3, rfl⟩
   walk_at "rd"
   exact ⟨_, _, rfl⟩
  ·rintro ρ2 ⟨v2, v3, rfl⟩
   walk_at "rd"
   exact h
theorem kE {f : Addr} {fd : FuncData} (F : aw K "_law_alike" "_law_alike" eM f fd) (C : COk K mg κ)  (h_law_alike1 : Has P w K mg base "_law_alike" 3 ["_law_found", "_law_due"] (dS κ)) (h_law_whole : Has P w K mg base "_law_whole" 1 ["_law_found"] (cx κ)) (z_isinstance : mg "isinstance" = none) (z_len : mg "len" = none) (z_list : mg "list" = none) (z_tuple : mg "tuple" = none) (z_zip : mg "zip" = none) : aC P w K mg base (CX1 P w) 4 f fd ["_law_found", "_law_due"] (aG K (dU κ)) := by
 refine aw.okN F dQ (fun ds Q E h => by obtain ⟨_, _, rfl, _⟩ := h; rfl) fun cdv A outer s H E hr => ⟨_, (ai (aJ (cH (aX (aO (by rfl) z_isinstance (by rfl) z_tuple boot_tuple (.inr (.inr (.inl rfl))) (dv 1))) (bW (aX (aO (by rfl) z_isinstance (by rfl) z_list boot_list (.inr (.inr (.inr (.inl rfl)))) (dv 1))))).pt (ai (aJ (cH (cP (aX (gg (by rfl) z_isinstance (by rfl) z_tuple boot_tuple (.inr (.inr (.inl rfl))) (by rfl) z_list boot_list (.inr (.inr (.inr (.inl rfl)))) (dv 0)))) (bW (aK (oX (by exact hr.units)) (aO (by rfl) z_isinstance (by rfl) z_list boot_list (.inr (.inr (.inr (.inl rfl)))) (dv 0)) (aO (by rfl) z_isinstance (by rfl) z_list boot_list (.inr (.inr (.inr (.inl rfl)))) (dv 1))))).pt (ao (ar br)) aB) (ai (aJ (aK lY (bc cO (by rfl) z_len boot_len (aa (dv 0) ag)) (bc cO (by rfl) z_len boot_len (aa (dv 1) ag))) (ao (ar br)) aB) (ai (ck PassesOwn.never rfl (qr (by rfl) z_zip (aa (dv 0) (aa (dv 1) ag))) (lN (n := 2) rfl (c9 (bg 2 dQ.nd) (c9 (bg 3 dQ.nd) jS))) (ao (aJ (cP (aX (au h_law_alike1 (hr.mono (by decide)) (aa (dv 2) (aa (dv 3) ag))))) (ao (ar br)) aB))) (ao (ar br))))) aB) (ao (ar (bq (au h_law_whole (hr.mono (by decide)) (aa (dv 0) ag)) (bF (bD (fb (by exact hr.units)) (dv 0) (dv 1))))))), ?_⟩
 rintro ds Q Ed ⟨x, y, rfl, h⟩
 have e0 : az ["_law_found", "_law_due", "_law_here", "_law_there"] [x, y] = ([some (.val (x)), some (.val (y)), none, none] : Ro) := rfl
 rw [e0]; clear e0
 obtain ⟨rfl, ⟨ds, rfl, hd⟩, h⟩ := h
 walk_at "rx"
 refine PD.bR ds (fun d => .tup [d, d]) (fun _ ρ => ∃ v2 v3 : Option Sl, ρ = [some (.val (.tup ds)), some (.val (.tup ds)), v2, v3]) (fun R q => ?_) ⟨none, none, rfl⟩ ?_ ?_
 ·walk_at "rd"
  rw [mF]
  exact q
 ·rintro k d ρ2 hk ⟨v2, v3, rfl⟩
  rcases hd d (zAM hk) with ⟨i, rfl⟩ | ⟨ns, rfl⟩
  ·walk_at "rd"
   exact ⟨.inl ⟨i, rfl⟩, _, _, rfl⟩
  ·walk_at "rd"
   exact ⟨.inr ⟨ns, rfl⟩, _, _, rfl⟩
 ·rintro ρ2 ⟨v2, v3, rfl⟩
  walk_at "rd"
  exact h
theorem l8 {f : Addr} {fd : FuncData} (F : aw K "_law_holds" "_law_holds" fF f fd) (C : COk K mg κ)  (h_HalfPaper__holds : gb P w K mg base κ.HalfPaper "holds" 5 ["self", "dots"] (cb κ)) (h_Paper__holds : gb P w K mg base κ.Paper "holds" 1 ["self", "dots"] (cS κ)) (h_QuarterPaper__holds : gb P w K mg base κ.QuarterPaper "holds" 4 ["self", "dots"] (bI κ)) (z_bool : mg "bool" = none) (z_isinstance : mg "isinstance" = none) : aC P w K mg base (CX1 P w) 6 f fd ["_law_paper", "_law_dots", "_law_due"] (aG K (cw κ)) := by
 refine aw.okN F ix (fun ds Q E h => by obtain ⟨_, _, _, rfl, _⟩ := h; rfl) fun cdv A outer s H E hr => ⟨_, (ai (aD 3 ix.nd (oB (jM C.cl_HalfPaper h_HalfPaper__holds (hr.mono (by decide)) (dv 0) (aa (dv 1) ag)) (oB (jM C.cl_QuarterPaper h_QuarterPaper__holds (hr.mono (by decide)) (dv 0) (aa (dv 1) ag)) (jM C.cl_Paper h_Paper__holds (hr.mono (by decide)) (dv 0) (aa (dv 1) ag))))) (ao (ar (bq (aO (by rfl) z_isinstance (by rfl) z_bool boot_bool (.inr (.inl rfl)) (dv 3)) (bF (bD (fb (by exact hr.units)) (dv 3) (dv 2))))))), ?_⟩
 rintro ds Q Ed ⟨o, ps, due, rfl, h⟩
 have e0 : az ["_law_paper", "_law_dots", "_law_due", "_law_found"] [o, .lst false (ps.map dtD), due] = ([some (.val (o)), some (.val (.lst false (ps.map dtD))), some (.val (due)), none] : Ro) := rfl
 rw [e0]; clear e0
 obtain ⟨hk, hl, hG, h⟩ := h
 rcases hk with ⟨g0, g1, g2, a, b, rfl, h0, h1, h2, rfl⟩ | ⟨g0, g1, g2, o0, o1, o2, rfl, h0, h1, h2, k0, k1, k2, rfl⟩ | ⟨rfl, rfl⟩
 ·walk_at "rx"
  refine .inl ⟨_, _, rfl, by decide +kernel, g0, g1, g2, a, b, rfl, h0, h1, h2, hl, hG, ?_⟩
  rw [decide_eq_true rfl]
  exact h
 ·walk_at "rx"
  refine .inr (.inl ⟨_, _, rfl, by decide +kernel, g0, g1, g2, o0, o1, o2, rfl, h0, h1, h2, k0, k1, k2, hl, hG, ?_⟩)
  rw [decide_eq_true rfl]
  exact h
 ·walk_at "rx"
  exact .inr (.inr ⟨_, _, rfl, by decide +kernel, h⟩)
theorem ma {f : Addr} {fd : FuncData} (F : aw K "_law_reads" "_law_reads" fH f fd) (C : COk K mg κ)    : aC P w K mg base (CX1 P w) 1 f fd ["_law_gauge_here", "_law_dot_here"] (aG K (cV κ)) := by
 refine aw.okN F mv (fun ds Q E h => by obtain ⟨_, _, _, _, rfl, _⟩ := h; rfl) fun cdv A outer s H E hr => ⟨_, (ao (ar (aj aY (aj aY (av (dv 0) ae) (aj aL (av (dv 0) ae) (av (dv 1) ae))) (aj aL (av (dv 0) ae) (av (dv 1) ae))))), ?_⟩
 rintro ds Q Ed ⟨g0, g1, g2, p, rfl, h⟩
 have e0 : az ["_law_gauge_here", "_law_dot_here"] [T3 g0 g1 g2, dtD p] = ([some (.val (T3 g0 g1 g2)), some (.val (dtD p))] : Ro) := rfl
 rw [e0]; clear e0
 obtain ⟨h0, h1, h2, hG, h⟩ := h
 unfold dtD
 walk_at "rx"
 exact ⟨.inr (.inl (hG.x.mono (by decide))), .inr (.inl (hG.y.mono (by decide))), h⟩
theorem l9 {f : Addr} {fd : FuncData} (F : aw K "_law_level" "_law_level" fG f fd) (C : COk K mg κ)    : aC P w K mg base (CX1 P w) 1 f fd ["_law_gauge_here"] (aG K (eV κ)) := by
 refine aw.okN F mr (fun ds Q E h => by obtain ⟨_, _, _, rfl, _⟩ := h; rfl) fun cdv A outer s H E hr => ⟨_, (ao (ar (bq (bD bX (av (dv 0) ae) ae) (bF (bD bX (av (dv 0) ae) ae))))), ?_⟩
 rintro ds Q Ed ⟨g0, g1, g2, rfl, h⟩
 have e0 : az ["_law_gauge_here"] [T3 g0 g1 g2] = ([some (.val (T3 g0 g1 g2))] : Ro) := rfl
 rw [e0]; clear e0
 walk_at "rx"
 unfold lvB at h
 by_cases e : g1 = 0
 ·rw [if_pos e]
  rw [show (decide (g1 = 0 /\ g2 = 0)) = decide (g2 = 0) from decide_eq_decide.mpr ⟨fun z => z.2, fun z => ⟨e, z⟩⟩] at h
  exact h
 ·rw [if_neg e]
  rw [decide_eq_false fun z => e z.1] at h
  exact h
theorem kF {f : Addr} {fd : FuncData} (F : aw K "_law_halves" "_law_halves" eN f fd) (C : COk K mg κ)  (h_law_reads : Has P w K mg base "_law_reads" 1 ["_law_gauge_here", "_law_dot_here"] (cV κ))  : aC P w K mg base (CX1 P w) 2 f fd ["_law_dots", "_law_gauge_here", "_law_colour"] (aG K (dX κ)) := by
 refine aw.okN F bh (fun ds Q E h => by obtain ⟨_, _, _, _, _, rfl, _⟩ := h; rfl) fun cdv A outer s H E hr => ⟨_, (ai (aD 3 bh.nd ae) (ai (aD 4 bh.nd ae) (ai (aD 5 bh.nd ae) (ai (ck PassesOwn.never rfl (bC (dv 0)) (bg 6 bh.nd) (ao (aJ (aK (fb (by exact hr.units)) (av (dv 6) ae) (dv 2)) (ai (aD 5 bh.nd (aj aY (dv 5) (av (dv 6) ae))) (ai (aJ (aK oW (au h_law_reads (hr.mono (by decide)) (aa (dv 1) (aa (dv 6) ag))) ae) (ao (aD 3 bh.nd (aj aY (dv 3) (av (dv 6) ae)))) aB) (ao (aJ (aK kP (au h_law_reads (hr.mono (by decide)) (aa (dv 1) (aa (dv 6) ag))) ae) (ao (aD 4 bh.nd (aj aY (dv 4) (av (dv 6) ae)))) aB)))) aB))) (ao (ar (bq (bD jr (aj aL ae (dv 3)) (dv 5)) (bF (bD jr (aj aL ae (dv 4)) (dv 5)))))))))), ?_⟩
 rintro ds Q Ed ⟨ps, g0, g1, g2, k, rfl, h⟩
 have e0 : az ["_law_dots", "_law_gauge_here", "_law_colour", "_law_under", "_law_over", "_law_every", "_law_dot_here"] [.lst false (ps.map dtD), T3 g0 g1 g2, .int k] = ([some (.val (.lst false (ps.map dtD))), some (.val (T3 g0 g1 g2)), some (.val (.int k)), none, none, none, none] : Ro) := rfl
 rw [e0]; clear e0
 obtain ⟨h0, h1, h2, hl, hG, h⟩ := h
 walk_at "rx"
 have w1 := er (fun z => decide (z.2.2.1 = k))
 have w2 := er (fun z => decide (z.2.2.1 = k) && decide (gv g0 g1 g2 z < 0))
 have w3 := er (fun z => decide (z.2.2.1 = k) && decide (0 < gv g0 g1 g2 z))
 refine PD.bR ps dtD (fun j ρ => ∃ v6 : Option Sl, ρ = [some (.val (.lst false (ps.map dtD))), some (.val (T3 g0 g1 g2)), some (.val (.int k)), some (.val (.int (wq (fun z => decide (z.2.2.1 = k) && decide (gv g0 g1 g2 z < 0)) (ps.take j)))), some (.val (.int (wq (fun z => decide (z.2.2.1 = k) && decide (0 < gv g0 g1 g2 z)) (ps.take j)))), some (.val (.int (wq (fun z => decide (z.2.2.1 = k)) (ps.take j)))), v6]) (fun R q => ?_) ⟨none, rfl⟩ ?_ ?_
 ·walk_at "rd"
  exact q
 ·rintro j p ρ2 hj ⟨v6, rfl⟩
  have hp := hG p (zAM hj)
  have ep : dtD p = .tup [.int p.1, .int p.2.1, .int p.2.2.1, .int p.2.2.2] := rfl
  rw [zAr, hj, zAw, w1, w2, w3]
  walk_at "rx"
  by_cases e1 : p.2.2.1 = k
  ·rw [if_pos e1]
   refine ⟨h0, h1, h2, hp, ?_⟩
   by_cases e2 : gv g0 g1 g2 p < 0
   ·rw [if_pos e2]
    refine ⟨h0, h1, h2, hp, ?_⟩
    rw [if_neg (show ¬ 0 < gv g0 g1 g2 p by omega)]
    exact ⟨_, by simp [e1, e2, show ¬ 0 < gv g0 g1 g2 p by omega]; rfl⟩
   ·rw [if_neg e2]
    refine ⟨h0, h1, h2, hp, ?_⟩
    by_cases e3 : 0 < gv g0 g1 g2 p
    ·rw [if_pos e3]
     exact ⟨_, by simp [e1, e2, e3]; rfl⟩
    ·rw [if_neg e3]
     exact ⟨_, by simp [e1, e2, e3]; rfl⟩
  ·rw [if_neg e1]
   exact ⟨_, by simp [e1]; rfl⟩
 ·rintro ρ2 ⟨v6, rfl⟩
  rw [List.take_length]
  walk_at "rx"
  refine ⟨.inl (by unfold Bd; decide), ?_⟩
  rw [vD] at h
  by_cases e : 2 * wq (fun z => decide (z.2.2.1 = k) && decide (gv g0 g1 g2 z < 0)) ps <= wq (fun z => decide (z.2.2.1 = k)) ps
  ·rw [if_pos e]
   refine ⟨.inl (by unfold Bd; decide), ?_⟩
   rw [show ∀ q : Prop, [Decidable q] -> decide (2 * wq (fun z => decide (z.2.2.1 = k) && decide (gv g0 g1 g2 z < 0)) ps <= wq (fun z => decide (z.2.2.1 = k)) ps /\ q) = decide q from fun q _ => decide_eq_decide.mpr ⟨fun z => z.2, fun z => ⟨e, z⟩⟩] at h
   exact h
  ·rw [if_neg e]
   rw [decide_eq_false fun z => e z.1] at h
   exact h
theorem ju {f : Addr} {fd : FuncData} (F : aw K "_law_quarters" "_law_quarters" cy f fd) (C : COk K mg κ)  (h_law_reads : Has P w K mg base "_law_reads" 1 ["_law_gauge_here", "_law_dot_here"] (cV κ)) (z_max : mg "max" = none) (z_sum : mg "sum" = none) : aC P w K mg base (CX1 P w) 2 f fd ["_law_dots", "_law_gauge_here", "_law_other"] (aG K (cU κ)) := by
 refine aw.okN F aT (fun ds Q E h => by obtain ⟨_, _, _, _, _, _, _, rfl, _⟩ := h; rfl) fun cdv A outer s H E hr => ⟨_, (ai (aD 3 aT.nd ae) (ai (ck PassesOwn.never rfl (bC (cC (aa ae (aa (bV ae) ag)))) (bg 4 aT.nd) (ao (ck PassesOwn.never rfl (bC (cC (aa ae (aa (bV ae) ag)))) (bg 5 aT.nd) (ai (aD 6 aT.nd ae) (ai (ck PassesOwn.never rfl (bC (dv 0)) (bg 7 aT.nd) (ao (aJ (uQ (aK kP (aj aL (dv 4) (au h_law_reads (hr.mono (by decide)) (aa (dv 1) (aa (dv 7) ag)))) ae) (tR (aK kP (aj aL (dv 5) (au h_law_reads (hr.mono (by decide)) (aa (dv 2) (aa (dv 7) ag)))) ae))).pt (ao (aD 6 aT.nd (aj aY (dv 6) (av (dv 7) ae)))) aB))) (ao (aD 3 aT.nd (bc (la rfl) (by rfl) z_max boot_max (aa (dv 3) (aa (dv 6) ag)))))))))) (ao (ar (bD jr (aj aL ae (dv 3)) (bc (pA rfl) (by rfl) z_sum boot_sum (aa (jL (by rfl) (by exact iB (osc := ak cy) (xs := ["_law_dot_here"]) (ns := []) (by decide +kernel)) cY.nil (bC (dv 0)) (fun _ _ _ _ _ => mC) (fun _ _ _ _ _ => (av (dv 0) ae))) ag))))))), ?_⟩
 rintro ds Q Ed ⟨ps, g0, g1, g2, o0, o1, o2, rfl, h⟩
 have e0 : az ["_law_dots", "_law_gauge_here", "_law_other", "_law_heaviest", "_law_first", "_law_second", "_law_slice_weight", "_law_dot_here"] [.lst false (ps.map dtD), T3 g0 g1 g2, T3 o0 o1 o2] = ([some (.val (.lst false (ps.map dtD))), some (.val (T3 g0 g1 g2)), some (.val (T3 o0 o1 o2)), none, none, none, none, none] : Ro) := rfl
 rw [e0]; clear e0
 obtain ⟨h0, h1, h2, k0, k1, k2, hl, hG, hP, h⟩ := h
 walk_at "rx"
 refine PD.bR ([1, -1] : List Int) D.int (fun j ρ => ∃ v4 v5 v6 v7 : Option Sl, ρ = [some (.val (.lst false (ps.map dtD))), some (.val (T3 g0 g1 g2)), some (.val (T3 o0 o1 o2)), some (.val (.int (hvF (gv g0 g1 g2) (gv o0 o1 o2) ps ((([1, -1] : List Int).take j).flatMap fun a => [(a, 1), (a, -1)])))), v4, v5, v6, v7]) (fun R q => ?_) ⟨none, none, none, none, rfl⟩ ?_ ?_
 ·walk_at "rd"
  exact ⟨by rw [sizeLine_eq]; show 2 <= _; omega, q⟩
 ·rintro j a ρ2 hj ⟨v4, v5, v6, v7, rfl⟩
  have ha : a = 1 ∨ a = -1 := by
   have := zAM hj
   simpa using this
  rw [zAr, hj, zAw, List.flatMap_append, List.flatMap_singleton]
  generalize (([1, -1] : List Int).take j).flatMap (fun a => [(a, (1 : Int)), (a, -1)]) = L
  walk_at "rx"
  refine PD.bR ([1, -1] : List Int) D.int (fun i ρ => ∃ v5 v6 v7 : Option Sl, ρ = [some (.val (.lst false (ps.map dtD))), some (.val (T3 g0 g1 g2)), some (.val (T3 o0 o1 o2)), some (.val (.int (hvF (gv g0 g1 g2) (gv o0 o1 o2) ps (L ++ (([1, -1] : List Int).take i).map fun b => (a, b))))), some (.val (.int a)), v5, v6, v7]) (fun R q => ?_) ⟨v5, v6, v7, by simp⟩ ?_ ?_
  ·walk_at "rd"
   exact ⟨by rw [sizeLine_eq]; show 2 <= _; omega, q⟩
  ·rintro i b ρ3 hi ⟨v5, v6, v7, rfl⟩
   have hb : b = 1 ∨ b = -1 := by
    have := zAM hi
    simpa using this
   have w1 := er (fun z => decide (0 < a * gv g0 g1 g2 z) && decide (0 < b * gv o0 o1 o2 z))
   rw [zAr, hi, zAw, zAW, <- List.append_assoc, List.map_singleton, rW]
   generalize L ++ (([1, -1] : List Int).take i).map (fun b => (a, b)) = M
   walk_at "rx"
   refine PD.bR ps dtD (fun n ρ => ∃ v7 : Option Sl, ρ = [some (.val (.lst false (ps.map dtD))), some (.val (T3 g0 g1 g2)), some (.val (T3 o0 o1 o2)), some (.val (.int (hvF (gv g0 g1 g2) (gv o0 o1 o2) ps M))), some (.val (.int a)), some (.val (.int b)), some (.val (.int (wq (fun z => decide (0 < a * gv g0 g1 g2 z) && decide (0 < b * gv o0 o1 o2 z)) (ps.take n)))), v7]) (fun R q => ?_) ⟨v7, rfl⟩ ?_ ?_
   ·walk_at "rd"
    exact q
   ·rintro n p ρ4 hn ⟨v7, rfl⟩
    have hp := hG p (zAM hn)
    rw [zAr, hn, zAw, w1]
    walk_at "rx"
    have ba : Bd 64 a := by rcases ha with rfl | rfl <;> (unfold Bd; decide)
    have bb : Bd 64 b := by rcases hb with rfl | rfl <;> (unfold Bd; decide)
    refine ⟨h0, h1, h2, hp, .inl ba, ?_⟩
    by_cases e1 : 0 < a * gv g0 g1 g2 p
    ·rw [if_pos e1]
     refine ⟨k0, k1, k2, hp, .inl bb, ?_⟩
     by_cases e2 : 0 < b * gv o0 o1 o2 p
     ·rw [if_pos e2]
      exact ⟨_, by simp [e1, e2]; rfl⟩
     ·rw [if_neg e2]
      exact ⟨_, by simp [e1, e2]; rfl⟩
    ·rw [if_neg e1]
     exact ⟨_, by simp [e1]; rfl⟩
   ·rintro ρ4 ⟨v7, rfl⟩
    rw [List.take_length, vp ha hb]
    walk_at "rx"
    exact ⟨_, _, _, rfl⟩
  ·rintro ρ3 ⟨v5, v6, v7, rfl⟩
   exact ⟨some (.val (.int a)), v5, v6, v7, rfl⟩
 ·rintro ρ2 ⟨v4, v5, v6, v7, rfl⟩
  rw [show (([1, -1] : List Int).take ([1, -1] : List Int).length).flatMap (fun a => [(a, (1 : Int)), (a, -1)]) = [(1, 1), (1, -1), (-1, 1), (-1, -1)] from rfl]
  walk_at "rx"
  refine ⟨.inl (by unfold Bd; decide), ?_⟩
  refine PD.comp_map ps dtD (fun _ => true) (fun p => D.int p.2.2.2) (fun R q => ?_) (by rw [sizeLine_eq]; omega) (fun p hp K q => ?_) (fun p hp _ K q => ?_) ?_
  ·walk_at "rd"
   exact q
  ·walk_at "rd"
   exact q
  ·walk_at "rd"
   exact q
  refine ⟨true, ps.map fun p => p.2.2.2, by rw [List.filter_eq_self.mpr (fun _ _ => rfl), zAz]; rfl, ?_⟩
  rw [qX, uV hP]
  exact h
theorem mO {f : Addr} {fd : FuncData} (F : aw K "_law_spot" "_law_spot" gw f fd) (C : COk K mg κ)    : aC P w K mg base (CX1 P w) 1 f fd ["_law_kind", "_law_cell"] (aG K (fL κ)) := by
 refine aw.okN F iS (fun ds Q E h => by obtain ⟨_, _, rfl, _⟩ := h; rfl) fun cdv A outer s H E hr => ⟨_, (ai (aJ (aK bX (dv 0) ae) (ao (ar (aR (aa (aj aE (dv 1) ae) (aa (aj aE (aj bZ (dv 1) ae) ae) ag))))) aB) (ai (aJ (aK bX (dv 0) ae) (ao (ar (aR (aa (aj aS (aj aE (dv 1) ae) ae) (aa (aj aS (aj aE (aj bZ (dv 1) ae) ae) ae) ag))))) aB) (ai (aJ (aK bX (dv 0) ae) (ai (aD 2 iS.nd (aj aY (aj aS (aj aE (dv 1) (aj aS (aj aL ae (aj hJ ae ae)) ae)) (aj hJ ae ae)) ae)) (ao (ar (aR (aa (dv 2) (aa (aj aY (aj aS (aj aE (aj aL (dv 1) ae) (aj aS (aj aL ae (aj hJ ae ae)) ae)) (aj hJ ae ae)) ae) ag)))))) aB) (ai (aJ (aK bX (dv 0) ae) (ao (ar (aR (aa (aj aS (aj aL ae (aj aE (dv 1) ae)) ae) (aa (aj aS ae (aj aL ae (aj aE (dv 1) ae))) ag))))) aB) (ai (aJ (aK bX (dv 0) ae) (ao (ar (av (cC (aa (aR (aa (aj aS (aj aE (dv 1) ae) ae) (aa ae ag))) (aa (aR (aa (bV ae) (aa (aj aS (aj aE (dv 1) ae) ae) ag))) ag))) (aj bZ (aj aE (aj bZ (dv 1) ae) ae) ae)))) aB) (ai (aJ (aK bX (dv 0) ae) (ao (ar (aR (aa (aj aS (aj aE (dv 1) ae) ae) (aa (aj aL (aj aS (aj aE (dv 1) ae) ae) (aj aS (aj aE (dv 1) ae) ae)) ag))))) aB) (ai (aJ (aK bX (aj aE (dv 1) ae) ae) (ao (ar (aR (aa (aj aS (aj aE (aj bZ (dv 1) ae) ae) ae) (aa (aj aS (aj aE (aj bZ (dv 1) ae) ae) ae) ag))))) aB) (ao (ar (aR (aa ae (aa (aj aY (bV (aj hJ ae ae)) ae) ag)))))))))))), ?_⟩
 rintro ds Q Ed ⟨k, c, rfl, h⟩
 have e0 : az ["_law_kind", "_law_cell", "_law_x"] [.int k, .int c] = ([some (.val (.int k)), some (.val (.int c)), none] : Ro) := rfl
 rw [e0]; clear e0
 walk_at "rd"
 have fin : ∀ a b : Int, Bd 40 a -> Bd 40 b -> Q (.tup [.int a, .int b]) := fun a b ha hb => h a b (ha.mono (by decide)) (hb.mono (by decide))
 have f3 := fun n : Int => fm (a := n) (b := 3) (by decide)
 have f5 := fun n : Int => fm (a := n) (b := 5) (by decide)
 have f7 := fun n : Int => fm (a := n) (b := 7) (by decide)
 have f9 := fun n : Int => fm (a := n) (b := 9) (by decide)
 have f11 := fun n : Int => fm (a := n) (b := 11) (by decide)
 have f41 := fun n : Int => fm (a := n) (b := 41) (by decide)
 have ff := fun n : Int => fm (a := n) (b := 2 * 1000000000000 - 1) (by decide)
 split
 ·exact ⟨by decide, CD.lit, by decide, sz2 _ _, fin _ _ (bdl 10 (by have := f3 c; omega) (by decide)) (bdl 10 (by have := f3 (c.fdiv 3); omega) (by decide))⟩
 ·split
  ·exact ⟨by decide, CD.lit, by decide, sz2 _ _, fin _ _ (bdl 10 (by have := f5 c; omega) (by decide)) (bdl 10 (by have := f5 (c.fdiv 5); omega) (by decide))⟩
  ·split
   ·rw [p12]
    exact ⟨lh, .inl (by unfold Bd; decide), by decide, lh, .inr (.inl (by unfold Bd; decide)), lh, .inl (by unfold Bd; decide), by decide, lh, sz2 _ _, fin _ _ (bdl 1000000000001 (by have := ff c; omega) (by decide)) (bdl 1000000000001 (by have := ff (c * 982451653); omega) (by decide))⟩
   ·split
    ·exact ⟨by decide, .inl (by unfold Bd; decide), by decide, .inl (by unfold Bd; decide), sz2 _ _, fin _ _ (bdl 100 (by have := f11 c; omega) (by decide)) (bdl 100 (by have := f11 c; omega) (by decide))⟩
    ·split
     ·have f16 := fm (a := c.fdiv 9) (b := 16) (by decide)
      refine ⟨by decide, sz2 _ _, by decide, sz2 _ _, sz2 _ _, CD.lit, by decide, CD.lit, ?_⟩
      generalize (c.fdiv 9).fmod 16 = n at f16 ⊢
      have e : n.fdiv 15 = n / 15 := zA1 n (by decide)
      rw [e]
      refine gR (by omega) (by show n / 15 < 2; omega) fun d hd => ?_
      have b9 := f9 c
      simp only [zAN, zAY, or_false] at hd
      rcases hd with rfl | rfl
      ·exact fin _ _ (bdl 10 (by omega) (by decide)) (by unfold Bd; decide)
      ·exact fin _ _ (by unfold Bd; decide) (bdl 10 (by omega) (by decide))
     ·split
      ·have s := f41 c
       have bs : Bd 8 (c.fmod 41 - 20) := bdl 30 (by omega) (by decide)
       generalize c.fmod 41 - 20 = t at bs ⊢
       exact ⟨by decide, by decide, by decide, .inl (bs.mono (by decide)), sz2 _ _, fin _ _ (bs.mono (by decide)) ((bs.mul bs).mono (by decide))⟩
      ·refine ⟨by decide, ?_⟩
       split
       ·exact ⟨CD.lit, by decide, CD.lit, by decide, sz2 _ _, fin _ _ (bdl 10 (by have := f7 (c.fdiv 5); omega) (by decide)) (bdl 10 (by have := f7 (c.fdiv 35); omega) (by decide))⟩
       ·rw [p12]
        exact ⟨lh, sz2 _ _, fin _ _ (by unfold Bd; decide) (by unfold Bd; decide)⟩
theorem o3 {f : Addr} {fd : FuncData} (F : aw K "_law_dot" "_law_dot" ig f fd) (C : COk K mg κ)  (h_law_spot : Has P w K mg base "_law_spot" 1 ["_law_kind", "_law_cell"] (fL κ)) (h_law_stream : Has P w K mg base "_law_stream" 1 ["_law_cell", "_law_many"] (cI κ))  : aC P w K mg base (CX1 P w) 2 f fd ["_law_kind", "_law_cell"] (aG K (gC κ)) := by
 refine aw.okN F cR (fun ds Q E h => by obtain ⟨_, _, rfl, _⟩ := h; rfl) fun cdv A outer s H E hr => ⟨_, (ai (uP (au h_law_spot (hr.mono (by decide)) (aa (dv 0) (aa (dv 1) ag))) (lN (n := 2) rfl (c9 (bg 4 cR.nd) (c9 (bg 5 cR.nd) jS)))) (ai (aD 2 cR.nd (au h_law_stream (hr.mono (by decide)) (aa (dv 1) (aa ae ag)))) (ai (aD 3 cR.nd (av (cC (aa ae (aa (aj aY ae (aj aE (av (dv 2) ae) ae)) (aa (aj aY ae (aj aE (aj aL (av (dv 2) ae) (av (dv 2) ae)) ae)) ag)))) (aj aE (aj bZ (av (dv 2) ae) ae) ae))) (ao (ar (aR (aa (dv 4) (aa (dv 5) (aa (aj aE (av (dv 2) ae) ae) (aa (dv 3) ag)))))))))), ?_⟩
 rintro ds Q Ed ⟨k, c, rfl, h⟩
 have e0 : az ["_law_kind", "_law_cell", "_law_xs", "_law_weight", "_law_x", "_law_y"] [.int k, .int c] = ([some (.val (.int k)), some (.val (.int c)), none, none, none, none] : Ro) := rfl
 rw [e0]; clear e0
 walk_at "rd"
 intro a b ha hb
 refine ⟨by decide, by decide, fun xs hl hx => ?_⟩
 obtain ⟨x, y, z, rfl⟩ := PD.lT (show xs.length = 3 from hl)
 have bx := hx x (by simp)
 have by_ := hx y (by simp)
 have bz := hx z (by simp)
 walk_at "rd"
 have f3 := fm (a := x.fdiv 3) (b := 3) (by decide)
 have g3 := fm (a := x) (b := 3) (by decide)
 have f5 := fm (a := y) (b := 5) (by decide)
 have f9 := fm (a := y * z) (b := 999999999) (by decide)
 refine ⟨by decide, .inl (bdl 2147483648 (by omega) (by decide)), by decide, sz3 _ _ _, CD.lit, by decide, gR f3.1 f3.2 fun d hd => ?_⟩
 obtain ⟨v, rfl, hv⟩ : ∃ v : Int, d = .int v /\ 0 < v := by
  simp only [zAN, zAY, or_false] at hd
  rcases hd with rfl | rfl | rfl
  ·exact ⟨_, rfl, by decide⟩
  ·exact ⟨_, rfl, by omega⟩
  ·exact ⟨_, rfl, by omega⟩
 exact ⟨by decide, sz4 _ _ _ _, h (a, b, x.fmod 3, v) ⟨ha, hb, g3.1, Int.le_of_lt_add_one g3.2⟩ hv⟩
theorem l5 {f : Addr} {fd : FuncData} (F : aw K "_law_gauge" "_law_gauge" fE f fd) (C : COk K mg κ)   (z_len : mg "len" = none) : aC P w K mg base (CX1 P w) 1 f fd ["_law_dots", "_law_xs"] (aG K (eT κ)) := by
 refine aw.okN F bB (fun ds Q E h => by obtain ⟨_, _, rfl, _⟩ := h; rfl) fun cdv A outer s H E hr => ⟨_, (ai (aJ (cH (aK bX (aj aE (av (dv 1) ae) ae) ae) (bW (aK (fb (by exact hr.units)) (dv 0) (cC ag)))).pt (ao (ar (aR (aa (aj aS (aj aE (av (dv 1) ae) ae) ae) (aa (aj aS (aj aE (av (dv 1) ae) ae) ae) (aa (aj aS (aj aE (av (dv 1) ae) ae) ae) ag)))))) aB) (ai (aD 2 bB.nd (av (dv 0) (aj aE (av (dv 1) ae) (bc cO (by rfl) z_len boot_len (aa (dv 0) ag))))) (ai (aD 3 bB.nd (av (dv 0) (aj aE (av (dv 1) ae) (bc cO (by rfl) z_len boot_len (aa (dv 0) ag))))) (ai (aD 4 bB.nd (av (cC (aa ae (aa (bV ae) (aa ae (aa ae ag))))) (aj aE (av (dv 1) ae) ae))) (ai (aD 5 bB.nd (aj aL (dv 4) (aj aS (av (dv 2) ae) (av (dv 3) ae)))) (ai (aD 6 bB.nd (aj aL (dv 4) (aj aS (av (dv 3) ae) (av (dv 2) ae)))) (ai (aD 7 bB.nd (aj aS (aj aS ae (aj aL (dv 5) (av (dv 2) ae))) (aj aL (dv 6) (av (dv 2) ae)))) (ao (ar (aR (aa (aj aY (dv 7) (aj bZ (aj aE (aj bZ (av (dv 1) ae) ae) ae) ae)) (aa (dv 5) (aa (dv 6) ag))))))))))))), ?_⟩
 rintro ds Q Ed ⟨ps, xs, rfl, h⟩
 have e0 : az ["_law_dots", "_law_xs", "_law_one", "_law_other", "_law_by", "_law_a", "_law_b", "_law_c"] [.lst false (ps.map dtD), .lst false (xs.map D.int)] = ([some (.val (.lst false (ps.map dtD))), some (.val (.lst false (xs.map D.int))), none, none, none, none, none, none] : Ro) := rfl
 rw [e0]; clear e0
 obtain ⟨hl, hG, hx, hb, h⟩ := h
 obtain ⟨x, y, z, u, rfl⟩ := four hx
 walk_at "rx"
 have c21 := fm (a := y) (b := 21) (by decide)
 have c7 := fm (a := z) (b := 7) (by decide)
 have c5 := fm (a := u) (b := 5) (by decide)
 have small : Q (D.tup [D.int (y.fmod 21 - 10), D.int (z.fmod 7 - 3), D.int (u.fmod 5 - 2)]) := h _ _ _ (bdl 100 (by omega) (by decide)) (bdl 100 (by omega) (by decide)) (bdl 100 (by omega) (by decide))
 refine ⟨by decide, ?_⟩
 split
 ·exact ⟨by decide, by decide, by decide, sz3 _ _ _, small⟩
 refine ⟨zAZ _, (OkN.map nH).ok, (OkN.map (f := dtD) (xs := []) nH).ok, ?_⟩
 by_cases en : ps = []
 ·subst en
  rw [if_pos (by rw [zAi]; exact lE _ _ _)]
  exact ⟨by decide, by decide, by decide, sz3 _ _ _, small⟩
 ·have lp : 0 < (ps.map dtD).length := by rw [zAJ]; exact Nat.pos_of_ne_zero fun z => en (zAf z)
  rw [if_neg (by
   cases ps with
   | nil => exact absurd rfl en
   | cons p r => rw [zAF, jR, tV]; exact zAE)]
  have fy := fm (a := y) (b := ((ps.map dtD).length : Int)) (by omega)
  have fz := fm (a := z) (b := ((ps.map dtD).length : Int)) (by omega)
  have fu := fm (a := u) (b := 4) (by decide)
  refine ⟨by omega, gR fy.1 fy.2 fun d hd => ⟨by omega, gR fz.1 fz.2 fun e he => ⟨sz4 _ _ _ _, by decide, gR fu.1 fu.2 fun w hw => ?_⟩⟩⟩
  obtain ⟨p, hp, rfl⟩ := List.mem_map.mp hd
  obtain ⟨q, hq, rfl⟩ := List.mem_map.mp he
  obtain ⟨v, rfl, bv⟩ : ∃ v : Int, w = .int v /\ Bd 8 v := by
   simp only [zAN, zAY, or_false] at hw
   rcases hw with rfl | rfl | rfl | rfl <;> exact ⟨_, rfl, by unfold Bd; decide⟩
  walk_at "rx"
  have A := hG p hp
  have B := hG q hq
  have d1 : Bd 61 (p.2.1 - q.2.1) := A.y.sub B.y
  have d2 : Bd 61 (q.1 - p.1) := B.x.sub A.x
  have m1 := bv.mul d1
  have m2 := bv.mul d2
  have f3 := fm (a := x.fdiv 4) (b := 3) (by decide)
  have r2 : Bd 8 (((x.fdiv 4).fmod 3).fdiv 2) := by
   generalize (x.fdiv 4).fmod 3 = n at f3
   rw [zA1 n (by decide)]
   exact bdl 10 (by omega) (by decide)
  have z0 : Bd 1 0 := by unfold Bd; decide
  refine ⟨.inl (bv.mono (by decide)), .inl (bv.mono (by decide)), .inr (.inl (A.x.mono (by decide))), .inr (.inl (A.y.mono (by decide))), CD.lit, by decide, CD.lit, sz3 _ _ _, h _ _ _ ?_ (m1.mono (by decide)) (m2.mono (by decide))⟩
  exact Bd.mono (((((z0.mono (show 1 <= 129 by decide)).sub ((m1.mul A.x).mono (show _ <= 129 by decide))).sub ((m2.mul A.y).mono (show _ <= 130 by decide))).add (r2.mono (show 8 <= 131 by decide)))) (by decide)
theorem l4 {f : Addr} {fd : FuncData} (F : aw K "_law_asked" "_law_asked" fD f fd) (C : COk K mg κ)  (h_HalfPaper__told : gb P w K mg base κ.HalfPaper "told" 1 ["self"] (cq κ)) (h_QuarterPaper__told : gb P w K mg base κ.QuarterPaper "told" 1 ["self"] (bN κ)) (h_law_alike2 : Has P w K mg base "_law_alike" 4 ["_law_found", "_law_due"] (dU κ)) (h_law_holds : Has P w K mg base "_law_holds" 6 ["_law_paper", "_law_dots", "_law_due"] (cw κ)) (z_isinstance : mg "isinstance" = none) (z_list : mg "list" = none) : aC P w K mg base (CX1 P w) 7 f fd ["_law_paper", "_law_parts", "_law_lists", "_law_dues"] (aG K (eS κ)) := by
 refine aw.okN F iu (fun ds Q E h => by obtain ⟨_, _, _, _, rfl, _⟩ := h; rfl) fun cdv A outer s H E hr => ⟨_, (ai (ck PassesOwn.never rfl (bC (cC (aa ae (aa ae (aa ae ag))))) (bg 4 iu.nd) (ao (aJ (cH (cP (aX (au h_law_holds (hr.mono (by decide)) (aa (dv 0) (aa ((tO (by rfl) z_list (av (dv 2) (dv 4)))).ped (aa (av (dv 3) (dv 4)) ag)))))) (bW (cP (aX (au h_law_alike2 (hr.mono (by decide)) (aa (oB (iY C.cl_HalfPaper h_HalfPaper__told (hr.mono (by decide)) (dv 0)) (iY C.cl_QuarterPaper h_QuarterPaper__told (hr.mono (by decide)) (dv 0))) (aa (dv 1) ag))))))).pt (ao (ar br)) aB))) (ao (ar (bq (d5 (by rfl) z_isinstance (iK (v := .ref κ.Paper) (by rfl) C.mg_Paper rfl) (fun u h => h) (dv 0)) (bF (gS (d5 (by rfl) z_isinstance (iK (v := .ref κ.GroupsPaper) (by rfl) C.mg_GroupsPaper rfl) (fun u h => h) (dv 0)))))))), ?_⟩
 rintro ds Q Ed ⟨o, parts, lists, dues, rfl, h⟩
 have e0 : az ["_law_paper", "_law_parts", "_law_lists", "_law_dues", "_law_k"] [o, parts, lists, dues] = ([some (.val (o)), some (.val (parts)), some (.val (lists)), some (.val (dues)), none] : Ro) := rfl
 rw [e0]; clear e0
 obtain ⟨ps, qs, due, rfl, rfl, hl, hG, hl', hG', hk, h⟩ := h
 have z2 : ∀ k : Int, k ∈ ([0, 1, 0] : List Int) -> k = 0 ∨ k = 1 := fun k hk => by simp at hk; omega
 rcases hk with ⟨g0, g1, g2, a, b, rfl, rfl, h0, h1, h2, rfl⟩ | ⟨g0, g1, g2, o0, o1, o2, rfl, rfl, h0, h1, h2, k0, k1, k2, rfl⟩
 ·walk_at "rx"
  refine PD.bR ([0, 1, 0] : List Int) D.int (fun _ ρ => ∃ v4 : Option Sl, ρ = [some (.val (oH κ.HalfPaper (T3 g0 g1 g2) (.int a) (.int b))), some (.val (.tup [T3 g0 g1 g2, .int a, .int b])), some (.val (.lst false [.lst false (ps.map dtD), .lst false (qs.map dtD)])), some (.val (.lst false [.bl (hH g0 g1 g2 a b ps), .bl (hH g0 g1 g2 a b qs)])), v4]) (fun R q => ?_) ⟨none, rfl⟩ ?_ ?_
  ·walk_at "rd"
   exact ⟨by rw [sizeLine_eq]; show 3 <= _; omega, q⟩
  ·rintro j k ρ2 hj ⟨v4, rfl⟩
   have mem3 : ∀ d : D, d ∈ [aA (D.tup [D.int g0, D.int g1, D.int g2]), aA (D.int a), aA (D.int b)] -> (∃ i, d = D.int i) ∨ ∃ ns : List Int, d = D.tup (ns.map D.int) := fun d hd => by
    simp only [bw, aP, aV, aZ, zAN, zAY, or_false] at hd
    rcases hd with rfl | rfl | rfl
    ·exact .inr ⟨[g0, g1, g2], rfl⟩
    ·exact .inl ⟨_, rfl⟩
    ·exact .inl ⟨_, rfl⟩
   rcases z2 k (zAM hj) with rfl | rfl
   ·walk_at "rx"
    exact ⟨.inl ⟨g0, g1, g2, a, b, rfl, h0, h1, h2, rfl⟩, hl, hG, .inl ⟨_, _, rfl, by decide +kernel, _, _, _, rfl, by simp only [bw, aP, aV, aZ], mem3, _, rfl⟩⟩
   ·walk_at "rx"
    exact ⟨.inl ⟨g0, g1, g2, a, b, rfl, h0, h1, h2, rfl⟩, hl', hG', .inl ⟨_, _, rfl, by decide +kernel, _, _, _, rfl, by simp only [bw, aP, aV, aZ], mem3, _, rfl⟩⟩
  ·rintro ρ2 ⟨v4, rfl⟩
   walk_at "rx"
   refine ⟨_, C.kit_HalfPaper_Paper, ?_⟩
   rw [if_pos rfl]
   exact ⟨_, C.kit_HalfPaper_GroupsPaper, h⟩
 ·walk_at "rx"
  refine PD.bR ([0, 1, 0] : List Int) D.int (fun _ ρ => ∃ v4 : Option Sl, ρ = [some (.val (oQ κ.QuarterPaper (T3 g0 g1 g2) (T3 o0 o1 o2))), some (.val (.tup [T3 g0 g1 g2, T3 o0 o1 o2])), some (.val (.lst false [.lst false (ps.map dtD), .lst false (qs.map dtD)])), some (.val (.lst false [.bl (hQ g0 g1 g2 o0 o1 o2 ps), .bl (hQ g0 g1 g2 o0 o1 o2 qs)])), v4]) (fun R q => ?_) ⟨none, rfl⟩ ?_ ?_
  ·walk_at "rd"
   exact ⟨by rw [sizeLine_eq]; show 3 <= _; omega, q⟩
  ·rintro j k ρ2 hj ⟨v4, rfl⟩
   have mem2 : ∀ d : D, d ∈ [aA (D.tup [D.int g0, D.int g1, D.int g2]), aA (D.tup [D.int o0, D.int o1, D.int o2])] -> (∃ i, d = D.int i) ∨ ∃ ns : List Int, d = D.tup (ns.map D.int) := fun d hd => by
    simp only [bw, aP, aV, aZ, zAN, zAY, or_false] at hd
    rcases hd with rfl | rfl
    ·exact .inr ⟨[g0, g1, g2], rfl⟩
    ·exact .inr ⟨[o0, o1, o2], rfl⟩
   rcases z2 k (zAM hj) with rfl | rfl
   ·walk_at "rx"
    exact ⟨.inr (.inl ⟨g0, g1, g2, o0, o1, o2, rfl, h0, h1, h2, k0, k1, k2, rfl⟩), hl, hG, .inr ⟨_, _, rfl, by decide +kernel, _, _, rfl, by simp only [bw, aP, aV, aZ], mem2, _, rfl⟩⟩
   ·walk_at "rx"
    exact ⟨.inr (.inl ⟨g0, g1, g2, o0, o1, o2, rfl, h0, h1, h2, k0, k1, k2, rfl⟩), hl', hG', .inr ⟨_, _, rfl, by decide +kernel, _, _, rfl, by simp only [bw, aP, aV, aZ], mem2, _, rfl⟩⟩
  ·rintro ρ2 ⟨v4, rfl⟩
   walk_at "rx"
   refine ⟨_, C.kit_QuarterPaper_Paper, ?_⟩
   rw [if_pos rfl]
   exact ⟨_, C.kit_QuarterPaper_GroupsPaper, h⟩
theorem vd {f : Addr} {fd : FuncData} (F : aw K "law" "law" dq f fd) (C : COk K mg κ) (m_HalfPaper : jE P w K mg base "HalfPaper" κ.HalfPaper 1 ["gauge", "one", "other"]) (m_Paper : nV K mg "Paper" κ.Paper) (m_QuarterPaper : jE P w K mg base "QuarterPaper" κ.QuarterPaper 1 ["gauge", "other"]) (h_Paper__told : gb P w K mg base κ.Paper "told" 1 ["self"] (dh κ)) (h_law_asked : Has P w K mg base "_law_asked" 7 ["_law_paper", "_law_parts", "_law_lists", "_law_dues"] (eS κ)) (h_law_cell_at : Has P w K mg base "_law_cell_at" 1 ["_law_script", "_law_k"] (di κ)) (h_law_dot : Has P w K mg base "_law_dot" 2 ["_law_kind", "_law_cell"] (gC κ)) (h_law_gauge : Has P w K mg base "_law_gauge" 1 ["_law_dots", "_law_xs"] (eT κ)) (h_law_halves : Has P w K mg base "_law_halves" 2 ["_law_dots", "_law_gauge_here", "_law_colour"] (dX κ)) (h_law_holds : Has P w K mg base "_law_holds" 6 ["_law_paper", "_law_dots", "_law_due"] (cw κ)) (h_law_level : Has P w K mg base "_law_level" 1 ["_law_gauge_here"] (eV κ)) (h_law_quarters : Has P w K mg base "_law_quarters" 2 ["_law_dots", "_law_gauge_here", "_law_other"] (cU κ)) (h_law_stream : Has P w K mg base "_law_stream" 1 ["_law_cell", "_law_many"] (cI κ)) (z_isinstance : mg "isinstance" = none) : aC P w K mg base (CX1 P w) 8 f fd ["_law_script"] (aG K jA) := by
 refine aw.okN F bA (fun ds Q E h => by obtain ⟨ns, rfl, _⟩ := h; rfl) fun cdv A outer s H E hr => ⟨_, (ai (aD 1 bA.nd (au h_law_cell_at (hr.mono (by decide)) (aa (dv 0) (aa ae ag)))) (ai (oG 2 bA.nd (by rfl) (by exact iB (osc := ak dq) (xs := ["_law_cell"]) (ns := ["_law_first"]) (by decide +kernel)) (cY.cons 1 cY.nil) (bC ((gi (dv 0) (c8 ae) (c8 ae))).ped) (fun _ _ _ _ _ => mC) (fun _ _ _ _ _ => (au h_law_dot (hr.mono (by decide)) (aa (aj aE (dv 1) ae) (aa (dv 0) ag))))) (ai (aD 3 bA.nd (au h_law_stream (hr.mono (by decide)) (aa (au h_law_cell_at (hr.mono (by decide)) (aa (dv 0) (aa ae ag))) (aa ae ag)))) (ai (aD 4 bA.nd (cC (aa (dv 2) (aa ((gi (dv 2) (c8 (aj aE (av (dv 3) ae) ae)) m8)).ped ag)))) (ai (aD 5 bA.nd (au h_law_gauge (hr.mono (by decide)) (aa (dv 2) (aa ((gi (dv 3) (c8 ae) (c8 ae))).ped ag)))) (ai (aD 6 bA.nd (au h_law_gauge (hr.mono (by decide)) (aa (dv 2) (aa ((gi (dv 3) (c8 ae) (c8 ae))).ped ag)))) (ai (aD 7 bA.nd (cC (aa (aj aE (av (dv 3) ae) ae) (aa (aj aE (av (dv 3) ae) ae) ag)))) (ai (aD 8 bA.nd (m5 m_HalfPaper (hr.mono (by decide)) (aa (dv 5) (aa (av (dv 7) ae) (aa (av (dv 7) ae) ag))))) (ai (aD 9 bA.nd (m5 m_QuarterPaper (hr.mono (by decide)) (aa (dv 5) (aa (dv 6) ag)))) (ai (lC 10 bA.nd ag) (ai (lC 11 bA.nd ag) (ai (ck PassesOwn.never rfl (bC (dv 4)) (bg 12 bA.nd) (ai (aD 14 bA.nd (bq (au h_law_halves (hr.mono (by decide)) (aa (dv 12) (aa (dv 5) (aa (av (dv 7) ae) ag)))) (bF (au h_law_halves (hr.mono (by decide)) (aa (dv 12) (aa (dv 5) (aa (av (dv 7) ae) ag))))))) (ai (gU 10 (bq (dv 14) (bF (gS (au h_law_level (hr.mono (by decide)) (aa (dv 5) ag)))))) (ao (gU 11 (bq (au h_law_quarters (hr.mono (by decide)) (aa (dv 12) (aa (dv 5) (aa (dv 6) ag)))) (bq (gS (au h_law_level (hr.mono (by decide)) (aa (dv 5) ag))) (bF (gS (au h_law_level (hr.mono (by decide)) (aa (dv 6) ag))))))))))) (gj 11 (gj 10 (ai (aJ (cH (cP (aX (au h_law_asked (hr.mono (by decide)) (aa (dv 8) (aa (aR (aa (dv 5) (aa (av (dv 7) ae) (aa (av (dv 7) ae) ag)))) (aa (dv 4) (aa (dv 10) ag))))))) (bW (aX (d5 (by rfl) z_isinstance (iK (v := .ref κ.QuarterPaper) (by rfl) C.mg_QuarterPaper rfl) (fun u h => h) (dv 8))))).pt (ao (ar br)) aB) (ai (aJ (cH (cP (aX (au h_law_asked (hr.mono (by decide)) (aa (dv 9) (aa (aR (aa (dv 5) (aa (dv 6) ag))) (aa (dv 4) (aa (dv 11) ag))))))) (bW (aX (d5 (by rfl) z_isinstance (iK (v := .ref κ.HalfPaper) (by rfl) C.mg_HalfPaper rfl) (fun u h => h) (dv 9))))).pt (ao (ar br)) aB) (ai (aD 13 bA.nd (rL m_Paper)) (ao (ar (bq (bD (fb (by exact hr.units)) (iY C.cl_Paper h_Paper__told (hr.mono (by decide)) (dv 13)) (aR ag)) (bq (au h_law_holds (hr.mono (by decide)) (aa (dv 13) (aa (dv 2) (aa br ag)))) (bF (au h_law_holds (hr.mono (by decide)) (aa (dv 13) (aa (cC ag) (aa br ag)))))))))))))))))))))))))), ?_⟩
 rintro ds Q Ed ⟨ns, rfl, hl, h⟩
 have e0 : az ["_law_script", "_law_first", "_law_dots", "_law_xs", "_law_lists", "_law_gauge_here", "_law_other", "_law_colours", "_law_one", "_law_two", "_law_dues", "_law_fours", "_law_some", "_law_bare", "_law_fair"] [.lst false (ns.map D.int)] = ([some (.val (.lst false (ns.map D.int))), none, none, none, none, none, none, none, none, none, none, none, none, none, none] : Ro) := rfl
 rw [e0]; clear e0
 refine bo (fun ρ => ∃ v : Int, ρ = [some (.val (.lst false (ns.map D.int))), some (.val (.int v)), none, none, none, none, none, none, none, none, none, none, none, none, none]) ?_ fun K hK => ?_
 ·rintro ρ' ⟨v, rfl⟩
  refine bo (fun ρ => ∃ ps : List Dt, ps.length <= 30 /\ (∀ p ∈ ps, GD p) /\ Pos ps /\ ρ = [some (.val (.lst false (ns.map D.int))), some (.val (.int v)), some (.val (.lst true (ps.map dtD))), none, none, none, none, none, none, none, none, none, none, none, none]) ?_ fun K hK => ?_
  ·rintro ρ' ⟨ps, pl, hG, hP, rfl⟩
   refine bo (fun ρ => ∃ xs : List Int, xs.length = 12 /\ (∀ x ∈ xs, 0 <= x /\ x < 2147483647) /\ ρ = [some (.val (.lst false (ns.map D.int))), some (.val (.int v)), some (.val (.lst true (ps.map dtD))), some (.val (.lst true (xs.map D.int))), none, none, none, none, none, none, none, none, none, none, none]) ?_ fun K hK => ?_
   ·rintro ρ' ⟨xs, xl, xb, rfl⟩
    have gt : ∀ k, k < 12 -> xs[k]? = some (xs.getD k 0) := fun k hk => by
     rw [zA2, List.getElem?_eq_getElem (by omega)]; rfl
    have atk : ∀ k : Nat, k < 12 -> atI (xs.map D.int) (k : Int) = some (.int (xs.getD k 0)) := fun k hk => cZ (by rw [zAQ, gt k hk]; rfl)
    refine bo (fun ρ => ∃ qs : List Dt, qs.length <= 30 /\ (∀ p ∈ qs, GD p) /\ Pos qs /\ ρ = [some (.val (.lst false (ns.map D.int))), some (.val (.int v)), some (.val (.lst true (ps.map dtD))), some (.val (.lst true (xs.map D.int))), some (.val (.lst true [.lst true (ps.map dtD), .lst true (qs.map dtD)])), none, none, none, none, none, none, none, none, none, none]) ?_ fun K hK => ?_
    ·rintro ρ' ⟨qs, ql, hG', hP', rfl⟩
     refine bo (fun ρ => ∃ g0 g1 g2 : Int, Bd 1000 g0 /\ Bd 1000 g1 /\ Bd 1000 g2 /\ ρ = [some (.val (.lst false (ns.map D.int))), some (.val (.int v)), some (.val (.lst true (ps.map dtD))), some (.val (.lst true (xs.map D.int))), some (.val (.lst true [.lst true (ps.map dtD), .lst true (qs.map dtD)])), some (.val (T3 g0 g1 g2)), none, none, none, none, none, none, none, none, none]) ?_ fun K hK => ?_
     ·rintro ρ' ⟨g0, g1, g2, h0, h1, h2, rfl⟩
      refine bo (fun ρ => ∃ o0 o1 o2 : Int, Bd 1000 o0 /\ Bd 1000 o1 /\ Bd 1000 o2 /\ ρ = [some (.val (.lst false (ns.map D.int))), some (.val (.int v)), some (.val (.lst true (ps.map dtD))), some (.val (.lst true (xs.map D.int))), some (.val (.lst true [.lst true (ps.map dtD), .lst true (qs.map dtD)])), some (.val (T3 g0 g1 g2)), some (.val (T3 o0 o1 o2)), none, none, none, none, none, none, none, none]) ?_ fun K hK => ?_
      ·rintro ρ' ⟨o0, o1, o2, k0, k1, k2, rfl⟩
       refine bo (fun ρ => ∃ a b : Int, ρ = [some (.val (.lst false (ns.map D.int))), some (.val (.int v)), some (.val (.lst true (ps.map dtD))), some (.val (.lst true (xs.map D.int))), some (.val (.lst true [.lst true (ps.map dtD), .lst true (qs.map dtD)])), some (.val (T3 g0 g1 g2)), some (.val (T3 o0 o1 o2)), some (.val (.lst true [.int a, .int b])), none, none, none, none, none, none, none]) ?_ fun K hK => ?_
       ·rintro ρ' ⟨a, b, rfl⟩
        refine bo (fun ρ => ρ = [some (.val (.lst false (ns.map D.int))), some (.val (.int v)), some (.val (.lst true (ps.map dtD))), some (.val (.lst true (xs.map D.int))), some (.val (.lst true [.lst true (ps.map dtD), .lst true (qs.map dtD)])), some (.val (T3 g0 g1 g2)), some (.val (T3 o0 o1 o2)), some (.val (.lst true [.int a, .int b])), some (.val (oH κ.HalfPaper (T3 g0 g1 g2) (.int a) (.int b))), none, none, none, none, none, none]) ?_ fun K hK => ?_
        ·rintro ρ' rfl
         refine bo (fun ρ => ρ = [some (.val (.lst false (ns.map D.int))), some (.val (.int v)), some (.val (.lst true (ps.map dtD))), some (.val (.lst true (xs.map D.int))), some (.val (.lst true [.lst true (ps.map dtD), .lst true (qs.map dtD)])), some (.val (T3 g0 g1 g2)), some (.val (T3 o0 o1 o2)), some (.val (.lst true [.int a, .int b])), some (.val (oH κ.HalfPaper (T3 g0 g1 g2) (.int a) (.int b))), some (.val (oQ κ.QuarterPaper (T3 g0 g1 g2) (T3 o0 o1 o2))), none, none, none, none, none]) ?_ fun K hK => ?_
         ·rintro ρ' rfl
          refine bo (fun ρ => ρ = [some (.val (.lst false (ns.map D.int))), some (.val (.int v)), some (.val (.lst true (ps.map dtD))), some (.val (.lst true (xs.map D.int))), some (.val (.lst true [.lst true (ps.map dtD), .lst true (qs.map dtD)])), some (.val (T3 g0 g1 g2)), some (.val (T3 o0 o1 o2)), some (.val (.lst true [.int a, .int b])), some (.val (oH κ.HalfPaper (T3 g0 g1 g2) (.int a) (.int b))), some (.val (oQ κ.QuarterPaper (T3 g0 g1 g2) (T3 o0 o1 o2))), some (.own []), none, none, none, none]) ?_ fun K hK => ?_
          ·rintro ρ' rfl
           refine bo (fun ρ => ρ = [some (.val (.lst false (ns.map D.int))), some (.val (.int v)), some (.val (.lst true (ps.map dtD))), some (.val (.lst true (xs.map D.int))), some (.val (.lst true [.lst true (ps.map dtD), .lst true (qs.map dtD)])), some (.val (T3 g0 g1 g2)), some (.val (T3 o0 o1 o2)), some (.val (.lst true [.int a, .int b])), some (.val (oH κ.HalfPaper (T3 g0 g1 g2) (.int a) (.int b))), some (.val (oQ κ.QuarterPaper (T3 g0 g1 g2) (T3 o0 o1 o2))), some (.own []), some (.own []), none, none, none]) ?_ fun K hK => ?_
           ·rintro ρ' rfl
            refine PD.bR [ps, qs] (fun l => .lst true (l.map dtD)) (fun j ρ => ∃ v12 v14 : Option Sl, ρ = [some (.val (.lst false (ns.map D.int))), some (.val (.int v)), some (.val (.lst true (ps.map dtD))), some (.val (.lst true (xs.map D.int))), some (.val (.lst true [.lst true (ps.map dtD), .lst true (qs.map dtD)])), some (.val (T3 g0 g1 g2)), some (.val (T3 o0 o1 o2)), some (.val (.lst true [.int a, .int b])), some (.val (oH κ.HalfPaper (T3 g0 g1 g2) (.int a) (.int b))), some (.val (oQ κ.QuarterPaper (T3 g0 g1 g2) (T3 o0 o1 o2))), some (.own (([ps, qs].take j).map fun l => .bl (hH g0 g1 g2 a b l))), some (.own (([ps, qs].take j).map fun l => .bl (hQ g0 g1 g2 o0 o1 o2 l))), v12, none, v14]) (fun R q => ?_) ⟨none, none, rfl⟩ ?_ ?_
            ·walk_at "rd"
             exact q
            ·rintro j l ρ2 hj ⟨v12, v14, rfl⟩
             have ml : l = ps ∨ l = qs := by have := zAM hj; simpa using this
             have ll : l.length <= 60 := by rcases ml with rfl | rfl <;> omega
             have lG : ∀ p ∈ l, GD p := by rcases ml with rfl | rfl <;> assumption
             have lP : Pos l := by rcases ml with rfl | rfl <;> assumption
             rw [zAr, hj, zAw, zAW, zAW, List.map_singleton, List.map_singleton]
             have nl : ∀ f : List Dt -> D, (([ps, qs].take j).map f).length < sizeLine := fun f => by rw [zAJ, zAs, sizeLine_eq]; show min j 2 < _; omega
             refine bo (fun ρ => ρ = [some (.val (.lst false (ns.map D.int))), some (.val (.int v)), some (.val (.lst true (ps.map dtD))), some (.val (.lst true (xs.map D.int))), some (.val (.lst true [.lst true (ps.map dtD), .lst true (qs.map dtD)])), some (.val (T3 g0 g1 g2)), some (.val (T3 o0 o1 o2)), some (.val (.lst true [.int a, .int b])), some (.val (oH κ.HalfPaper (T3 g0 g1 g2) (.int a) (.int b))), some (.val (oQ κ.QuarterPaper (T3 g0 g1 g2) (T3 o0 o1 o2))), some (.own (([ps, qs].take j).map fun l => .bl (hH g0 g1 g2 a b l))), some (.own (([ps, qs].take j).map fun l => .bl (hQ g0 g1 g2 o0 o1 o2 l))), some (.val (.lst true (l.map dtD))), none, some (.val (.bl (hB g0 g1 g2 a l && hB g0 g1 g2 b l)))]) ?_ fun K hK => ?_
             ·rintro ρ' rfl
              refine bo (fun ρ => ρ = [some (.val (.lst false (ns.map D.int))), some (.val (.int v)), some (.val (.lst true (ps.map dtD))), some (.val (.lst true (xs.map D.int))), some (.val (.lst true [.lst true (ps.map dtD), .lst true (qs.map dtD)])), some (.val (T3 g0 g1 g2)), some (.val (T3 o0 o1 o2)), some (.val (.lst true [.int a, .int b])), some (.val (oH κ.HalfPaper (T3 g0 g1 g2) (.int a) (.int b))), some (.val (oQ κ.QuarterPaper (T3 g0 g1 g2) (T3 o0 o1 o2))), some (.own ((([ps, qs].take j).map fun l => D.bl (hH g0 g1 g2 a b l)) ++ [D.bl (hH g0 g1 g2 a b l)])), some (.own (([ps, qs].take j).map fun l => .bl (hQ g0 g1 g2 o0 o1 o2 l))), some (.val (.lst true (l.map dtD))), none, some (.val (.bl (hB g0 g1 g2 a l && hB g0 g1 g2 b l)))]) ?_ fun K hK => ?_
              ·rintro ρ' rfl
               walk_at "rx"
               refine ⟨h0, h1, h2, k0, k1, k2, ll, lG, lP, ?_⟩
               rw [show hQ g0 g1 g2 o0 o1 o2 l = (quB (gv g0 g1 g2) (gv o0 o1 o2) l && (!lvB g1 g2 && !lvB o1 o2)) from rfl]
               generalize quB (gv g0 g1 g2) (gv o0 o1 o2) l = x
               generalize lvB g1 g2 = y
               generalize lvB o1 o2 = z
               cases x <;> cases y <;> cases z <;> (walk_at "rx"; exact ⟨nl _, _, _, rfl⟩)
              ·walk_at "rx"
               rw [show hH g0 g1 g2 a b l = ((hB g0 g1 g2 a l && hB g0 g1 g2 b l) && !lvB g1 g2) from rfl] at hK
               generalize (hB g0 g1 g2 a l && hB g0 g1 g2 b l) = x at hK ⊢
               generalize lvB g1 g2 = y at hK ⊢
               cases x <;> cases y <;> (walk_at "rx"; exact ⟨nl _, hK _ rfl⟩)
             ·walk_at "rx"
              refine ⟨h0, h1, h2, ll, lG, ?_⟩
              by_cases e : hB g0 g1 g2 a l = true
              ·rw [if_pos e]
               refine ⟨h0, h1, h2, ll, lG, ?_⟩
               rw [e, Bool.true_and] at hK
               exact hK _ rfl
              ·rw [if_neg e]
               rw [Bool.eq_false_iff.mpr e, zA5] at hK
               exact hK _ rfl
            ·rintro ρ2 ⟨v12, v14, rfl⟩
             walk_at "rx"
             refine ⟨sz3 _ _ _, ps, qs, hH g0 g1 g2 a b, rfl, by show D.lst false (aF [D.bl _, D.bl _]) = _; simp only [aP, aV, gD], by omega, hG, by omega, hG', .inl ⟨g0, g1, g2, a, b, rfl, rfl, h0, h1, h2, rfl⟩, _, C.kit_HalfPaper_QuarterPaper, ?_⟩
             rw [if_neg (by simp)]
             refine ⟨sz2 _ _, ps, qs, hQ g0 g1 g2 o0 o1 o2, rfl, by show D.lst false (aF [D.bl _, D.bl _]) = _; simp only [aP, aV, gD], by omega, hG, by omega, hG', .inr ⟨g0, g1, g2, o0, o1, o2, rfl, rfl, h0, h1, h2, k0, k1, k2, rfl⟩, _, C.kit_QuarterPaper_HalfPaper, ?_⟩
             rw [if_neg (by simp)]
             have okT : okD (.tup []) := (OkN.tup (n := 0) (.nil _)).ok
             refine ⟨_, _, rfl, by decide +kernel, zAZ _, okT, okT, ?_⟩
             rw [if_pos (lF _)]
             refine ⟨.inr (.inr trivial), by omega, hG, zAZ _, ?_⟩
             show cw κ [.obj κ.Paper [] [], .lst false (([] : List Dt).map dtD), .bl false] _ _
             rw [cT]
             exact ⟨.inr (.inr ⟨rfl, rfl⟩), zAZ _, fun p hp => absurd hp (by simp), h⟩
           ·walk_at "rx"
            exact ⟨zAZ _, hK _ rfl⟩
          ·walk_at "rx"
           exact ⟨zAZ _, hK _ rfl⟩
         ·walk_at "rx"
          exact ⟨rfl, hK _ rfl⟩
        ·walk_at "rx"
         exact ⟨rfl, hK _ rfl⟩
       ·walk_at "rx"
        refine ⟨_, atk 9 (by decide), ?_⟩
        walk_at "rx"
        refine ⟨by decide, _, atk 10 (by decide), ?_⟩
        walk_at "rx"
        exact ⟨by decide, sz2 _ _, hK _ ⟨_, _, rfl⟩⟩
      ·walk_at "rx"
       rw [iC, dA, cf]
       exact ⟨by omega, hG, by have e : (eF xs (some 5) (some 9)).length = min (min 9 xs.length - min 5 xs.length) (xs.length - min 5 xs.length) := jH (lo := 5) (hi := 9); omega, fun x hx => xb x (iJ hx), fun o0 o1 o2 k0 k1 k2 => hK _ ⟨o0, o1, o2, k0, k1, k2, rfl⟩⟩
     ·walk_at "rx"
      rw [iC, dA, cf]
      exact ⟨by omega, hG, by have e : (eF xs (some 1) (some 5)).length = min (min 5 xs.length - min 1 xs.length) (xs.length - min 1 xs.length) := jH (lo := 1) (hi := 5); omega, fun x hx => xb x (iJ hx), fun g0 g1 g2 b0 b1 b2 => hK _ ⟨g0, g1, g2, b0, b1, b2, rfl⟩⟩
    ·walk_at "rx"
     refine ⟨_, atk 0 (by decide), ?_⟩
     walk_at "rx"
     refine ⟨by decide, sz2 _ _, ?_⟩
     rw [iC]
     exact hK _ ⟨_, zAa (uG _ _ _) pl, fun p hp => hG p (iJ hp), fun p hp => hP p (iJ hp), rfl⟩
   ·walk_at "rx"
    exact ⟨by decide, hl, fun w => ⟨by decide, by decide, fun xs xl xb => hK _ ⟨xs, xl, xb, rfl⟩⟩⟩
  ·walk_at "rd"
   have cl : (eF ns (some 2) (some 32)).length <= 30 := by
    have e : (eF ns (some 2) (some 32)).length = min (min 32 ns.length - min 2 ns.length) (ns.length - min 2 ns.length) := jH (lo := 2) (hi := 32)
    omega
   rw [iC, zAJ]
   refine ⟨by rw [sizeLine_eq]; omega, fun j out => ∃ qs : List Dt, out = qs.map dtD /\ qs.length = j /\ (∀ p ∈ qs, GD p) /\ Pos qs, ⟨[], rfl, rfl, by simp, by intro p hp; cases hp⟩, ?_, ?_⟩
   ·rintro j d out hd ⟨qs, rfl, hq, hG, hP⟩
    obtain ⟨n, rfl, _, hj⟩ := getInt hd
    refine ⟨by decide, ?_⟩
    rw [aZ, dW]
    refine fun p gp wp => ⟨qs ++ [p], by rw [zAW]; rfl, by simp [hq], fun z hz => ?_, fun z hz => ?_⟩
    ·rcases zA3.mp hz with q | q
     ·exact hG z q
     ·simp at q; subst q; exact gp
    ·rcases zA3.mp hz with q | q
     ·exact hP z q
     ·simp at q; subst q; exact wp
   ·rintro out ⟨qs, rfl, hq, hG, hP⟩
    exact hK _ ⟨qs, by omega, hG, hP, rfl⟩
 ·walk_at "rx"
  exact ⟨by decide, hl, fun v => hK _ ⟨v, rfl⟩⟩
theorem hW {f : Addr} {fd : FuncData} (F : aw K "__init__" "HalfPaper.__init__" cA f fd) (C : COk K mg κ) : aC P w K mg base (CX1 P w) 1 f fd ["self", "gauge", "one", "other"] (jz κ.HalfPaper ["gauge", "one", "other"]) := by
 obtain ⟨oc, od, dV, kV, doc, pm, an, cdv, ct, osl, rfl, lk, hcd⟩ := F.ex
 refine oJ lk hcd ip (fun vs H Q E h => ?_) fun A outer s H vs Q E hr h => ?_
 ·obtain ⟨x, us, dx, rfl, hl, _⟩ := h
  rw [zAh, hl]; rfl
 ·obtain ⟨x, us, dx, rfl, hl, hx, q⟩ := h
  obtain ⟨u0, u1, u2, rfl⟩ := lT hl
  refine ⟨_, (i4 (h8 (pv 0) (pv 1) rfl) (i4 (h8 (pv 0) (pv 2) rfl) (nI (h8 (pv 0) (pv 3) rfl)))), ?_⟩
  refine ⟨_, rfl, _, rfl, x, _, dx, _, rfl, hx, C.cl_HalfPaper, C.na_HalfPaper_gauge, by show 0 < 1000; decide, ?_⟩
  refine ⟨_, rfl, _, rfl, x, _, dx, _, rfl, ax, C.cl_HalfPaper, C.na_HalfPaper_one, by show 1 < 1000; decide, ?_⟩
  refine ⟨_, rfl, _, rfl, x, _, dx, _, rfl, ax, C.cl_HalfPaper, C.na_HalfPaper_other, by show 2 < 1000; decide, ?_⟩
  rw [fZ, fZ]
  exact q
theorem fP {f : Addr} {fd : FuncData} (F : aw K "__init__" "QuarterPaper.__init__" bS f fd) (C : COk K mg κ) : aC P w K mg base (CX1 P w) 1 f fd ["self", "gauge", "other"] (jz κ.QuarterPaper ["gauge", "other"]) := by
 obtain ⟨oc, od, dV, kV, doc, pm, an, cdv, ct, osl, rfl, lk, hcd⟩ := F.ex
 refine oJ lk hcd fT (fun vs H Q E h => ?_) fun A outer s H vs Q E hr h => ?_
 ·obtain ⟨x, us, dx, rfl, hl, _⟩ := h
  rw [zAh, hl]; rfl
 ·obtain ⟨x, us, dx, rfl, hl, hx, q⟩ := h
  obtain ⟨u0, u1, rfl⟩ := oO hl
  refine ⟨_, (i4 (h8 (pv 0) (pv 1) rfl) (nI (h8 (pv 0) (pv 2) rfl))), ?_⟩
  refine ⟨_, rfl, _, rfl, x, _, dx, _, rfl, hx, C.cl_QuarterPaper, C.na_QuarterPaper_gauge, by show 0 < 1000; decide, ?_⟩
  refine ⟨_, rfl, _, rfl, x, _, dx, _, rfl, ax, C.cl_QuarterPaper, C.na_QuarterPaper_other, by show 1 < 1000; decide, ?_⟩
  rw [fZ]
  exact q
end
theorem all_mk {l : PySem.W.OpenLaw} {w : World} {K : PySem.W.Frag} {h : Heap} {mg : Str -> Option Value} {fa f6 f7 f33 c_PlaneError c_NoPlace c_Paper c_HalfPaper c_QuarterPaper c_InPaper c_GroupsPaper : Addr} (X : K.In h) (G : h.Ns mainGlobals mg) (hfa : mg "law" = some (.ref fa))
  {od6 an6 : Option Addr} {sl6 : Array (Option Value)} {oc6 kV6 dc6 pm6 cd6 ct6 : Value}
  {dt6 : Addr} {tc6 : Value} {td6 : Option Addr} {tn6 : Nat} {ts6 : Array (Option Value)}
  {od7 an7 : Option Addr} {sl7 : Array (Option Value)} {oc7 kV7 dc7 pm7 cd7 ct7 : Value}
  {dt7 : Addr} {tc7 : Value} {td7 : Option Addr} {tn7 : Nat} {ts7 : Array (Option Value)}
  {od33 an33 : Option Addr} {sl33 : Array (Option Value)} {oc33 kV33 dc33 pm33 cd33 ct33 : Value}
  (e0 : FL K "sign" mq)
  (e1 : FL K "value" jX)
  (e2 : FL K "side" mn)
  (e3 : FL K "place_of" gx)
  (e4 : FL K "spot_of" ik)
  (e5 : FL K "of_colour" du)
  (a6 : PySem.W.nsIn K mainGlobals "total" = some (some (.ref f6))) (l6 : K.lookup f6 = some ⟨oc6, od6, .func (PySem.W.fnOf "total" "total" (bj dg) (aU dg) (ak dg) (.ref dt6) kV6 dc6 pm6 an6 cd6 ct6), sl6⟩) (c6 : PySem.W.codeIn K cd6 "total" = true) (k6 : PySem.W.keepIn K (.ref f6) = true)
  (t6 : K.lookup dt6 = some ⟨tc6, td6, .seq #[.none] tn6, ts6⟩)
  (a7 : PySem.W.nsIn K mainGlobals "weighed" = some (some (.ref f7))) (l7 : K.lookup f7 = some ⟨oc7, od7, .func (PySem.W.fnOf "weighed" "weighed" (bj cM) (aU cM) (ak cM) (.ref dt7) kV7 dc7 pm7 an7 cd7 ct7), sl7⟩) (c7 : PySem.W.codeIn K cd7 "weighed" = true) (k7 : PySem.W.keepIn K (.ref f7) = true)
  (t7 : K.lookup dt7 = some ⟨tc7, td7, .seq #[.none] tn7, ts7⟩)
  (e8 : FL K "is_level" gu)
  (e9 : FL K "quarters" gy)
  (e10 : FL K "is_even" ic)
  (e11 : FL K "is_fair" ie)
  (e12 : FL K "_law_whole" fJ)
  (e13 : FL K "_law_cell_at" dO)
  (e14 : FL K "_law_stream" eO)
  (e15 : FLM K c_Paper "holds" "Paper.holds" df)
  (e16 : FLM K c_Paper "told" "Paper.told" dN)
  (e17 : FLM K c_HalfPaper "holds" "HalfPaper.holds" cn)
  (e18 : FLM K c_HalfPaper "told" "HalfPaper.told" cB)
  (e19 : FLM K c_QuarterPaper "holds" "QuarterPaper.holds" bM)
  (e20 : FLM K c_QuarterPaper "told" "QuarterPaper.told" bT)
  (e21 : FL K "_law_alike" eK)
  (e22 : FL K "_law_alike" eL)
  (e23 : FL K "_law_alike" eM)
  (e24 : FL K "_law_holds" fF)
  (e25 : FL K "_law_reads" fH)
  (e26 : FL K "_law_level" fG)
  (e27 : FL K "_law_halves" eN)
  (e28 : FL K "_law_quarters" cy)
  (e29 : FL K "_law_spot" gw)
  (e30 : FL K "_law_dot" ig)
  (e31 : FL K "_law_gauge" fE)
  (e32 : FL K "_law_asked" fD)
  (a33 : PySem.W.nsIn K mainGlobals "law" = some (some (.ref f33))) (l33 : K.lookup f33 = some ⟨oc33, od33, .func (PySem.W.fnOf "law" "law" (bj dq) (aU dq) (ak dq) .none kV33 dc33 pm33 an33 cd33 ct33), sl33⟩) (c33 : PySem.W.codeIn K cd33 "law" = true) (k33 : PySem.W.keepIn K (.ref f33) = true)
  (i_HalfPaper : FLM K c_HalfPaper "__init__" "HalfPaper.__init__" cA)
  (mk_HalfPaper : PySem.W.makesIn K c_HalfPaper = true) (kc_HalfPaper : PySem.W.keepIn K (.ref c_HalfPaper) = true)
  (i_Paper : PySem.W.findIn K (.ref c_Paper) "__init__" = some (some (.builtin "object.__init__")))
  (mk_Paper : PySem.W.makesIn K c_Paper = true) (kc_Paper : PySem.W.keepIn K (.ref c_Paper) = true)
  (i_QuarterPaper : FLM K c_QuarterPaper "__init__" "QuarterPaper.__init__" bS)
  (mk_QuarterPaper : PySem.W.makesIn K c_QuarterPaper = true) (kc_QuarterPaper : PySem.W.keepIn K (.ref c_QuarterPaper) = true)
  (mg_PlaneError : PySem.W.nsIn K mainGlobals "PlaneError" = some (some (.ref c_PlaneError)))
  (mg_NoPlace : PySem.W.nsIn K mainGlobals "NoPlace" = some (some (.ref c_NoPlace)))
  (mg_Paper : PySem.W.nsIn K mainGlobals "Paper" = some (some (.ref c_Paper)))
  (mg_HalfPaper : PySem.W.nsIn K mainGlobals "HalfPaper" = some (some (.ref c_HalfPaper)))
  (mg_QuarterPaper : PySem.W.nsIn K mainGlobals "QuarterPaper" = some (some (.ref c_QuarterPaper)))
  (mg_InPaper : PySem.W.nsIn K mainGlobals "InPaper" = some (some (.ref c_InPaper)))
  (mg_GroupsPaper : PySem.W.nsIn K mainGlobals "GroupsPaper" = some (some (.ref c_GroupsPaper)))
  (cl_Paper : PD.gf K c_Paper = true)
  (ob_Paper : PX.lX K c_Paper = true)
  (kit_Paper_Paper : PySem.W.kitOne K (.ref c_Paper) (.ref c_Paper) = some true)
  (kit_Paper_HalfPaper : PySem.W.kitOne K (.ref c_Paper) (.ref c_HalfPaper) = some false)
  (kit_Paper_QuarterPaper : PySem.W.kitOne K (.ref c_Paper) (.ref c_QuarterPaper) = some false)
  (kit_Paper_GroupsPaper : PySem.W.kitOne K (.ref c_Paper) (.ref c_GroupsPaper) = some false)
  (cl_HalfPaper : PD.gf K c_HalfPaper = true)
  (ob_HalfPaper : PX.lX K c_HalfPaper = true)
  (na_HalfPaper_gauge : PySem.W.findIn K (.ref c_HalfPaper) "gauge" = some none)
  (na_HalfPaper_one : PySem.W.findIn K (.ref c_HalfPaper) "one" = some none)
  (na_HalfPaper_other : PySem.W.findIn K (.ref c_HalfPaper) "other" = some none)
  (kit_HalfPaper_Paper : PySem.W.kitOne K (.ref c_HalfPaper) (.ref c_Paper) = some true)
  (kit_HalfPaper_HalfPaper : PySem.W.kitOne K (.ref c_HalfPaper) (.ref c_HalfPaper) = some true)
  (kit_HalfPaper_QuarterPaper : PySem.W.kitOne K (.ref c_HalfPaper) (.ref c_QuarterPaper) = some false)
  (kit_HalfPaper_GroupsPaper : PySem.W.kitOne K (.ref c_HalfPaper) (.ref c_GroupsPaper) = some false)
  (cl_QuarterPaper : PD.gf K c_QuarterPaper = true)
  (ob_QuarterPaper : PX.lX K c_QuarterPaper = true)
  (na_QuarterPaper_gauge : PySem.W.findIn K (.ref c_QuarterPaper) "gauge" = some none)
  (na_QuarterPaper_other : PySem.W.findIn K (.ref c_QuarterPaper) "other" = some none)
  (kit_QuarterPaper_Paper : PySem.W.kitOne K (.ref c_QuarterPaper) (.ref c_Paper) = some true)
  (kit_QuarterPaper_HalfPaper : PySem.W.kitOne K (.ref c_QuarterPaper) (.ref c_HalfPaper) = some false)
  (kit_QuarterPaper_QuarterPaper : PySem.W.kitOne K (.ref c_QuarterPaper) (.ref c_QuarterPaper) = some true)
  (kit_QuarterPaper_GroupsPaper : PySem.W.kitOne K (.ref c_QuarterPaper) (.ref c_GroupsPaper) = some false)
  (z_bool : PySem.W.nsIn K mainGlobals "bool" = some none) (z_int : PySem.W.nsIn K mainGlobals "int" = some none) (z_isinstance : PySem.W.nsIn K mainGlobals "isinstance" = some none) (z_len : PySem.W.nsIn K mainGlobals "len" = some none) (z_list : PySem.W.nsIn K mainGlobals "list" = some none) (z_max : PySem.W.nsIn K mainGlobals "max" = some none) (z_range : PySem.W.nsIn K mainGlobals "range" = some none) (z_sum : PySem.W.nsIn K mainGlobals "sum" = some none) (z_tuple : PySem.W.nsIn K mainGlobals "tuple" = some none) (z_zip : PySem.W.nsIn K mainGlobals "zip" = some none) :
  ∃ fd : FuncData, (∀ (s : Shared) (v : Value), BindsTo s fd ⟨[v], []⟩ [("_law_script", v)]) /\ ∀ base : Heap, K.In base -> base.Ns mainGlobals mg -> aC l.prog w K mg base (CX1 l.prog w) 8 fa fd ["_law_script"] (aG K jA) := by
 have e := hfa.symm.trans (PySem.W.mg_of X G a33)
 cases e
 have z_bool := PySem.W.mg_none_of X G z_bool
 have z_int := PySem.W.mg_none_of X G z_int
 have z_isinstance := PySem.W.mg_none_of X G z_isinstance
 have z_len := PySem.W.mg_none_of X G z_len
 have z_list := PySem.W.mg_none_of X G z_list
 have z_max := PySem.W.mg_none_of X G z_max
 have z_range := PySem.W.mg_none_of X G z_range
 have z_sum := PySem.W.mg_none_of X G z_sum
 have z_tuple := PySem.W.mg_none_of X G z_tuple
 have z_zip := PySem.W.mg_none_of X G z_zip
 have C : COk K mg ⟨c_PlaneError, c_NoPlace, c_Paper, c_HalfPaper, c_QuarterPaper, c_InPaper, c_GroupsPaper⟩ := ⟨PySem.W.mg_of X G mg_PlaneError, PySem.W.mg_of X G mg_NoPlace, PySem.W.mg_of X G mg_Paper, PySem.W.mg_of X G mg_HalfPaper, PySem.W.mg_of X G mg_QuarterPaper, PySem.W.mg_of X G mg_InPaper, PySem.W.mg_of X G mg_GroupsPaper, PD.gf.of cl_Paper, PX.cK.of ob_Paper, kit_Paper_Paper, kit_Paper_HalfPaper, kit_Paper_QuarterPaper, kit_Paper_GroupsPaper, PD.gf.of cl_HalfPaper, PX.cK.of ob_HalfPaper, na_HalfPaper_gauge, na_HalfPaper_one, na_HalfPaper_other, kit_HalfPaper_Paper, kit_HalfPaper_HalfPaper, kit_HalfPaper_QuarterPaper, kit_HalfPaper_GroupsPaper, PD.gf.of cl_QuarterPaper, PX.cK.of ob_QuarterPaper, na_QuarterPaper_gauge, na_QuarterPaper_other, kit_QuarterPaper_Paper, kit_QuarterPaper_HalfPaper, kit_QuarterPaper_QuarterPaper, kit_QuarterPaper_GroupsPaper⟩
 refine ⟨PySem.W.fnOf "law" "law" (bj dq) (aU dq) (ak dq) .none kV33 dc33 pm33 an33 cd33 ct33, fun s v => .of_eq rfl, fun base _ _ => ?_⟩
 have m_HalfPaper : jE l.prog w K mg base "HalfPaper" c_HalfPaper 1 ["gauge", "one", "other"] := i_HalfPaper.made mk_HalfPaper kc_HalfPaper (PySem.W.mg_of X G mg_HalfPaper) C.ob_HalfPaper l.prog w base fun F => hW F C
 have m_Paper : nV K mg "Paper" c_Paper := ⟨mk_Paper, i_Paper, kc_Paper, PySem.W.mg_of X G mg_Paper, C.ob_Paper⟩
 have m_QuarterPaper : jE l.prog w K mg base "QuarterPaper" c_QuarterPaper 1 ["gauge", "other"] := i_QuarterPaper.made mk_QuarterPaper kc_QuarterPaper (PySem.W.mg_of X G mg_QuarterPaper) C.ob_QuarterPaper l.prog w base fun F => fP F C
 have h_sign := e0.has l.prog w base X G fun F => uc F C
 have h_value := e1.has l.prog w base X G fun F => sq F C
 have h_side := e2.has l.prog w base X G fun F => ub F C h_sign h_value
 have h_place_of := e3.has l.prog w base X G fun F => mP F C
 have h_spot_of := e4.has l.prog w base X G fun F => o4 F C
 have h_of_colour := e5.has l.prog w base X G fun F => me F C
 have F6 := el (st := dg) l6 c6 k6
 have h_total : gP l.prog w K mg base "total" 2 ["dots", "colour"] "colour" (eX _) := ⟨_, _, sk F6 C h_of_colour z_sum, PySem.W.mg_of X G a6, k6, ja fun s us kin hl => (match us, hl with | [_, _], _ => .of_defaults rfl (kin _ _ t6) rfl rfl rfl), i9 1 rfl fun s us kin hl => (match us, hl with | [_], _ => .of_defaults rfl (kin _ _ t6) rfl rfl rfl), jn 1 rfl fun s us w kin hl => (match us, hl with | [_], _ => .of_defaults rfl (kin _ _ t6) rfl rfl rfl)⟩
 have F7 := el (st := cM) l7 c7 k7
 have h_weighed : gP l.prog w K mg base "weighed" 3 ["dots", "gauge", "colour"] "colour" (ef _) := ⟨_, _, o5 F7 C h_of_colour h_place_of h_side h_spot_of, PySem.W.mg_of X G a7, k7, ja fun s us kin hl => (match us, hl with | [_, _, _], _ => .of_defaults rfl (kin _ _ t7) rfl rfl rfl), i9 2 rfl fun s us kin hl => (match us, hl with | [_, _], _ => .of_defaults rfl (kin _ _ t7) rfl rfl rfl), jn 2 rfl fun s us w kin hl => (match us, hl with | [_, _], _ => .of_defaults rfl (kin _ _ t7) rfl rfl rfl)⟩
 have h_is_level := e8.has l.prog w base X G fun F => mN F C
 have h_quarters := e9.has l.prog w base X G fun F => mQ F C h_place_of h_side h_spot_of z_list
 have h_is_even := e10.has l.prog w base X G fun F => oY F C z_max
 have h_is_fair := e11.has l.prog w base X G fun F => oZ F C h_is_even h_total h_weighed
 have h_law_whole := e12.has l.prog w base X G fun F => md F C z_bool z_int z_isinstance
 have h_law_cell_at := e13.has l.prog w base X G fun F => jV F C z_len
 have h_law_stream := e14.has l.prog w base X G fun F => kG F C z_range
 have h_Paper__holds := e15.has l.prog w base fun F => jt F C
 have h_Paper__told := e16.has l.prog w base fun F => jU F C
 have h_HalfPaper__holds := e17.has l.prog w base fun F => gM F C h_is_fair h_is_level
 have h_HalfPaper__told := e18.has l.prog w base fun F => hZ F C
 have h_QuarterPaper__holds := e19.has l.prog w base fun F => fx F C h_is_level h_quarters h_total z_max
 have h_QuarterPaper__told := e20.has l.prog w base fun F => fQ F C
 have h_law_alike0 := e21.has l.prog w base X G fun F => kC F C h_law_whole z_isinstance z_len z_list z_tuple
 have h_law_alike1 := e22.has l.prog w base X G fun F => kD F C h_law_alike0 h_law_whole z_isinstance z_len z_list z_tuple z_zip
 have h_law_alike2 := e23.has l.prog w base X G fun F => kE F C h_law_alike1 h_law_whole z_isinstance z_len z_list z_tuple z_zip
 have h_law_holds := e24.has l.prog w base X G fun F => l8 F C h_HalfPaper__holds h_Paper__holds h_QuarterPaper__holds z_bool z_isinstance
 have h_law_reads := e25.has l.prog w base X G fun F => ma F C
 have h_law_level := e26.has l.prog w base X G fun F => l9 F C
 have h_law_halves := e27.has l.prog w base X G fun F => kF F C h_law_reads
 have h_law_quarters := e28.has l.prog w base X G fun F => ju F C h_law_reads z_max z_sum
 have h_law_spot := e29.has l.prog w base X G fun F => mO F C
 have h_law_dot := e30.has l.prog w base X G fun F => o3 F C h_law_spot h_law_stream
 have h_law_gauge := e31.has l.prog w base X G fun F => l5 F C z_len
 have h_law_asked := e32.has l.prog w base X G fun F => l4 F C h_HalfPaper__told h_QuarterPaper__told h_law_alike2 h_law_holds z_isinstance z_list
 exact vd (el (st := dq) l33 c33 k33) C m_HalfPaper m_Paper m_QuarterPaper h_Paper__told h_law_asked h_law_cell_at h_law_dot h_law_gauge h_law_halves h_law_holds h_law_level h_law_quarters h_law_stream z_isinstance
end LW
theorem PySem.W.Fast.te9709125757499181190 : True := trivial
def PySem.W.Fast.tw2926771030031576271 : PySem.Program := PySem.Challenge.pw_halvecut_k71_papers_of_lines
theorem PySem.W.Fast.te2926771030031576271 : PySem.Challenge.pw_halvecut_k71_papers_of_lines = PySem.W.Fast.tw2926771030031576271 := rfl
def PySem.W.Fast.tw2384238126197096774:=()
def PySem.W.Fast.tw10024620369392849405:=()
def PySem.W.Fast.tw5626612523167285819:=()
def PySem.W.Fast.tw11081810849468078942:=()
def PySem.W.Fast.tw839778429955787723:=()
def PySem.W.Fast.tw10198929462695265616:=()
def PySem.W.Fast.tw12227565469718683436:=()
def PySem.W.Fast.tw5319839089147816828:=()
def PySem.W.Fast.tw7527292440350761183:=()
def PySem.W.Fast.tw6834619680243163610:=()
def PySem.W.Fast.tw14125097702648863338:=()
open PySem PySem.W PyProof.Rows
set_option maxRecDepth 100000 in
set_option maxHeartbeats 0 in
theorem PySem.Challenge.cw_halvecut_k71_papers_of_lines_holds : PySem.Challenge.rw_halvecut_k71_papers_of_lines.Holds := by
 w_on; o_law; k_head; (case hw => w_witness2)
 k_fill
 refine PD.walk (l := PySem.Challenge.rw_halvecut_k71_papers_of_lines) (k := 8) (x := "_law_script") rfl rfl ⟨rfl, by decide, by decide⟩ (fun w h Y => PySem.W.kIn_of Y) (fun w => by kernel_rfl) ?F
 case F =>
  intro w mg fa h KX G hmg
  refine' LW.all_mk KX G hmg ?e0 ?e1 ?e2 ?e3 ?e4 ?e5 ?a6 ?l6 ?c6 ?k6 ?t6 ?a7 ?l7 ?c7 ?k7 ?t7 ?e8 ?e9 ?e10 ?e11 ?e12 ?e13 ?e14 ?e15 ?e16 ?e17 ?e18 ?e19 ?e20 ?e21 ?e22 ?e23 ?e24 ?e25 ?e26 ?e27 ?e28 ?e29 ?e30 ?e31 ?e32 ?a33 ?l33 ?c33 ?k33 ?i_HalfPaper ?mk_HalfPaper ?kc_HalfPaper ?i_Paper ?mk_Paper ?kc_Paper ?i_QuarterPaper ?mk_QuarterPaper ?kc_QuarterPaper ?mg_PlaneError ?mg_NoPlace ?mg_Paper ?mg_HalfPaper ?mg_QuarterPaper ?mg_InPaper ?mg_GroupsPaper ?cl_Paper ?ob_Paper ?kit_Paper_Paper ?kit_Paper_HalfPaper ?kit_Paper_QuarterPaper ?kit_Paper_GroupsPaper ?cl_HalfPaper ?ob_HalfPaper ?na_HalfPaper_gauge ?na_HalfPaper_one ?na_HalfPaper_other ?kit_HalfPaper_Paper ?kit_HalfPaper_HalfPaper ?kit_HalfPaper_QuarterPaper ?kit_HalfPaper_GroupsPaper ?cl_QuarterPaper ?ob_QuarterPaper ?na_QuarterPaper_gauge ?na_QuarterPaper_other ?kit_QuarterPaper_Paper ?kit_QuarterPaper_HalfPaper ?kit_QuarterPaper_QuarterPaper ?kit_QuarterPaper_GroupsPaper ?z_bool ?z_int ?z_isinstance ?z_len ?z_list ?z_max ?z_range ?z_sum ?z_tuple ?z_zip
  all_goals try (refine' PD.FL.mk ?a ?l ?c ?k; (case a => k_is); (case l => k_is); (case c => k_is); (case k => k_is))
  (case mg_PlaneError => k_is)
  (case mg_NoPlace => k_is)
  (case mg_Paper => k_is)
  (case mg_HalfPaper => k_is)
  (case mg_QuarterPaper => k_is)
  (case mg_InPaper => k_is)
  (case mg_GroupsPaper => k_is)
  all_goals try (refine' PD.FLM.mk ?a ?i ?l ?c ?k; (case a => k_is); (case i => k_is); (case l => k_is); (case c => k_is); (case k => k_is))
  (case a6 => k_is)
  (case l6 => k_is)
  (case c6 => k_is)
  (case k6 => k_is)
  (case t6 => k_is)
  (case a7 => k_is)
  (case l7 => k_is)
  (case c7 => k_is)
  (case k7 => k_is)
  (case t7 => k_is)
  (case a33 => k_is)
  (case l33 => k_is)
  (case c33 => k_is)
  (case k33 => k_is)
  (case mk_HalfPaper => k_is)
  (case kc_HalfPaper => k_is)
  (case i_Paper => k_is)
  (case mk_Paper => k_is)
  (case kc_Paper => k_is)
  (case mk_QuarterPaper => k_is)
  (case kc_QuarterPaper => k_is)
  (case cl_Paper => kernel_rfl)
  (case ob_Paper => kernel_rfl)
  (case kit_Paper_Paper => kernel_rfl)
  (case kit_Paper_HalfPaper => kernel_rfl)
  (case kit_Paper_QuarterPaper => kernel_rfl)
  (case kit_Paper_GroupsPaper => kernel_rfl)
  (case cl_HalfPaper => kernel_rfl)
  (case ob_HalfPaper => kernel_rfl)
  (case na_HalfPaper_gauge => kernel_rfl)
  (case na_HalfPaper_one => kernel_rfl)
  (case na_HalfPaper_other => kernel_rfl)
  (case kit_HalfPaper_Paper => kernel_rfl)
  (case kit_HalfPaper_HalfPaper => kernel_rfl)
  (case kit_HalfPaper_QuarterPaper => kernel_rfl)
  (case kit_HalfPaper_GroupsPaper => kernel_rfl)
  (case cl_QuarterPaper => kernel_rfl)
  (case ob_QuarterPaper => kernel_rfl)
  (case na_QuarterPaper_gauge => kernel_rfl)
  (case na_QuarterPaper_other => kernel_rfl)
  (case kit_QuarterPaper_Paper => kernel_rfl)
  (case kit_QuarterPaper_HalfPaper => kernel_rfl)
  (case kit_QuarterPaper_QuarterPaper => kernel_rfl)
  (case kit_QuarterPaper_GroupsPaper => kernel_rfl)
  (case z_bool => k_is)
  (case z_int => k_is)
  (case z_isinstance => k_is)
  (case z_len => k_is)
  (case z_list => k_is)
  (case z_max => k_is)
  (case z_range => k_is)
  (case z_sum => k_is)
  (case z_tuple => k_is)
  (case z_zip => k_is)
