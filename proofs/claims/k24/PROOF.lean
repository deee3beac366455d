import PyProof.Rows.All
import Wide.All
import OpenK.AllK
import Wide.FinOn
import Lean
import PyProof.EqAt
import PyProof.EqKinds
import PyProof.TupleCall
import PySem.Challenge.RW_halvecut_k24_whole_fair_lines_sent
set_option Elab.async false
set_option linter.all false
set_option maxRecDepth 100000
abbrev zAA := @List.length_map
abbrev zAB := @PySem.Heap.get?_push_of_some
abbrev zAC := @Array.getElem?_toList
abbrev zAD := @List.cons.injEq
abbrev zAE := @Nat.le_refl
abbrev zAF := @List.getElem?_eq_some_iff
abbrev zAG := @List.map_cons
abbrev zAH := @List.getElem?_eq_getElem
abbrev zAI := @List.mem_cons_of_mem
abbrev zAJ := @PySem.Heap.lt_size
abbrev zAK := @List.mem_cons_self
abbrev zAL := @PySem.Heap.get?_push_size
abbrev zAM := @List.getElem?_append_right
abbrev zAN := @List.mem_cons
abbrev zAO := @List.getElem?_map
abbrev zAP := @List.size_toArray
abbrev zAQ := @Bool.false_ne_true
abbrev zAR := @List.length_append
abbrev zAS := @Nat.lt_of_lt_of_le
abbrev zAT := @Array.length_toList
abbrev zAU := @List.mem_map
abbrev zAV := @List.mem_of_getElem?
abbrev zAW := @List.mem_append
abbrev zAX := @Nat.le_trans
abbrev zAY := @Bool.false_eq_true
abbrev zAZ := @Array.getElem?_eq_getElem
abbrev zAa := @List.getElem?_append_left
abbrev zAb := @List.map_append
abbrev zAc := @List.length_take
abbrev zAd := @Option.some.inj
abbrev zAe := @List.getElem?_set_ne
abbrev zAf := @List.take_append_drop
abbrev zAg := @List.map_map
abbrev zAh := @List.take_of_length_le
abbrev zAi := @Nat.zero_le
abbrev zAj := @Bool.and_eq_true
abbrev zAk := @Nat.ne_of_lt
abbrev zAl := @Classical.byContradiction
abbrev zAm := @List.mem_append_right
abbrev zAn := @List.length_cons
abbrev zAo := @List.length_drop
abbrev zAp := @Option.map_eq_some_iff
abbrev zAq := @List.length_range'
abbrev zAr := @List.getElem_of_mem
abbrev zAs := @List.pairwise_iff_getElem
abbrev zAt := @List.getElem?_set_self
abbrev zAu := @Int.mul_right_comm
abbrev zAv := @Array.getElem?_eq_some_iff
abbrev zAw := @List.append_assoc
abbrev zAx := @List.eq_nil_of_length_eq_zero
abbrev zAy := @Array.toList_extract
abbrev zAz := @List.pairwise_append
abbrev zA0 := @List.mem_singleton
abbrev zA1 := @PySem.Heap.get?_update_self
abbrev zA2 := @List.find?_cons
abbrev zA3 := @List.mem_of_mem_take
abbrev zA4 := @Nat.pow_succ
abbrev zA5 := @PySem.Heap.get?_update_other
abbrev zA6 := @List.lookup_cons
abbrev zA7 := @List.mem_of_mem_drop
abbrev zA8 := @List.map_nil
abbrev zA9 := @Int.mul_nonneg
abbrev zBA := @Array.toList_append
abbrev zBB := @PySem.Heap.SameBut.update
abbrev zBC := @List.append_nil
abbrev zBD := @Nat.min_eq_left
abbrev zBE := @Int.natAbs_dvd_natAbs
abbrev zBF := @List.getElem_map
abbrev zBG := @Nat.lt_irrefl
abbrev zBH := @List.filter_cons_of_neg
abbrev zBI := @List.filter_cons_of_pos
abbrev zBJ := @List.mem_filter
abbrev zBK := @Int.mul_comm
abbrev zBL := @Int.mul_pos
abbrev zBM := @Array.perm_iff_toList_perm
abbrev zBN := @List.getD_eq_getElem?_getD
abbrev zBO := @List.mem_reverse
abbrev zBP := @List.not_mem_nil
abbrev zBQ := @Nat.mod_eq_of_lt
abbrev zBR := @List.extract_eq_take_drop
abbrev zBS := @Bool.eq_iff_iff
abbrev zBT := @Nat.le_of_lt
abbrev zBU := @Nat.not_lt
abbrev zBV := @Array.toList_push
abbrev zBW := @List.drop_append_of_le_length
abbrev zBX := @List.getElem?_replicate
abbrev zBY := @Array.getElem?_eq_none
abbrev zBZ := @Int.neg_mul
abbrev zBa := @List.getElem?_drop
abbrev zBb := @Nat.le_of_eq
abbrev zBc := @Int.mul_eq_zero
abbrev zBd := @List.nodup_cons
abbrev zBe := @Prod.mk.injEq
abbrev zBf := @Bool.eq_false_iff
abbrev zBg := @Int.mul_left_comm
abbrev zBh := @List.pairwise_map
abbrev zBi := @List.drop_eq_getElem_cons
abbrev zBj := @List.mem_append_left
abbrev zBk := @Nat.mod_lt
abbrev zBl := @List.Perm.refl
abbrev zBm := @Int.mul_zero
abbrev zBn := @List.filterMap_cons_some
abbrev zBo := @List.filterMap_cons
abbrev zBp := @List.filter_eq_self
abbrev zBq := @Nat.add_sub_cancel_left
abbrev zBr := @Nat.le_of_dvd
abbrev zBs := @Int.mul_ne_zero
abbrev zBt := @List.getElem?_take
abbrev zBu := @List.mem_filterMap
abbrev zBv := @List.nil_append
abbrev zBw := @Int.mul_neg
abbrev zBx := @Prod.ext
abbrev zBy := @Int.sub_self
abbrev zBz := @Nat.zero_add
abbrev zB0 := @Bool.not_eq_true
abbrev zB1 := @List.all_eq_true
abbrev zB2 := @List.cons_append
abbrev zB3 := @List.getElem_mem
abbrev zB4 := @List.take_length
abbrev zB5 := @Array.toList_setIfInBounds
abbrev zB6 := @Bool.not_true
abbrev zB7 := @List.any_cons
abbrev zB8 := @List.reverse_append
abbrev zB9 := @Int.mul_neg_of_neg_of_pos
abbrev zCA := @Int.mul_pos_of_neg_of_neg
abbrev zCB := @Array.append_assoc
abbrev zCC := @List.pairwise_cons
abbrev zCD := @List.set_cons_zero
abbrev zCE := @Nat.lt_of_le_of_lt
abbrev zCF := @Nat.sub_self
abbrev zCG := @List.drop_drop
abbrev zCH := @List.take_succ
abbrev zCI := @Nat.mul_le_mul
namespace L2
open PySem PySem.Spec PyProof.Rows
abbrev Key := Sum Int Str
def kF : Key -> Value -> Bool
 | .inl k, v => Value.isInt k v
 | .inr x, v => Value.isStrOf x v
def BP (w : World) : Key -> Int
 | .inl k => hashInt k
 | .inr x => hashStr w x
theorem bw : ∀ {k : Key} {v : Value}, kF k v = true -> (∃ i t, k = Sum.inl i /\ v = Value.int i t) ∨ (∃ x t, k = Sum.inr x /\ v = Value.str x t)
 | .inl i, v, h => by
  obtain ⟨t, e⟩ := Value.isInt_shape (k := i) (v := v) h
  exact .inl ⟨i, t, rfl, e⟩
 | .inr x, v, h => by
  obtain ⟨t, e⟩ := Value.isStrOf_shape (x := x) (v := v) h
  exact .inr ⟨x, t, rfl, e⟩
theorem wm (i : Int) (t : Tok) : kF (.inl i) (.int i t) = true := by simp [kF, Value.isInt]
theorem wo (x : Str) (t : Tok) : kF (.inr x) (.str x t) = true := by simp [kF, Value.isStrOf]
theorem Ax (a b : Int) : decide ((Sum.inl a : Key) = Sum.inl b) = (a == b) := by
 by_cases e : a = b
 ·subst e; simp
 ·have h : ¬ (Sum.inl a : Key) = Sum.inl b := fun q => e (Sum.inl.inj q)
  rw [decide_eq_false h]
  exact (beq_eq_false_iff_ne.mpr e).symm
theorem AA (a b : Str) : decide ((Sum.inr a : Key) = Sum.inr b) = decide (a = b) := by
 by_cases e : a = b
 ·subst e; simp
 ·have h : ¬ (Sum.inr a : Key) = Sum.inr b := fun q => e (Sum.inr.inj q)
  rw [decide_eq_false h, decide_eq_false e]
theorem Ay (a : Int) (b : Str) : decide ((Sum.inl a : Key) = Sum.inr b) = false := decide_eq_false (fun q => nomatch q)
theorem Az (a : Str) (b : Int) : decide ((Sum.inr a : Key) = Sum.inl b) = false := decide_eq_false (fun q => nomatch q)
def aW (prog : Program) (w : World) : PySem.KeyKind prog w Key where
 is := kF
 hash := BP w
 inj := fun v a b ha hb => by
  rcases bw ha with ⟨i, t, rfl, rfl⟩ | ⟨x, t, rfl, rfl⟩
  ·rcases bw hb with ⟨j, u, rfl, e⟩ | ⟨y, u, rfl, e⟩
   ·injection e with e1 _; rw [e1]
   ·exact nomatch e
  ·rcases bw hb with ⟨j, u, rfl, e⟩ | ⟨y, u, rfl, e⟩
   ·exact nomatch e
   ·injection e with e1 _; rw [e1]
 byValue := fun k v h => by
  rcases bw h with ⟨i, t, rfl, rfl⟩ | ⟨x, t, rfl, rfl⟩ <;> rfl
 pyHash := fun hv h => by
  rcases bw hv with ⟨i, t, rfl, rfl⟩ | ⟨x, t, rfl, rfl⟩
  ·exact wpAny_pyHash_int h
  ·exact wpAny_pyHash_str h
 eqBool := fun hu hv h => by
  rcases bw hu with ⟨i, t, rfl, rfl⟩ | ⟨x, t, rfl, rfl⟩
  ·rcases bw hv with ⟨j, u, rfl, rfl⟩ | ⟨y, u, rfl, rfl⟩
   ·rw [Ax] at h; exact wpAny_eqBool_int h
   ·rw [Ay] at h; exact SeqAt.EqAt.int_str i t y u _ _ _ _ h
  ·rcases bw hv with ⟨j, u, rfl, rfl⟩ | ⟨y, u, rfl, rfl⟩
   ·rw [Az] at h; exact SeqAt.EqAt.str_int x t j u _ _ _ _ h
   ·rw [AA] at h; exact wpAny_eqBool_str h
 «strs» := fun k x t v h => by
  rcases bw h with ⟨i, u, rfl, e⟩ | ⟨y, u, rfl, e⟩
  ·exact nomatch e
  ·injection e with e1 _
   subst e1
   cases v <;> rfl
theorem rQ (prog : Program) (w : World) (i : Int) (t : Tok) : (aW prog w).is (.inl i) (.int i t) = true := wm i t
theorem rR (prog : Program) (w : World) (x : Str) (t : Tok) : (aW prog w).is (.inr x) (.str x t) = true := wo x t
end L2
namespace L2
open PySem PySem.Spec PyProof.Rows
inductive V where
 | non | bl (b : Bool) | int (i : Int) | str (x : Str) | byt (b : Array UInt8) | flt (b : UInt64) | ref (a : Addr) | ty (n : String)
 deriving DecidableEq
def RelV : V -> Value -> Prop
 | .non, u => u = Value.none
 | .bl b, u => u = Value.bool b
 | .int i, u => ∃ t, u = Value.int i t
 | .str x, u => ∃ t, u = Value.str x t
 | .byt b, u => ∃ t, u = Value.bytes b t
 | .flt b, u => ∃ t, u = Value.float b t
 | .ref a, u => u = Value.ref a
 | .ty n, u => u = Value.type n
abbrev Vals : List V -> List Value -> Prop := Paired RelV
theorem Vals.length {xs : List V} {us : List Value} (r : Vals xs us) : xs.length = us.length := Paired.length r
theorem Vals.get : ∀ {xs : List V} {us : List Value} {i : Nat} {x : V}, Vals xs us -> xs[i]? = some x -> ∃ u, us[i]? = some u /\ RelV x u
 | _, _, _, _, .nil, e => by simp at e
 | _, _, 0, _, .cons r _, e => by simp at e; subst e; exact ⟨_, rfl, r⟩
 | _, _, i + 1, x, .cons _ t, e => by
  obtain ⟨u, h1, h2⟩ := Vals.get (i := i) (x := x) t (by simpa using e)
  exact ⟨u, by simpa using h1, h2⟩
theorem Vals.set {x : V} {u : Value} (r : RelV x u) : ∀ {xs : List V} {us : List Value} (i : Nat), Vals xs us -> Vals (xs.set i x) (us.set i u)
 | _, _, _, .nil => .nil
 | _, _, 0, .cons _ t => .cons r t
 | _, _, i + 1, .cons q t => .cons q (Vals.set r i t)
theorem Vals.append : ∀ {xs ys : List V} {us ws : List Value}, Vals xs us -> Vals ys ws -> Vals (xs ++ ys) (us ++ ws)
 | _, _, _, _, .nil, s => s
 | _, _, _, _, .cons r t, s => .cons r (Vals.append t s)
theorem Vals.take : ∀ {xs : List V} {us : List Value} (n : Nat), Vals xs us -> Vals (xs.take n) (us.take n)
 | _, _, 0, _ => .nil
 | _, _, _ + 1, .nil => .nil
 | _, _, n + 1, .cons r t => .cons r (Vals.take n t)
theorem Vals.drop : ∀ {xs : List V} {us : List Value} (n : Nat), Vals xs us -> Vals (xs.drop n) (us.drop n)
 | _, _, 0, r => r
 | _, _, _ + 1, .nil => .nil
 | _, _, n + 1, .cons _ t => Vals.drop n t
def gc : Option V -> Option Value -> Prop
 | some v, some u => RelV v u
 | none, none => True
 | _, _ => False
def KV {κ : Type} : List (κ × V) -> List (κ × Value) -> Prop := Paired fun (p : κ × V) (q : κ × Value) => p.1 = q.1 /\ RelV p.2 q.2
def kV : Key -> V
 | .inl i => .int i
 | .inr x => .str x
inductive HO where
 | lst (xs : List V)
 | tup (xs : List V)
 | dK (kvs : List (Key × V)) | dT (kvs : List (List Key × V))
 | set (S : Int -> Bool) (n : Nat)
 | ins (C dx : Addr) (fs : List (Str × V))
 | own (x : Addr)
 | xd (fs : List (Str × V))
 | met (f x : Addr)
 | rng (lo hi : Int)
 | frz (o : Obj) (u : HO)
 | tbl (ps : Array Value)
 | ext (φ : Heap -> Prop)
abbrev Hp := Addr -> Option HO
def upd (H : Hp) (a : Addr) (o : HO) : Hp := fun b => if b = a then some o else H b
theorem aC {H : Hp} {a : Addr} {o : HO} : upd H a o a = some o := by unfold upd; rw [if_pos rfl]
theorem ay {H : Hp} {a b : Addr} {o : HO} (h : b ≠ a) : upd H a o b = H b := by unfold upd; rw [if_neg h]
theorem zV {H : Hp} {a : Addr} {o u : HO} : upd (upd H a o) a u = upd H a u := by
 funext b; unfold upd; split <;> rfl
theorem cR {H : Hp} {a b : Addr} {o u : HO} (h : H a = some o) (h' : H b = some u) (d : o ≠ u) : a ≠ b := by
 intro e; subst e; rw [h] at h'; exact d (zAd h')
theorem bK {H : Hp} {a b : Addr} {o : HO} (h : H a = some o) (h' : H b = none) : a ≠ b := by
 intro e; subst e; rw [h] at h'; cases h'
section
variable (P : Program) (w : World)
def aT (H : Hp) (h : Heap) (a : Addr) : HO -> Prop
 | .lst xs => xs.length <= sizeLine /\ ∃ (its : List Value) (n : Nat), Vals xs its /\ h.get? a = some { cls := .type "list", data := .seq its.toArray n }
 | .tup xs => xs.length <= sizeLine /\ ∃ its : List Value, Vals xs its /\ IsTup h a its.toArray
 | .dK kvs => kvs.length <= sizeLine /\ (a == sysModules) = false /\ ∃ vs, KV kvs vs /\ h.DictOf (aW P w) a vs
 | .dT kvs => kvs.length <= sizeLine /\ (a == sysModules) = false /\ ∃ xs : List (List Key × Addr × Value),
   Paired (fun (p : List Key × V) (q : List Key × Addr × Value) => p.1 = q.1 /\ H q.2.1 = some (.tup (p.1.map kV)) /\ RelV p.2 q.2.2) kvs xs ∧
   ∃ o es ep, h.get? a = some o /\ o.ExactDict /\ o.data = .dict es ep /\ es.toList = xs.map (entryOfKey (tupleKind (aW P w))) /\ (xs.map (·.1)).Nodup
 | .set S n => h.SetOf (intKind P w) a S n
 | .ins C dx fs => H dx = some (.own a) /\ fs.length <= 1000 /\ dx ≠ a /\ h.get? a = some (PySem.W.instObj C dx) ∧
   ∃ mA, h.Ns1 dx mA /\ (∀ f, gc (fs.lookup f) (mA f)) /\ PySem.Within mA (fs.map (·.1))
 | .own _ => ∃ o, h.get? a = some o
 | .xd fs => ∃ mA, h.Ns1 a mA /\ ∀ f, gc (fs.lookup f) (mA f)
 | .rng lo hi => ∃ t u v, h.get? a = some { cls := .type "range", data := .fields #[.int lo t, .int hi u, .int 1 v] }
 | .frz o u => h.get? a = some o /\ aT H h a u
 | .tbl ps => h.get? a = some { cls := .none, data := .fields ps }
 | .met f x => h.get? a = some (PySem.W.methodObj (.ref f) (.ref x))
 | .ext φ => φ h /\ (∃ o, h.get? a = some o) /\ ∀ h1 h2 : Heap, φ h1 -> (∀ o, h1.get? a = some o -> h2.get? a = some o) -> φ h2
def HOk (H : Hp) (h : Heap) : Prop := ∀ a o, H a = some o -> aT P w H h a o
end
section
variable {P : Program} {w : World} {H H' : Hp} {h h' : Heap} {a : Addr} {o : HO}
theorem aT.lt (x : aT P w H h a o) : a < h.objs.size := by
 cases o with
 | lst xs => obtain ⟨_, _, _, _, e⟩ := x; exact zAJ e
 | tup xs => obtain ⟨_, _, _, p⟩ := x; exact p.lt
 | dK kvs => obtain ⟨_, _, _, _, o, _, _, e, _⟩ := x; exact zAJ e
 | dT kvs => obtain ⟨_, _, _, _, o, _, _, e, _⟩ := x; exact zAJ e
 | set S n => obtain ⟨o, _, _, _, e, _⟩ := x; exact zAJ e
 | ins C dx fs => obtain ⟨_, _, _, e, _⟩ := x; exact zAJ e
 | own y => obtain ⟨_, e⟩ := x; exact zAJ e
 | xd fs => obtain ⟨_, ⟨_, _, _, e, _⟩, _⟩ := x; exact zAJ e
 | rng lo hi => obtain ⟨_, _, _, e⟩ := x; exact zAJ e
 | frz ob u => obtain ⟨e, _⟩ := x; exact zAJ e
 | tbl ps => exact zAJ (show h.get? a = some _ from x)
 | met f y => exact zAJ (show h.get? a = some _ from x)
 | ext φ => obtain ⟨_, ⟨_, e⟩, _⟩ := x; exact zAJ e
theorem Paired.mapP {α β : Type} {F G : α -> β -> Prop} : ∀ {l₁ : List α} {l₂ : List β}, Paired F l₁ l₂ -> (∀ a b, F a b -> G a b) -> Paired G l₁ l₂
 | _, _, .nil, _ => .nil
 | _, _, .cons r t, f => .cons (f _ _ r) (Paired.mapP t f)
theorem aT.stay (x : aT P w H h a o) (k : ∀ b u, (b = a ∨ H b = some (.own a)) -> h.get? b = some u -> h'.get? b = some u)
  (ho : ∀ b, H b = some (.own a) -> H' b = some (.own a)) (ht : ∀ b xs, H b = some (.tup xs) -> H' b = some (.tup xs)) : aT P w H' h' a o := by
 induction o with
 | lst xs => obtain ⟨z, its, n, r, e⟩ := x; exact ⟨z, its, n, r, k _ _ (.inl rfl) e⟩
 | tup xs => obtain ⟨z, its, r, ob, e, c⟩ := x; exact ⟨z, its, r, ob, k _ _ (.inl rfl) e, c⟩
 | dK kvs => obtain ⟨z, y, vs, r, ob, es, ep, e, c⟩ := x; exact ⟨z, y, vs, r, ob, es, ep, k _ _ (.inl rfl) e, c⟩
 | dT kvs =>
  obtain ⟨z, y, xs, r, ob, es, ep, e, c⟩ := x
  exact ⟨z, y, xs, Paired.mapP r fun p q z => ⟨z.1, ht _ _ z.2.1, z.2.2⟩, ob, es, ep, k _ _ (.inl rfl) e, c⟩
 | set S n => obtain ⟨ob, es, ep, t, e, c⟩ := x; exact ⟨ob, es, ep, t, k _ _ (.inl rfl) e, c⟩
 | ins C dx fs =>
  obtain ⟨d, z, ne, e, mA, ⟨od, es, ep, e2, c⟩, r⟩ := x
  exact ⟨ho _ d, z, ne, k _ _ (.inl rfl) e, mA, ⟨od, es, ep, k _ _ (.inr d) e2, c⟩, r⟩
 | own y => obtain ⟨ob, e⟩ := x; exact ⟨ob, k _ _ (.inl rfl) e⟩
 | xd fs => obtain ⟨mA, ⟨od, es, ep, e, c⟩, r⟩ := x; exact ⟨mA, ⟨od, es, ep, k _ _ (.inl rfl) e, c⟩, r⟩
 | rng lo hi => obtain ⟨t, u, v, e⟩ := x; exact ⟨t, u, v, k _ _ (.inl rfl) e⟩
 | frz ob u ih => obtain ⟨e, q⟩ := x; exact ⟨k _ _ (.inl rfl) e, ih q⟩
 | tbl ps =>
  have e : h.get? a = some { cls := .none, data := .fields ps } := x
  show h'.get? a = some { cls := .none, data := .fields ps }
  exact k a _ (.inl rfl) e
 | met f y =>
  have e : h.get? a = some (PySem.W.methodObj (.ref f) (.ref y)) := x
  show h'.get? a = some (PySem.W.methodObj (.ref f) (.ref y))
  exact k a _ (.inl rfl) e
 | ext φ => obtain ⟨p, ⟨o, e⟩, st⟩ := x; exact ⟨st _ _ p fun o q => k _ _ (.inl rfl) q, ⟨o, k _ _ (.inl rfl) e⟩, st⟩
theorem HOk.lt (x : HOk P w H h) (e : H a = some o) : a < h.objs.size := (x a o e).lt
theorem HOk.fresh (x : HOk P w H h) (e : h.objs.size <= a) : H a = none := by
 cases q : H a with
 | none => rfl
 | some u => exact absurd (zAS (x.lt q) e) (zBG _)
theorem HOk.kept (x : HOk P w H h) (k : ∀ b u, h.get? b = some u -> h'.get? b = some u) : HOk P w H h' := fun a o e =>
 (x a o e).stay (fun b u _ q => k b u q) (fun _ q => q) fun _ _ q => q
theorem HOk.laid (x : HOk P w H h) (k : ∀ b u, h.get? b = some u -> h'.get? b = some u) (hp : h.objs.size <= a) (new : aT P w (upd H a o) h' a o) : HOk P w (upd H a o) h' := fun b u e => by
 have hn := x.fresh hp
 by_cases hb : b = a
 ·subst hb; rw [aC] at e; cases e; exact new
 ·rw [ay hb] at e
  exact (x b u e).stay (fun c v _ q => k c v q) (fun c q => by rw [ay (bK q hn)]; exact q) fun c xs q => by rw [ay (bK q hn)]; exact q
end
def Rd (H : Hp) (a : Addr) (u : HO) : Prop := H a = some u ∨ ∃ o, H a = some (.frz o u)
theorem Rd.ok {P : Program} {w : World} {H : Hp} {h : Heap} {a : Addr} {u : HO} (r : Rd H a u) (x : HOk P w H h) : aT P w H h a u := by
 rcases r with r | ⟨o, r⟩
 ·exact x a u r
 ·obtain ⟨_, q⟩ := x a _ r
  exact q
def Mut : Option HO -> Prop
 | some (.lst _) => True
 | some (.dK _) => True
 | some (.dT _) => True
 | some (.set _ _) => True
 | some (.ins _ _ _) => True
 | some (.ext _) => True
 | _ => False
section
variable {P : Program} {w : World} {H : Hp} {h h' : Heap} {x e : Addr} {o' : HO}
theorem HOk.write (ok : HOk P w H h) (mu : Mut (H x)) (he : e = x ∨ H e = some (.own x)) (k : ∀ b u, b ≠ e -> h.get? b = some u -> h'.get? b = some u) (heo : ∃ u, h'.get? e = some u)
  (new : aT P w (upd H x o') h' x o') : HOk P w (upd H x o') h' := fun b u q => by
 have nown : ∀ c y, H c = some (.own y) -> c ≠ x := fun c y r z => by subst z; rw [r] at mu; exact mu
 have ntup : ∀ c xs, H c = some (.tup xs) -> c ≠ x := fun c xs r z => by subst z; rw [r] at mu; exact mu
 by_cases hb : b = x
 ·subst hb; rw [aC] at q; cases q; exact new
 ·rw [ay hb] at q
  by_cases hbe : b = e
  ·have q' : H b = some (.own x) := by
    rcases he with z | z
    ·exact absurd (hbe.trans z) hb
    ·rw [hbe]; exact z
   rw [q] at q'; cases q'
   obtain ⟨v, hv⟩ := heo
   exact ⟨v, by rw [hbe]; exact hv⟩
  ·refine (ok b u q).stay (fun c v hc r => k c v ?_ r) (fun c r => by rw [ay (nown c b r)]; exact r) fun c xs r => by rw [ay (ntup c xs r)]; exact r
   rcases hc with rfl | hc
   ·exact hbe
   ·rintro rfl
    rcases he with z | z
    ·exact nown c b hc z
    ·rw [hc] at z; cases z; exact hb rfl
end
structure Un (fs ex : List Addr) (H H' : Hp) (h h' : Heap) : Prop where
 keep : ∀ b o, h.get? b = some o -> H b = none -> b ∉ fs -> b ∉ ex -> h'.get? b = some o
 slot : ∀ b o, h.get? b = some o -> H b = none -> b ∈ fs -> b ∉ ex -> ∃ sl, h'.get? b = some { o with slots := sl }
 free : ∀ b o, h.get? b = some o -> H b = none -> b ∉ ex -> H' b = none
 there : ∀ b o, h.get? b = some o -> b ∉ ex -> ∃ o', h'.get? b = some o'
 tups : ∀ b xs, H b = some (.tup xs) -> H' b = some (.tup xs)
 frzs : ∀ b o u, H b = some (.frz o u) -> H' b = some (.frz o u)
 tbls : ∀ b ps, H b = some (.tbl ps) -> ∃ more, H' b = some (.tbl (ps ++ more))
section
variable {fs fs' ex ex' : List Addr} {H H1 H2 : Hp} {h h1 h2 h' : Heap} {a x e : Addr} {o : HO}
theorem Un.any (u : Un fs ex H H1 h h1) {b : Addr} {ob : Obj} (q : h.get? b = some ob) (n : H b = none) (hx : b ∉ ex) : ∃ sl, h1.get? b = some { ob with slots := sl } := by
 by_cases hb : b ∈ fs
 ·exact u.slot b ob q n hb hx
 ·exact ⟨ob.slots, u.keep b ob q n hb hx⟩
theorem Un.kept (k : ∀ b u, h.get? b = some u -> h'.get? b = some u) : Un fs ex H H h h' :=
 ⟨fun b ob q _ _ _ => k b ob q, fun b ob q _ _ _ => ⟨ob.slots, k b ob q⟩, fun _ _ _ n _ => n, fun b ob q _ => ⟨ob, k b ob q⟩, fun _ _ q => q, fun _ _ _ q => q, fun _ ps q => ⟨#[], by rw [q]; simp⟩⟩
theorem Un.refl : Un fs ex H H h h := Un.kept fun _ _ q => q
theorem Un.laid (k : ∀ b u, h.get? b = some u -> h'.get? b = some u) (hp : h.objs.size <= a) (hn : H a = none) : Un fs ex H (upd H a o) h h' where
 keep := fun b u q _ _ _ => k b u q
 slot := fun b u q _ _ _ => ⟨u.slots, k b u q⟩
 free := fun b u q n _ => by rw [ay (zAk (zAS (zAJ q) hp))]; exact n
 there := fun b u q _ => ⟨u, k b u q⟩
 tups := fun b xs q => by rw [ay (bK q hn)]; exact q
 frzs := fun b u xs q => by rw [ay (bK q hn)]; exact q
 tbls := fun b ps q => ⟨#[], by rw [ay (bK q hn), q]; simp⟩
theorem Un.write (mu : Mut (H x)) (he : e = x ∨ H e = some (.own x)) (k : ∀ b u, b ≠ e -> h.get? b = some u -> h'.get? b = some u) (heo : ∃ u, h'.get? e = some u) : Un fs ex H (upd H x o) h h' := by
 have hx : ∀ b, H b = none -> b ≠ x := fun b n z => by subst z; rw [n] at mu; exact mu
 have hb : ∀ b, H b = none -> b ≠ e := fun b n z => by
  subst z
  rcases he with r | r
  ·exact hx b n r
  ·rw [n] at r; cases r
 have hm : ∀ b u, H b = some u -> ¬ Mut (some u) -> b ≠ x := fun b u q nm z => by subst z; rw [q] at mu; exact nm mu
 refine ⟨fun b u q n _ _ => k b u (hb b n) q, fun b u q n _ _ => ⟨u.slots, k b u (hb b n) q⟩, fun b u q n _ => by rw [ay (hx b n)]; exact n, fun b u q _ => ?_,
  fun b xs q => by rw [ay (hm b _ q fun z => z)]; exact q, fun b u xs q => by rw [ay (hm b _ q fun z => z)]; exact q, fun b ps q => ⟨#[], by rw [ay (hm b _ q fun z => z), q]; simp⟩⟩
 by_cases hbe : b = e
 ·subst hbe; exact heo
 ·exact ⟨u, k b u hbe q⟩
end
def trk (h : Heap) (H : Hp) : List Addr := (List.range h.objs.size).filter fun a => (H a).isSome
def i9 (h : Heap) (H : Hp) : Heap := PySem.W.hideAll h (trk h H)
theorem vX (h : Heap) (H : Hp) : (i9 h H).objs.size = h.objs.size := PySem.W.hideAll_size _ _
theorem xB {h : Heap} {H : Hp} {b : Addr} {o : Obj} (e : h.get? b = some o) (n : H b = none) : (i9 h H).get? b = some o :=
 PySem.W.hideAll_get _ e fun hm => by
  have q : (H b).isSome = true := (zBJ.mp hm).2
  rw [n] at q; simp at q
theorem zu {h : Heap} {H : Hp} {b : Addr} {o : Obj} (e : (i9 h H).get? b = some o) : h.get? b = some o /\ H b = none := by
 have e' : h.get? b = some o := PySem.W.of_hideAll (trk h H) e
 refine ⟨e', ?_⟩
 cases q : H b with
 | none => rfl
 | some x =>
  have hm : b ∈ trk h H := zBJ.mpr ⟨List.mem_range.mpr (zAJ e'), by simp [q]⟩
  have z : (i9 h H).get? b = none := PySem.W.hideAll_none (trk h H) hm
  rw [z] at e; cases e
def yS (g h : Heap) (L : Addr) : List (Addr × Obj) := (List.range h.objs.size).filterMap fun a => if a = L ∨ (g.get? a).isSome = true then none else (h.get? a).map fun o => (a, o)
def rest (g h : Heap) (L d : Addr) : List (Addr × Obj) := (yS g h L).filter fun p => decide (p.1 ≠ d)
end L2
namespace L2
open PySem PySem.Spec PyProof.Rows
structure Mod (K : PySem.W.Frag) (mg : Str -> Option Value) (base : Heap) : Prop where
 kin : K.In base
 glob : base.Ns mainGlobals mg
 blt : ∃ mb, base.Ns builtinsNs mb /\ ∀ x : Str, x ≠ "__name__" -> mb x = bootBuiltins x
 nolimit : base.NoLimit
structure Cx where
 prog : Program
 w : World
 K : PySem.W.Frag
 mg : Str -> Option Value
 base : Heap
 A : Around
 N : List Str
 s₀ : Shared
 H₀ : Hp
 env : Env
 outer : List Env
 stack : List Env
 ex : List Addr
 fn : Str -> Bool
 calm : Bool
 pn : List (Addr × Obj)
 xe : Value -> Shared -> Prop
def frs (l : List Env) : List Addr := l.filterMap (·.frame)
abbrev Cx.fs (X : Cx) : List Addr := frs X.outer
def Vis (sc : Scope) (x : Str) : Prop := sc.names.lookup x = some .local ∨ sc.names.lookup x = some .cell ∨ sc.names.lookup x = some .free
def Loc (sc : Scope) (x : Str) : Prop := sc.names.lookup x = some .local ∨ sc.names.lookup x = some .cell
def Look (env : Env) (h : Heap) (m : Str -> Option Value) (x : Str) (u : Value) : Prop :=
 (env.kindOf x = some .local /\ m x = some u) ∨ ((env.kindOf x = some .cell ∨ env.kindOf x = some .free) /\ ∃ c, env.cells.lookup x = some c /\ h.IsCell c (some u))
structure Cx.Ok (X : Cx) : Prop where
 mod : Mod X.K X.mg X.base
 kind : X.env.scope.kind = .function
 glob : X.env.globals = mainGlobals
 blt : X.env.builtins = builtinsNs
 above : X.s₀.heap.objs.size <= X.env.locals
 inj : ∀ x y c, X.env.cells.lookup x = some c -> X.env.cells.lookup y = some c -> x = y
 has : ∀ x, (X.env.kindOf x = some .cell ∨ X.env.kindOf x = some .free) -> ∃ c, X.env.cells.lookup x = some c
 cab : ∀ x c, X.fn x = true -> X.env.cells.lookup x = some c -> X.s₀.heap.objs.size <= c
 hd : X.calm = true -> X.A.handled = none
 frames : X.A.frames = some X.stack
 stk : X.stack = X.outer ∨ (X.stack = X.env :: X.outer /\ X.env.frame = some X.env.locals)
 exf : ∀ b ∈ X.ex, b ≠ X.env.locals /\ ∀ x c, X.env.cells.lookup x = some c -> c ≠ b
 bs : ∀ b o, X.base.get? b = some o -> X.s₀.heap.get? b = some o /\ X.H₀ b = none
 bsz : X.base.objs.size <= X.s₀.heap.objs.size
 noex : ∀ b o, X.base.get? b = some o -> b ∉ X.ex
 exfs : ∀ b ∈ X.ex, b ∉ X.fs
 funs : X.s₀.heap.FunFrames X.base X.outer
 frf : ∀ b ∈ X.fs, X.H₀ b = none
structure Inv (X : Cx) (pins : List (Addr × Obj)) (σ : List (Option V)) (H : Hp) (s : Shared) : Prop where
 ok : X.Ok
 os : s.os = X.s₀.os
 bare : AllBare s.gens
 base : Un X.fs X.ex X.H₀ H X.s₀.heap s.heap
 loc : ∃ m, s.heap.Ns X.env.locals m /\ ∀ (i : Nat) (x : Str) (v : V), X.N[i]? = some x -> σ[i]? = some (some v) -> Vis X.env.scope x -> ∃ u, RelV v u /\ Look X.env s.heap m x u
 cell : ∀ x c, X.env.cells.lookup x = some c -> ∃ v, s.heap.IsCell c v
 free : H X.env.locals = none
 freeC : ∀ x c, X.env.cells.lookup x = some c -> H c = none
 pin : ∀ p ∈ X.pn ++ pins, s.heap.get? p.1 = some p.2 /\ H p.1 = none /\ p.1 ≠ X.env.locals /\ p.1 ∉ X.fs /\ ∀ v, p.2.data ≠ .cell v
 hok : HOk X.prog X.w H s.heap
 len : σ.length = X.N.length
section
variable {X : Cx} {pins : List (Addr × Obj)} {σ : List (Option V)} {H H' : Hp} {s : Shared} {h' : Heap}
theorem Cx.Ok.nofr (ok : X.Ok) {b : Addr} {o : Obj} (e : X.base.get? b = some o) : b ∉ X.fs := fun hb => by
 have := (ok.funs.mem hb).1
 rw [e] at this; cases this
theorem Inv.bs (I : Inv X pins σ H s) : ∀ b o, X.base.get? b = some o -> s.heap.get? b = some o /\ H b = none := fun b o e =>
 ⟨I.base.keep b o (I.ok.bs b o e).1 (I.ok.bs b o e).2 (I.ok.nofr e) (I.ok.noex b o e), I.base.free b o (I.ok.bs b o e).1 (I.ok.bs b o e).2 (I.ok.noex b o e)⟩
theorem Inv.bk (I : Inv X pins σ H s) : ∀ b o, X.base.get? b = some o -> s.heap.get? b = some o := fun b o e => (I.bs b o e).1
theorem Inv.mod (I : Inv X pins σ H s) : Mod X.K X.mg X.base := I.ok.mod
theorem Inv.kIn (I : Inv X pins σ H s) : X.K.In s.heap := I.ok.mod.kin.keeps I.bk
theorem Inv.lt (I : Inv X pins σ H s) : X.env.locals < s.heap.objs.size := let ⟨_, hn, _⟩ := I.loc; hn.lt
theorem Inv.sz (I : Inv X pins σ H s) : X.s₀.heap.objs.size <= s.heap.objs.size := zAX I.ok.above (zBT I.lt)
theorem Inv.nofs (I : Inv X pins σ H s) {a : Addr} (h : s.heap.objs.size <= a) : a ∉ X.fs := fun hb => by
 obtain ⟨_, o, ho, _⟩ := I.ok.funs.mem hb
 exact absurd (zAS (zAJ ho) (zAX I.sz h)) (zBG _)
theorem Inv.cne (I : Inv X pins σ H s) : ∀ x c, X.env.cells.lookup x = some c -> c ≠ X.env.locals := fun x c e z => by
 obtain ⟨v, o, ho, hd⟩ := I.cell x c e
 obtain ⟨m, ⟨o', es, ep, ho', hd', _⟩, _⟩ := I.loc
 rw [z, ho'] at ho; cases ho; rw [hd'] at hd; cases hd
theorem Inv.funs (I : Inv X pins σ H s) : s.heap.FunFrames X.base X.outer := by
 have all : ∀ (l : List Env), (∀ b ∈ frs l, b ∈ X.fs) -> X.s₀.heap.FunFrames X.base l -> s.heap.FunFrames X.base l := by
  intro l
  induction l with
  | nil => intro _ _; trivial
  | cons env r ih =>
   intro hs hl
   obtain ⟨hk, ⟨L, o, hf, hn, ho, hd⟩, hr⟩ := hl
   have hL : L ∈ X.fs := hs L (by unfold frs; rw [zBo, hf]; exact zAK)
   obtain ⟨sl, e⟩ := I.base.slot L o ho (I.ok.frf L hL) hL fun z => I.ok.exfs L z hL
   exact ⟨hk, ⟨L, _, hf, hn, e, hd⟩, ih (fun b hb => hs b (by unfold frs; rw [zBo, hf]; exact zAI _ hb)) hr⟩
 exact all X.outer (fun _ hb => hb) I.ok.funs
theorem Inv.stack (I : Inv X pins σ H s) : s.heap.FunFrames X.base X.stack := by
 rcases I.ok.stk with e | ⟨e, hf⟩
 ·rw [e]; exact I.funs
 ·rw [e]
  obtain ⟨m, hn, _⟩ := I.loc
  refine .cons (by rw [I.ok.kind]; decide) hf hn ?_ I.funs
  exact Heap.get?_none_of_le (zAX I.ok.bsz I.ok.above)
theorem Inv.stkSub (I : Inv X pins σ H s) : ∀ b ∈ frs X.stack, b ∈ X.env.locals :: X.fs := fun b hb => by
 rcases I.ok.stk with e | ⟨e, hf⟩
 ·rw [e] at hb; exact zAI _ hb
 ·rw [e] at hb
  unfold frs at hb
  rw [zBo, hf] at hb
  exact hb
theorem Inv.stkFree (I : Inv X pins σ H s) : ∀ b ∈ frs X.stack, H b = none := fun b hb => by
 rcases zAN.mp (I.stkSub b hb) with e | hb
 ·rw [e]; exact I.free
 ·obtain ⟨_, o, ho, _⟩ := I.ok.funs.mem hb
  exact I.base.free b o ho (I.ok.frf b hb) fun z => I.ok.exfs b z hb
theorem Inv.step {g' : Array GenState} {t' : Nat} {d' : Drawn} {ch : List Addr} (I : Inv X pins σ H s)
  (hch : ∀ b ∈ ch, (b ∈ X.ex ∨ X.s₀.heap.objs.size <= b) /\ b ≠ X.env.locals /\ (∀ x c, X.env.cells.lookup x = some c -> c ≠ b) /\ ∀ p ∈ X.pn ++ pins, p.1 ≠ b)
  (keep : ∀ b o, b ≠ X.env.locals -> b ∉ X.fs -> b ∉ ch -> s.heap.get? b = some o -> H b = none -> h'.get? b = some o)
  (slot : ∀ b o, b ≠ X.env.locals -> b ∈ X.fs -> b ∉ ch -> s.heap.get? b = some o -> H b = none -> ∃ sl, h'.get? b = some { o with slots := sl }) (free : ∀ b o, b ∉ ch -> s.heap.get? b = some o -> H b = none -> H' b = none)
  (there : ∀ b o, b ∉ ch -> s.heap.get? b = some o -> ∃ o', h'.get? b = some o')
  (tups : ∀ b xs, H b = some (.tup xs) -> H' b = some (.tup xs)) (frzs : ∀ b o u, H b = some (.frz o u) -> H' b = some (.frz o u)) (tbls : ∀ b ps, H b = some (.tbl ps) -> ∃ more, H' b = some (.tbl (ps ++ more)))
  (ns : ∀ m, s.heap.Ns X.env.locals m -> h'.Ns X.env.locals m) (hok : HOk X.prog X.w H' h') (hg : AllBare g') :
  Inv X pins σ H' { s with heap := h', gens := g', drawn := d', toks := t' } := by
 have neL : ∀ b o, X.s₀.heap.get? b = some o -> b ≠ X.env.locals := fun b o e => zAk (zAS (zAJ e) I.ok.above)
 have neC : ∀ b o, X.s₀.heap.get? b = some o -> b ∉ X.ex -> b ∉ ch := fun b o e hx hb => by
  rcases (hch b hb).1 with z | z
  ·exact hx z
  ·exact absurd (zAS (zAJ e) z) (zBG _)
 have cellK : ∀ x c, X.env.cells.lookup x = some c -> ∀ v, s.heap.IsCell c v -> h'.IsCell c v := fun x c e v ⟨o, ho, hd⟩ => by
  have nch : c ∉ ch := fun z => (hch c z).2.2.1 x c e rfl
  by_cases hc : c ∈ X.fs
  ·obtain ⟨sl, q⟩ := slot c o (I.cne x c e) hc nch ho (I.freeC x c e)
   exact ⟨_, q, hd⟩
  ·exact ⟨o, keep c o (I.cne x c e) hc nch ho (I.freeC x c e), hd⟩
 refine ⟨I.ok, I.os, hg, ⟨fun b o e n hb hx => ?_, fun b o e n hb hx => ?_, fun b o e n hx => ?_, fun b o e hx => ?_, fun b xs e => tups b xs (I.base.tups b xs e), fun b o xs e => frzs b o xs (I.base.frzs b o xs e), fun b ps e => ?_⟩, ?_, fun x c e => ?_, ?_, fun x c e => ?_, fun p hp => ?_, hok, I.len⟩
 ·exact keep b o (neL b o e) hb (neC b o e hx) (I.base.keep b o e n hb hx) (I.base.free b o e n hx)
 ·obtain ⟨sl, e1⟩ := I.base.slot b o e n hb hx
  obtain ⟨sl', e2⟩ := slot b _ (neL b o e) hb (neC b o e hx) e1 (I.base.free b o e n hx)
  exact ⟨sl', e2⟩
 ·obtain ⟨o', e1⟩ := I.base.there b o e hx
  exact free b o' (neC b o e hx) e1 (I.base.free b o e n hx)
 ·obtain ⟨o', e1⟩ := I.base.there b o e hx
  exact there b o' (neC b o e hx) e1
 ·obtain ⟨m1, e1⟩ := I.base.tbls b ps e
  obtain ⟨m2, e2⟩ := tbls b _ e1
  exact ⟨m1 ++ m2, by rw [e2, zCB]⟩
 ·obtain ⟨m, hn, hl⟩ := I.loc
  refine ⟨m, ns m hn, fun i x v e1 e2 e3 => ?_⟩
  obtain ⟨u, r, l⟩ := hl i x v e1 e2 e3
  refine ⟨u, r, ?_⟩
  rcases l with l | ⟨k, c, e, z⟩
  ·exact .inl l
  ·exact .inr ⟨k, c, e, cellK x c e _ z⟩
 ·obtain ⟨v, z⟩ := I.cell x c e
  exact ⟨v, cellK x c e v z⟩
 ·obtain ⟨m, ⟨o, _, _, ho, _⟩, _⟩ := I.loc
  exact free _ o (fun z => (hch _ z).2.1 rfl) ho I.free
 ·obtain ⟨v, o, ho, hd⟩ := I.cell x c e
  exact free c o (fun z => (hch c z).2.2.1 x c e rfl) ho (I.freeC x c e)
 ·obtain ⟨e, n, ne, nf, d⟩ := I.pin p hp
  have nch : p.1 ∉ ch := fun z => (hch p.1 z).2.2.2 p hp rfl
  exact ⟨keep p.1 p.2 ne nf nch e n, free p.1 p.2 nch e n, ne, nf, d⟩
theorem Inv.un {t' : Nat} (I : Inv X pins σ H s) (u : Un X.fs [] H H' s.heap h') (hok : HOk X.prog X.w H' h') : Inv X pins σ H' { s with heap := h', toks := t' } := by
 obtain ⟨m, ⟨o, es, ep, ho, r⟩, _⟩ := id I.loc
 obtain ⟨sl, hL⟩ := u.any ho I.free (by simp)
 exact I.step (g' := s.gens) (d' := s.drawn) (ch := []) (fun _ z => nomatch z) (fun b o _ hb _ e n => u.keep b o e n hb (by simp)) (fun b o _ hb _ e n => u.slot b o e n hb (by simp)) (fun b o _ e n => u.free b o e n (by simp)) (fun b o _ e => u.there b o e (by simp)) u.tups u.frzs u.tbls (fun m' hm => by
  obtain ⟨o', es', ep', ho', r'⟩ := hm
  rw [ho] at ho'; cases ho'
  exact ⟨_, es', ep', hL, r'⟩) hok I.bare
theorem Inv.call {g' : Array GenState} {t' : Nat} {d' : Drawn} {ch : List Addr} (I : Inv X pins σ H s) (u : Un (frs X.stack) ch H H' s.heap h') (hok : HOk X.prog X.w H' h') (hg : AllBare g')
  (hch : ∀ b ∈ ch, (b ∈ X.ex ∨ X.s₀.heap.objs.size <= b) /\ b ≠ X.env.locals /\ (∀ x c, X.env.cells.lookup x = some c -> c ≠ b) /\ ∀ p ∈ X.pn ++ pins, p.1 ≠ b) :
  Inv X pins σ H' { s with heap := h', gens := g', drawn := d', toks := t' } := by
 obtain ⟨m, ⟨o, es, ep, ho, r⟩, _⟩ := id I.loc
 obtain ⟨sl, hL⟩ := u.any ho I.free fun z => (hch _ z).2.1 rfl
 exact I.step (ch := ch) hch (fun b o hL hb hc e n => u.keep b o e n (fun z => (zAN.mp (I.stkSub b z)).elim hL hb) hc) (fun b o _ _ hc e n => u.any e n hc) (fun b o hc e n => u.free b o e n hc) (fun b o hc e => u.there b o e hc) u.tups u.frzs u.tbls (fun m' hm => by
  obtain ⟨o', es', ep', ho', r'⟩ := hm
  rw [ho] at ho'; cases ho'
  exact ⟨_, es', ep', hL, r'⟩) hok hg
theorem Inv.turned {t' : Nat} {it : Addr} (I : Inv X pins σ H s) (k : ∀ b o, b ≠ it -> s.heap.get? b = some o -> h'.get? b = some o) (hn : H it = none) (hL : it ≠ X.env.locals)
  (h1 : it ∈ X.ex ∨ X.s₀.heap.objs.size <= it) (h2 : ∀ x c, X.env.cells.lookup x = some c -> c ≠ it) (h3 : ∀ p ∈ X.pn ++ pins, p.1 ≠ it) : Inv X pins σ H { s with heap := h', toks := t' } := by
 have nit : ∀ b u, H b = some u -> b ≠ it := fun b u e z => by rw [z, hn] at e; cases e
 refine I.step (g' := s.gens) (d' := s.drawn) (ch := [it]) (fun b hb => ?_) (fun b o _ _ hc e _ => k b o (fun z => hc (by simp [z])) e) (fun b o _ _ hc e _ => ⟨o.slots, k b o (fun z => hc (by simp [z])) e⟩) (fun _ _ _ _ n => n)
  (fun b o hc e => ⟨o, k b o (fun z => hc (by simp [z])) e⟩) (fun _ _ e => e) (fun _ _ _ e => e) (fun b ps e => ⟨#[], by rw [e]; simp⟩) (fun m hm => ?_) (fun b u e => ?_) I.bare
 ·have e : b = it := by simpa using hb
  subst e
  exact ⟨h1, hL, h2, h3⟩
 ·obtain ⟨o, es, ep, ho, r⟩ := hm
  exact ⟨o, es, ep, k _ o (Ne.symm hL) ho, r⟩
 ·refine (I.hok b u e).stay (fun c v hc q => k c v ?_ q) (fun _ q => q) fun _ _ q => q
  rcases hc with z | z
  ·rw [z]; exact nit b u e
  ·exact nit c _ z
theorem Inv.tok (I : Inv X pins σ H s) (t : Nat) : Inv X pins σ H { s with toks := t } := I.un (h' := s.heap) (t' := t) Un.refl I.hok
theorem Inv.kept {t' : Nat} (I : Inv X pins σ H s) (k : ∀ b u, s.heap.get? b = some u -> h'.get? b = some u) : Inv X pins σ H { s with heap := h', toks := t' } := I.un (Un.kept k) (I.hok.kept k)
theorem Inv.laid {a : Addr} {o : HO} {t' : Nat} (I : Inv X pins σ H s) (k : ∀ b u, s.heap.get? b = some u -> h'.get? b = some u) (hp : s.heap.objs.size <= a) (new : aT X.prog X.w (upd H a o) h' a o) :
  Inv X pins σ (upd H a o) { s with heap := h', toks := t' } := I.un (Un.laid k hp (I.hok.fresh hp)) (I.hok.laid k hp new)
theorem Inv.write {x e : Addr} {o : HO} {t' : Nat} (I : Inv X pins σ H s) (mu : Mut (H x)) (he : e = x ∨ H e = some (.own x)) (k : ∀ b u, b ≠ e -> s.heap.get? b = some u -> h'.get? b = some u) (heo : ∃ u, h'.get? e = some u)
  (new : aT X.prog X.w (upd H x o) h' x o) : Inv X pins σ (upd H x o) { s with heap := h', toks := t' } := I.un (Un.write mu he k heo) (I.hok.write mu he k heo new)
theorem Inv.pins_of {pins' : List (Addr × Obj)} (I : Inv X pins σ H s) (h : ∀ p ∈ pins', s.heap.get? p.1 = some p.2 /\ H p.1 = none /\ p.1 ≠ X.env.locals /\ p.1 ∉ X.fs /\ ∀ v, p.2.data ≠ .cell v) : Inv X pins' σ H s :=
 ⟨I.ok, I.os, I.bare, I.base, I.loc, I.cell, I.free, I.freeC, fun p hp => (zAW.mp hp).elim (fun z => I.pin p (zBj _ z)) (h p), I.hok, I.len⟩
theorem qF {N : List Str} (hN : N.Nodup) {i j : Nat} {x : Str} (a : N[i]? = some x) (b : N[j]? = some x) : i = j := by
 obtain ⟨h1, e1⟩ := zAF.mp a
 obtain ⟨h2, e2⟩ := zAF.mp b
 exact (List.getElem_inj hN).mp (e1.trans e2.symm)
theorem oH {M : Model} {A : Around} {E : Value -> Shared -> Prop} {i : Nat} {x : Str} {v : V} {u : Value} {Q : Unit -> Shared -> Prop} (I : Inv X pins σ H s) (hN : X.N.Nodup) (hi : X.N[i]? = some x) (hx : Loc X.env.scope x) (r : RelV v u)
  (h : ∀ s', Inv X pins (σ.set i (some v)) H s' -> (∃ a, Heap.SameBut a s.heap s'.heap /\ (a = X.env.locals ∨ X.env.cells.lookup x = some a)) -> Q () s') (hf : X.fn x = true ∨ X.env.scope.names.lookup x = some .local := by first | exact .inl rfl | exact .inr rfl | assumption) : wpAny M A (storeName X.env x u) Q E s := by
 obtain ⟨m, hn, hl⟩ := id I.loc
 have hcls : (X.env.scope.kind == .class || (X.env.scope.kind == .module && X.env.locals != X.env.globals)) = false := by rw [I.ok.kind]; rfl
 have hiσ : i < σ.length := by rw [I.len]; exact (zAF.mp hi).1
 have cne := I.cne
 have tracked : ∀ {a : Addr} {h' : Heap}, (∃ o, s.heap.get? a = some o /\ H a = none) -> Heap.SameBut a s.heap h' -> HOk X.prog X.w H h' := fun {a h'} ha hs b ob e => by
  obtain ⟨_, _, hfree⟩ := ha
  refine (I.hok b ob e).stay (fun c w' hc q => (hs.2 c ?_).trans q) (fun _ q => q) fun _ _ q => q
  rintro rfl
  rcases hc with rfl | hc
  ·rw [hfree] at e; cases e
  ·rw [hfree] at hc; cases hc
 rcases hx with hk | hk
 ·refine wpAny_storeName_local hk hn (fun h' hn' hs => ?_) hcls
  obtain ⟨oL, _, _, hoL, _⟩ := id hn
  refine h _ ⟨I.ok, I.os, I.bare, ⟨fun b o e n hb hx => ?_, fun b o e n hb hx => ?_, I.base.free, fun b o e hx => ?_, I.base.tups, I.base.frzs, I.base.tbls⟩, ⟨_, hn', fun j y v' e1 e2 e3 => ?_⟩, fun y c e => ?_, I.free, I.freeC, fun p hp => ?_, tracked ⟨oL, hoL, I.free⟩ hs, by simpa using I.len⟩ ⟨_, hs, .inl rfl⟩
  ·exact (hs.2 b (zAk (zAS (zAJ e) I.ok.above))).trans (I.base.keep b o e n hb hx)
  ·obtain ⟨sl, e1⟩ := I.base.slot b o e n hb hx
   exact ⟨sl, (hs.2 b (zAk (zAS (zAJ e) I.ok.above))).trans e1⟩
  ·obtain ⟨o', e1⟩ := I.base.there b o e hx
   exact ⟨o', (hs.2 b (zAk (zAS (zAJ e) I.ok.above))).trans e1⟩
  ·by_cases hj : j = i
   ·subst hj
    rw [hi] at e1; cases e1
    rw [zAt hiσ] at e2
    cases e2
    exact ⟨u, r, .inl ⟨hk, by simp⟩⟩
   ·rw [zAe (Ne.symm hj)] at e2
    obtain ⟨u', r', q⟩ := hl j y v' e1 e2 e3
    refine ⟨u', r', ?_⟩
    rcases q with ⟨k, e⟩ | ⟨k, c, e, z⟩
    ·refine .inl ⟨k, ?_⟩
     have : y ≠ x := fun e => hj (qF hN e1 (e ▸ hi))
     simp [this, e]
    ·exact .inr ⟨k, c, e, z.sameBut hs (cne y c e)⟩
  ·obtain ⟨w', z⟩ := I.cell y c e
   exact ⟨w', z.sameBut hs (cne y c e)⟩
  ·obtain ⟨e, n, ne, nf, d⟩ := I.pin p hp
   exact ⟨(hs.2 p.1 ne).trans e, n, ne, nf, d⟩
 ·have hfn : X.fn x = true := by
   rcases hf with z | z
   ·exact z
   ·rw [z] at hk; cases hk
  obtain ⟨c, hc⟩ := I.ok.has x (.inl hk)
  obtain ⟨w', z⟩ := I.cell x c hc
  refine wpAny_storeName_cell I.ok.kind hk hc z (fun h' hc' hs => ?_)
  obtain ⟨oc, hoc, hocd⟩ := id z
  refine h { s with heap := h' } ⟨I.ok, I.os, I.bare, ⟨fun b o e n hb hx => ?_, fun b o e n hb hx => ?_, I.base.free, fun b o e hx => ?_, I.base.tups, I.base.frzs, I.base.tbls⟩, ⟨m, hn.sameBut hs (Ne.symm (cne x c hc)), fun j y v' e1 e2 e3 => ?_⟩, fun y c' e => ?_, I.free, I.freeC, fun p hp => ?_, tracked ⟨oc, hoc, I.freeC x c hc⟩ hs, by simpa using I.len⟩ ⟨c, hs, .inr hc⟩
  ·exact (hs.2 b (zAk (zAS (zAJ e) (I.ok.cab x c hfn hc)))).trans (I.base.keep b o e n hb hx)
  ·obtain ⟨sl, e1⟩ := I.base.slot b o e n hb hx
   exact ⟨sl, (hs.2 b (zAk (zAS (zAJ e) (I.ok.cab x c hfn hc)))).trans e1⟩
  ·obtain ⟨o', e1⟩ := I.base.there b o e hx
   exact ⟨o', (hs.2 b (zAk (zAS (zAJ e) (I.ok.cab x c hfn hc)))).trans e1⟩
  ·by_cases hj : j = i
   ·subst hj
    rw [hi] at e1; cases e1
    rw [zAt hiσ] at e2
    cases e2
    exact ⟨u, r, .inr ⟨.inl hk, c, hc, hc'⟩⟩
   ·rw [zAe (Ne.symm hj)] at e2
    obtain ⟨u', r', q⟩ := hl j y v' e1 e2 e3
    refine ⟨u', r', ?_⟩
    rcases q with q | ⟨k, c', e, z'⟩
    ·exact .inl q
    ·refine .inr ⟨k, c', e, z'.sameBut hs ?_⟩
     rintro rfl
     exact hj (qF hN e1 (I.ok.inj _ _ _ e hc ▸ hi))
  ·by_cases hcc : c' = c
   ·subst hcc; exact ⟨_, hc'⟩
   ·obtain ⟨w2, z2⟩ := I.cell y c' e
    exact ⟨w2, z2.sameBut hs hcc⟩
  ·obtain ⟨e, n, ne, nf, d⟩ := I.pin p hp
   refine ⟨(hs.2 p.1 ?_).trans e, n, ne, nf, d⟩
   intro q
   rw [q, hoc] at e
   have q' : oc = p.2 := zAd e
   exact d w' (by rw [<- q']; exact hocd)
theorem gG {M : Model} {A : Around} {E : Value -> Shared -> Prop} {i : Nat} {x : Str} {v : V} {u : Value} {Q : Unit -> Shared -> Prop} (I : Inv X pins σ H s) (hN : X.N.Nodup) (hi : X.N[i]? = some x) (hx : Loc X.env.scope x) (r : RelV v u)
  (h : ∀ s', Inv X pins (σ.set i (some v)) H s' -> Q () s') (hf : X.fn x = true ∨ X.env.scope.names.lookup x = some .local := by first | exact .inl rfl | exact .inr rfl | assumption) : wpAny M A (storeName X.env x u) Q E s :=
 oH I hN hi hx r (fun s' I' _ => h s' I') hf
theorem Inv.call' {s' : Shared} {ch : List Addr} (I : Inv X pins σ H s) (ho : s'.os = s.os) (u : Un (frs X.stack) ch H H' s.heap s'.heap) (hok : HOk X.prog X.w H' s'.heap) (hg : AllBare s'.gens)
  (hch : ∀ b ∈ ch, (b ∈ X.ex ∨ X.s₀.heap.objs.size <= b) /\ b ≠ X.env.locals /\ (∀ x c, X.env.cells.lookup x = some c -> c ≠ b) /\ ∀ p ∈ X.pn ++ pins, p.1 ≠ b) : Inv X pins σ H' s' := by
 obtain ⟨h', g', d', t', o'⟩ := s'
 have e : o' = s.os := ho
 subst e
 exact I.call (g' := g') (t' := t') (d' := d') u hok hg hch
end
abbrev XK := Value -> Option Addr -> Hp -> Prop
abbrev St := List (Option V)
abbrev VK := V -> Hp -> Prop
abbrev TE := St -> Hp -> VK -> Prop
abbrev TT := St -> Hp -> (Bool -> Hp -> Prop) -> Prop
abbrev TA := St -> Hp -> (List V -> Hp -> Prop) -> Prop
structure Ends where
 nx : St -> Hp -> Prop
 rt : VK
 bk : St -> Hp -> Prop := fun _ _ => False
 ct : St -> Hp -> Prop := fun _ _ => False
abbrev TS := Ends -> St -> Hp -> Prop
def EP (X : Cx) (pins : List (Addr × Obj)) (σ : St) (Q : VK) (u : Value) (s' : Shared) : Prop := ∃ v H', Inv X pins σ H' s' /\ RelV v u /\ Q v H'
def AP (X : Cx) (pins : List (Addr × Obj)) (σ : St) (Q : List V -> Hp -> Prop) (us : List Value) (s' : Shared) : Prop := ∃ vs H', Inv X pins σ H' s' /\ Vals vs us /\ Q vs H'
def SP (X : Cx) (pins : List (Addr × Obj)) (D : Ends) (f : Flow) (s' : Shared) : Prop :=
 match f with
 | .next => ∃ σ' H', Inv X pins σ' H' s' /\ D.nx σ' H'
 | .brk => ∃ σ' H', Inv X pins σ' H' s' /\ D.bk σ' H'
 | .cont => ∃ σ' H', Inv X pins σ' H' s' /\ D.ct σ' H'
 | .ret u => ∃ v σ' H', Inv X pins σ' H' s' /\ RelV v u /\ D.rt v H'
def PE (X : Cx) (e : Expr) (t : TE) : Prop :=
 ∀ (pins : List (Addr × Obj)) (s : Shared) (σ : St) (H : Hp) (Q : VK), Inv X pins σ H s -> t σ H Q -> wpAny (model X.prog X.w) X.A (eval e X.env) (EP X pins σ Q) X.xe s
def PA (X : Cx) (es : List Expr) (t : TA) : Prop :=
 ∀ (pos : Pos) (pins : List (Addr × Obj)) (s : Shared) (σ : St) (H : Hp) (Q : List V -> Hp -> Prop), Inv X pins σ H s -> t σ H Q -> wpAny (model X.prog X.w) X.A (spliced (backTo pos (starEach es X.env))) (AP X pins σ Q) X.xe s
def PS (X : Cx) (st : Stmt) (t : TS) : Prop :=
 ∀ (pins : List (Addr × Obj)) (s : Shared) (σ : St) (H : Hp) (D : Ends), Inv X pins σ H s -> t D σ H -> wpAny (model X.prog X.w) X.A (exec st X.env) (SP X pins D) X.xe s
def PSs (X : Cx) (st : List Stmt) (t : TS) : Prop :=
 ∀ (pins : List (Addr × Obj)) (s : Shared) (σ : St) (H : Hp) (D : Ends), Inv X pins σ H s -> t D σ H -> wpAny (model X.prog X.w) X.A (execs st X.env) (SP X pins D) X.xe s
theorem thn {α : Type} {t : Sem α} {Q Q' : α -> Shared -> Prop} {M : Model} {A : Around} {E : Value -> Shared -> Prop} {s : Shared} (h : wpAny M A t Q E s) (hQ : ∀ a s, Q a s -> Q' a s) : wpAny M A t Q' E s := wpAny_mono h hQ fun _ _ x => x
end L2
namespace L2
open PySem PySem.Spec PyProof.Rows
section
variable {X : Cx}
def A7 (i : Nat) : TE := fun σ H Q => ∃ v, σ[i]? = some (some v) /\ Q v H
def tC (v : V) : TE := fun _ H Q => Q v H
theorem cX {i : Nat} {x : Str} {pos : Pos} (hN : X.N[i]? = some x) (hv : Vis X.env.scope x) (hd : (x == ("__debug__" : Str)) = false := by decide) (hcd : (x == ("__classdict__" : Str)) = false := by decide) : PE X (.Name x pos) (A7 i) := by
 intro pins s σ H Q I h
 obtain ⟨v, e, h⟩ := h
 obtain ⟨m, hn, hl⟩ := I.loc
 obtain ⟨u, r, l⟩ := hl i x v hN e hv
 have fin : EP X pins σ Q u s := ⟨v, H, I, r, h⟩
 rcases l with ⟨hk, hm⟩ | ⟨hk, c, hc, hcell⟩
 ·exact wpAny_Name (wpAny_loadName_local I.ok.kind hk hn hm fin) hd
 ·rcases hk with hk | hk
  ·exact wpAny_Name (wpAny_loadName_cell I.ok.kind hk hc hcell fin) hd
  ·exact wpAny_Name (wpAny_loadName_free I.ok.kind hk hc hcell fin hcd) hd
theorem AS {i j pos} : PE X (.Constant (.int i) j pos) (tC (.int i)) := fun _ _ _ H _ I h => wpAny_Constant_int ⟨.int i, H, I.tok _, ⟨_, rfl⟩, h⟩
theorem Br {b j pos} : PE X (.Constant (.bool b) j pos) (tC (.bl b)) := fun _ _ _ H _ I h => Constant_bool ⟨.bl b, H, I, rfl, h⟩
theorem AU {j pos} : PE X (.Constant .none j pos) (tC .non) := fun _ _ _ H _ I h => Constant_none ⟨.non, H, I, rfl, h⟩
def Gl (X : Cx) (x : Str) : Prop := X.env.kindOf x = some .globalImplicit
theorem zf {E : Value -> Shared -> Prop} {pins : List (Addr × Obj)} {s : Shared} {σ : St} {H : Hp} {x : Str} {u : Value} {pos : Pos} {Q : Value -> Shared -> Prop} (I : Inv X pins σ H s) (hg : Gl X x) (hm : X.mg x = some u) (h : Q u s)
  (hd : (x == ("__debug__" : Str)) = false := by decide) : wpAny (model X.prog X.w) X.A (eval (.Name x pos) X.env) Q E s :=
 Calls.Name_function_global I.ok.kind hg (Calls.loadGlobal_global (by rw [I.ok.glob]; exact I.mod.glob.keeps I.bk) hm h) hd
theorem dJ {E : Value -> Shared -> Prop} {pins : List (Addr × Obj)} {s : Shared} {σ : St} {H : Hp} {x : Str} {u : Value} {pos : Pos} {Q : Value -> Shared -> Prop} (I : Inv X pins σ H s) (hg : Gl X x) (hm : X.mg x = none) (hv : bootBuiltins x = some u) (h : Q u s)
  (hn : x ≠ "__name__" := by decide) (hd : (x == ("__debug__" : Str)) = false := by decide) : wpAny (model X.prog X.w) X.A (eval (.Name x pos) X.env) Q E s := by
 obtain ⟨mb, h1, h2⟩ := I.mod.blt
 exact Calls.Name_function_global I.ok.kind hg (Calls.loadGlobal_builtin (by rw [I.ok.glob]; exact I.mod.glob.keeps I.bk) hm (by rw [I.ok.blt]; exact h1.keeps I.bk) ((h2 x hn).trans hv) h) hd
theorem zG {x : Str} {v : V} {u : Value} {pos : Pos} (hg : Gl X x) (hm : X.mg x = none) (hv : bootBuiltins x = some u) (r : RelV v u) (hn : x ≠ "__name__" := by decide) (hd : (x == ("__debug__" : Str)) = false := by decide) : PE X (.Name x pos) (tC v) :=
 fun _ _ _ H _ I h => dJ I hg hm hv ⟨v, H, I, r, h⟩ hn hd
variable {a b : Expr} {ta tb : TE} {pos : Pos}
theorem qE (b : Expr) {op : CmpOp} (h : op ≠ .In) (h2 : op ≠ .NotIn) : behindInMarks op b = false := by
 have e1 : (op == CmpOp.In) = false := by cases op <;> first | rfl | exact absurd rfl h
 have e2 : (op == CmpOp.NotIn) = false := by cases op <;> first | rfl | exact absurd rfl h2
 cases b <;> simp [behindInMarks, e1, e2]
variable {tA tB' : TT} {rest : List Expr}
end
end L2
namespace L2
open PySem PySem.Spec PyProof.Rows
def SqL (K : PySem.W.Frag) (H : Hp) (a : Addr) (xs : List V) : Prop :=
 Rd H a (.lst xs) ∨
  ∃ (o : Obj) (its : Array Value) (n : Nat), K.lookup a = some o /\ o.cls = .type "list" /\ o.dict = none /\ o.data = .seq its n /\ its.size <= sizeLine /\ Vals xs its.toList
def SqT (K : PySem.W.Frag) (H : Hp) (a : Addr) (xs : List V) : Prop :=
 Rd H a (.tup xs) ∨
  ∃ (o : Obj) (its : Array Value) (n : Nat), K.lookup a = some o /\ o.cls = .type "tuple" /\ o.data = .seq its n /\ its.size <= sizeLine /\ Vals xs its.toList
def BK : Value -> Option V
 | .none => some .non
 | .bool b => some (.bl b)
 | .int i _ => some (.int i)
 | .str x _ => some (.str x)
 | .bytes b _ => some (.byt b)
 | .float b _ => some (.flt b)
 | .ref a => some (.ref a)
 | .type n => some (.ty n)
 | _ => none
theorem RelV.abs {x : V} {u : Value} (r : RelV x u) : BK u = some x := by
 cases x with
 | non => cases r; rfl
 | bl _ => cases r; rfl
 | int _ => obtain ⟨t, rfl⟩ := r; rfl
 | str _ => obtain ⟨t, rfl⟩ := r; rfl
 | byt _ => obtain ⟨t, rfl⟩ := r; rfl
 | flt _ => obtain ⟨t, rfl⟩ := r; rfl
 | ref _ => cases r; rfl
 | ty _ => cases r; rfl
theorem RelV.inj {x y : V} {u : Value} (r : RelV x u) (q : RelV y u) : x = y := zAd (r.abs.symm.trans q.abs)
theorem Vals.inj : ∀ {xs ys : List V} {us : List Value}, Vals xs us -> Vals ys us -> xs = ys
 | _, _, _, .nil, .nil => rfl
 | _, _, _, .cons r t, .cons r' t' => by rw [r.inj r', Vals.inj t t']
section
variable {X : Cx} {pins : List (Addr × Obj)} {σ : St} {H : Hp} {s : Shared} {a : Addr} {xs ys : List V}
theorem SqL.of {K : PySem.W.Frag} (h : H a = some (.lst xs)) : SqL K H a xs := .inl (.inl h)
theorem SqT.of {K : PySem.W.Frag} (h : H a = some (.tup xs)) : SqT K H a xs := .inl (.inl h)
theorem Inv.list (I : Inv X pins σ H s) (h : SqL X.K H a xs) : ∃ its : List Value, Vals xs its /\ PlainL s.heap a its.toArray /\ xs.length <= sizeLine := by
 rcases h with h | ⟨o, its, n, hk, hc, hd, hs, hz, r⟩
 ·obtain ⟨z, its, n, r, e⟩ := h.ok I.hok
  exact ⟨its, r, ⟨_, n, e, rfl, rfl, rfl⟩, z⟩
 ·refine ⟨its.toList, r, ⟨o, n, I.kIn a o hk, hc, hd, by simpa using hs⟩, ?_⟩
  have e := r.length
  simp only [zAT] at e
  omega
theorem Inv.tuple (I : Inv X pins σ H s) (h : SqT X.K H a xs) : ∃ its : List Value, Vals xs its /\ IsTup s.heap a its.toArray /\ xs.length <= sizeLine := by
 rcases h with h | ⟨o, its, n, hk, hc, hs, hz, r⟩
 ·obtain ⟨z, its, r, p⟩ := h.ok I.hok
  exact ⟨its, r, p, z⟩
 ·refine ⟨its.toList, r, ⟨o, I.kIn a o hk, hc, n, by simpa using hs⟩, ?_⟩
  have e := r.length
  simp only [zAT] at e
  omega
theorem Inv.list_inj (I : Inv X pins σ H s) (h : SqL X.K H a xs) (h' : SqL X.K H a ys) : xs = ys := by
 obtain ⟨its, r, ⟨o, n, e, _, _, d⟩, _⟩ := I.list h
 obtain ⟨its', r', ⟨o', n', e', _, _, d'⟩, _⟩ := I.list h'
 rw [e] at e'; cases e'
 rw [d] at d'
 injection d' with d1 _
 have : its = its' := by simpa using congrArg Array.toList d1
 subst this
 exact r.inj r'
theorem Inv.tuple_inj (I : Inv X pins σ H s) (h : SqT X.K H a xs) (h' : SqT X.K H a ys) : xs = ys := by
 obtain ⟨its, r, ⟨o, e, _, n, d⟩, _⟩ := I.tuple h
 obtain ⟨its', r', ⟨o', e', _, n', d'⟩, _⟩ := I.tuple h'
 rw [e] at e'; cases e'
 rw [d] at d'
 injection d' with d1 _
 have : its = its' := by simpa using congrArg Array.toList d1
 subst this
 exact r.inj r'
end
abbrev Cx.wish (X : Cx) (E : Value -> Shared -> Prop) : Cx := { X with xe := E }
abbrev Cx.nox (X : Cx) : Cx := X.wish fun _ _ => False
theorem Cx.Ok.wish {X : Cx} (ok : X.Ok) (E : Value -> Shared -> Prop) : (X.wish E).Ok :=
 ⟨ok.mod, ok.kind, ok.glob, ok.blt, ok.above, ok.inj, ok.has, ok.cab, ok.hd, ok.frames, ok.stk, ok.exf, ok.bs, ok.bsz, ok.noex, ok.exfs, ok.funs, ok.frf⟩
theorem Cx.Ok.unwish {X : Cx} {E : Value -> Shared -> Prop} (ok : (X.wish E).Ok) : X.Ok :=
 ⟨ok.mod, ok.kind, ok.glob, ok.blt, ok.above, ok.inj, ok.has, ok.cab, ok.hd, ok.frames, ok.stk, ok.exf, ok.bs, ok.bsz, ok.noex, ok.exfs, ok.funs, ok.frf⟩
section
variable {X : Cx} {pins : List (Addr × Obj)} {σ : St} {H : Hp} {s : Shared} {E : Value -> Shared -> Prop}
theorem Inv.wish (I : Inv X pins σ H s) (E : Value -> Shared -> Prop) : Inv (X.wish E) pins σ H s := ⟨I.ok.wish E, I.os, I.bare, I.base, I.loc, I.cell, I.free, I.freeC, I.pin, I.hok, I.len⟩
theorem Inv.unwish (I : Inv (X.wish E) pins σ H s) : Inv X pins σ H s := ⟨I.ok.unwish, I.os, I.bare, I.base, I.loc, I.cell, I.free, I.freeC, I.pin, I.hok, I.len⟩
end
section
variable {X : Cx} {st : Stmt} {rest : List Stmt} {t u : TS} {e : Expr} {te : TE} {pos : Pos}
theorem Inv.quiet {pins : List (Addr × Obj)} {σ : St} {H : Hp} {s : Shared} (I : Inv X pins σ H s) : interactive X.env = false := by simp [interactive, I.ok.kind]
def BC (te : TE) : TS := fun D σ H => te σ H fun _ H1 => D.nx σ H1
theorem tJ (he : PE X e te) (hs : swapsWith e none pos.line X.env = pure false := by rfl) : PS X (.Expr e pos) (BC te) := by
 intro pins s σ H D I h
 exact wpAny_Expr_any (thn (he pins s σ H _ I h) fun v s1 ⟨x, H1, I1, r1, q1⟩ => ⟨σ, H1, I1, q1⟩) I.quiet hs
end
abbrev BJ := V -> V -> V -> Hp -> (Hp -> Prop) -> Prop
def BI (X : Cx) (t : BJ) : Prop :=
 ∀ (pins : List (Addr × Obj)) (s : Shared) (σ : St) (H : Hp) (o i v : V) (ov iv u : Value) (Q : Hp -> Prop), Inv X pins σ H s -> RelV o ov -> RelV i iv -> RelV v u -> t o i v H Q →
  wpAny (model X.prog X.w) X.A (setItem ov iv u) (fun _ s' => ∃ H', Inv X pins σ H' s' /\ Q H') X.xe s
section
variable {X : Cx} {pos : Pos}
end
section
variable {X : Cx} {pos : Pos}
end
structure It where
 go : Nat -> Hp -> Prop
 yld : Nat -> Hp -> V -> Hp -> Prop
 stop : Nat -> Hp -> Prop
def dF (X : Cx) (pins : List (Addr × Obj)) (H : Hp) (b : Addr) : Prop :=
 H b = none /\ b ≠ X.env.locals /\ b ∉ X.fs /\ (b ∈ X.ex ∨ X.s₀.heap.objs.size <= b) /\ (∀ x c, X.env.cells.lookup x = some c -> c ≠ b) /\ ∀ p ∈ X.pn ++ pins, p.1 ≠ b
theorem Inv.fpOk {X : Cx} {pins : List (Addr × Obj)} {σ : St} {H H' : Hp} {s : Shared} {b : Addr} (I : Inv X pins σ H s) (hb : s.heap.objs.size <= b) (hn : H' b = none) : dF X pins H' b := by
 refine ⟨hn, Nat.ne_of_gt (zAS I.lt hb), I.nofs hb, .inr (zAX I.sz hb), fun x c e z => ?_, fun p hp z => ?_⟩
 ·obtain ⟨v, q⟩ := I.cell x c e
  exact absurd (zAS q.lt (by rw [z]; exact hb)) (zBG _)
 ·exact absurd (zAS (zAJ (I.pin p hp).1) (by rw [z]; exact hb)) (zBG _)
structure Turn (P : Program) (w : World) (K : PySem.W.Frag) (tg : Expr) (J : It) (fp : List Addr) (it : Addr) (tn : Nat -> Heap -> Prop) : Prop where
 mem : it ∈ fp
 obj : ∀ i h, tn i h -> ∀ b ∈ fp, ∃ o, h.get? b = some o /\ ∀ v, o.data ≠ .cell v
 keep : ∀ i h h', tn i h -> (∀ b ∈ fp, ∀ o, h.get? b = some o -> h'.get? b = some o) -> tn i h'
 item : ∀ (X : Cx), X.prog = P -> X.w = w -> X.K = K -> X.calm = true -> ∀ (i : Nat) (pins : List (Addr × Obj)) (s : Shared) (σ : St) (H : Hp) (E : Value -> Shared -> Prop), Inv X pins σ H s -> (∀ b ∈ fp, dF X pins H b) -> tn i s.heap -> J.go i H →
  wpAny (model P w) X.A (pyNext (.ref it)) (fun r s1 => ∃ u, r = some u ∧
   wpAny (model P w) X.A (letOwnedTupleGo tg (.ref it) u) (fun _ s2 => ∃ x H', Inv X pins σ H' s2 /\ RelV x u /\ J.yld i H x H' /\ tn (i + 1) s2.heap /\ ∀ b ∈ fp, H' b = none) E s1) E s
 done : ∀ (X : Cx), X.prog = P -> X.w = w -> X.K = K -> X.calm = true -> ∀ (i : Nat) (pins : List (Addr × Obj)) (s : Shared) (σ : St) (H : Hp) (E : Value -> Shared -> Prop), Inv X pins σ H s -> (∀ b ∈ fp, dF X pins H b) -> tn i s.heap -> J.stop i H →
  wpAny (model P w) X.A (pyNext (.ref it)) (fun r s1 => r = none /\ Inv X pins σ H s1) E s
 self : ∀ (A : Around) (i : Nat) (s : Shared) (Q : Value -> Shared -> Prop) (E : Value -> Shared -> Prop), tn i s.heap -> Q (.ref it) s -> wpAny (model P w) A (pyIter (.ref it)) Q E s
abbrev TI := St -> Hp -> (It -> Hp -> Prop) -> Prop
def PIE (X : Cx) (pins : List (Addr × Obj)) (σ : St) (tg : Expr) (R : It -> Hp -> Prop) (itv : Value) (s2 : Shared) : Prop :=
 ∃ (it : Addr) (fp : List Addr) (tn : Nat -> Heap -> Prop) (J : It) (H' : Hp), itv = .ref it /\ Inv X pins σ H' s2 /\ Turn X.prog X.w X.K tg J fp it tn /\ tn 0 s2.heap /\ (∀ b ∈ fp, dF X pins H' b) /\ R J H'
def PI (X : Cx) (tg iter : Expr) (wi : TI) : Prop :=
 ∀ (pins : List (Addr × Obj)) (s : Shared) (σ : St) (H : Hp) (R : It -> Hp -> Prop), Inv X pins σ H s -> wi σ H R →
  wpAny (model X.prog X.w) X.A (eval iter X.env) (fun v s1 => wpAny (model X.prog X.w) X.A (pyIter v) (PIE X pins σ tg R) X.xe s1) X.xe s
theorem uI {M : Model} {A : Around} {E : Value -> Shared -> Prop} {s : Shared} {tg : Expr} {it : Addr} {u : Value} {o : Obj} {n : String} {vs : Array Value} {Q : Unit -> Shared -> Prop} (ho : s.heap.get? it = some o) (hc : o.cls = .type n) (hd : o.data = .fields vs)
    (hn : ["enumerate", "zip", "dict_itemiterator", "dict_reverseitemiterator", "odict_iterator", "itertools.zip_longest", "itertools.pairwise"].contains n = false) (hQ : Q () s) : wpAny M A (letOwnedTupleGo tg (.ref it) u) Q E s := by
  unfold letOwnedTupleGo
  cases tg <;> first
    | exact wpAny_pure hQ
    | (cases u <;> first
        | exact wpAny_pure hQ
        | (refine wpAny_bind (wpAny_load ho ?_)
           rw [hc, hd]
           show wpAny M A (if (["enumerate", "zip", "dict_itemiterator", "dict_reverseitemiterator", "odict_iterator", "itertools.zip_longest", "itertools.pairwise"].contains n && vs[0]? == some (rawInt _)) = true then _ else _) Q E s
           rw [if_neg (by intro h; rw [hn, Bool.false_and] at h; cases h)]
           exact wpAny_pure hQ))
def Itl (K : PySem.W.Frag) (a : Addr) : It :=
 ⟨fun i H => ∃ xs x, SqL K H a xs /\ xs[i]? = some x, fun i H x H' => H' = H /\ ∀ xs, SqL K H a xs -> xs[i]? = some x, fun i H => ∃ xs, SqL K H a xs /\ xs.length <= i⟩
def Itt (K : PySem.W.Frag) (a : Addr) : It :=
 ⟨fun i H => ∃ xs x, SqT K H a xs /\ xs[i]? = some x, fun i H x H' => H' = H /\ ∀ xs, SqT K H a xs -> xs[i]? = some x, fun i H => ∃ xs, SqT K H a xs /\ xs.length <= i⟩
theorem wX {P : Program} {w : World} {K : PySem.W.Frag} {tg : Expr} (a it : Addr) : Turn P w K tg (Itl K a) [it] it (fun i h => h.IsListIter it a i) where
 mem := by simp
 obj := fun i h st b hb => by
  have e : b = it := by simpa using hb
  subst e
  obtain ⟨o, e, c, d⟩ := st
  exact ⟨o, e, fun v z => by rw [d] at z; cases z⟩
 keep := fun i h h' st k => st.at fun o e => k it (by simp) o e
 item := by
  intro X hP hw hK hc i pins s σ H E I hf st hg
  subst hP hw hK
  obtain ⟨xs, x, hq, hx⟩ := hg
  obtain ⟨its, rv, p, hz⟩ := I.list hq
  obtain ⟨u, hu, ru⟩ := rv.get hx
  obtain ⟨f0, f1, f2, f3, f4, f5⟩ := hf it (by simp)
  refine wpAny_pyNext_list_item st p.isList (x := u) (by simpa using hu) fun h' st' sb => ?_
  have I1 : Inv X pins σ H { s with heap := h' } := I.turned (t' := s.toks) (fun b o hb e => (sb.2 b hb).trans e) f0 f1 f3 f4 f5
  obtain ⟨o, e, c, d⟩ := id st'
  exact ⟨u, rfl, uI (s := { s with heap := h' }) e c d (by decide) ⟨x, H, I1, ru, ⟨rfl, fun ys hy => by rw [I.list_inj hy hq]; exact hx⟩, st', fun b hb => (hf b hb).1⟩⟩
 done := by
  intro X hP hw hK hc i pins s σ H E I hf st hg
  subst hP hw hK
  obtain ⟨xs, hq, hx⟩ := hg
  obtain ⟨its, rv, p, hz⟩ := I.list hq
  obtain ⟨f0, f1, f2, f3, f4, f5⟩ := hf it (by simp)
  have hl := rv.length
  exact wpAny_pyNext_list_end (I.ok.hd hc) st p.isList (by simp; omega) fun h' eb => ⟨rfl, I.turned (t' := s.toks) (fun b o hb e => eb b o hb e) f0 f1 f3 f4 f5⟩
 self := fun _ _ _ _ _ st h => wpAny_pyIter_listiter st h
theorem vc {P : Program} {w : World} {K : PySem.W.Frag} {tg : Expr} (a it : Addr) : Turn P w K tg (Itt K a) [it] it (fun i h => h.IsTupleIter it a i) where
 mem := by simp
 obj := fun i h st b hb => by
  have e : b = it := by simpa using hb
  subst e
  obtain ⟨o, e, c, d⟩ := st
  exact ⟨o, e, fun v z => by rw [d] at z; cases z⟩
 keep := fun i h h' st k => st.at fun o e => k it (by simp) o e
 item := by
  intro X hP hw hK hc i pins s σ H E I hf st hg
  subst hP hw hK
  obtain ⟨xs, x, hq, hx⟩ := hg
  obtain ⟨its, rv, p, hz⟩ := I.tuple hq
  obtain ⟨u, hu, ru⟩ := rv.get hx
  obtain ⟨f0, f1, f2, f3, f4, f5⟩ := hf it (by simp)
  refine wpAny_pyNext_tuple_item st (show s.heap.IsTuple a its.toArray from p) (x := u) (by simpa using hu) fun h' st' sb => ?_
  have I1 : Inv X pins σ H { s with heap := h' } := I.turned (t' := s.toks) (fun b o hb e => (sb.2 b hb).trans e) f0 f1 f3 f4 f5
  obtain ⟨o, e, c, d⟩ := id st'
  exact ⟨u, rfl, uI (s := { s with heap := h' }) e c d (by decide) ⟨x, H, I1, ru, ⟨rfl, fun ys hy => by rw [I.tuple_inj hy hq]; exact hx⟩, st', fun b hb => (hf b hb).1⟩⟩
 done := by
  intro X hP hw hK hc i pins s σ H E I hf st hg
  subst hP hw hK
  obtain ⟨xs, hq, hx⟩ := hg
  obtain ⟨its, rv, p, hz⟩ := I.tuple hq
  obtain ⟨f0, f1, f2, f3, f4, f5⟩ := hf it (by simp)
  have hl := rv.length
  exact wpAny_pyNext_tuple_end (I.ok.hd hc) st (show s.heap.IsTuple a its.toArray from p) (by simp; omega) fun h' eb => ⟨rfl, I.turned (t' := s.toks) (fun b o hb e => eb b o hb e) f0 f1 f3 f4 f5⟩
 self := fun _ _ _ _ _ st h => wpAny_pyIter_tupleiter st h
end L2
namespace L2
open PySem PySem.Spec PyProof.Rows
section
variable {X : Cx} {tg : Expr}
def Bi (K : PySem.W.Frag) (tl : TE) : TI := fun σ H R => tl σ H fun x H1 => ∃ a, x = .ref a /\ (∃ xs, SqL K H1 a xs) /\ R (Itl K a) H1
def BO (K : PySem.W.Frag) (tl : TE) : TI := fun σ H R => tl σ H fun x H1 => ∃ a, x = .ref a /\ (∃ xs, SqT K H1 a xs) /\ R (Itt K a) H1
theorem zI {l : Expr} {tl : TE} (hl : PE X l tl) : PI X tg l (Bi X.K tl) := by
 intro pins s σ H R I h
 refine thn (hl pins s σ H _ I h) fun v s1 ⟨x, H1, I1, r1, q1⟩ => ?_
 obtain ⟨a, e, ⟨xs, hq⟩, q⟩ := q1
 subst e
 cases r1
 obtain ⟨its, rv, p, hz⟩ := I1.list hq
 refine wpAny_pyIter_list p.isList ?_
 refine ⟨s1.heap.objs.size, [s1.heap.objs.size], _, _, H1, rfl, I1.kept (t' := s1.toks) fun b o e => zAB _ e, wX a _, ⟨_, zAL _ rfl, rfl, rfl⟩, fun b hb => ?_, q⟩
 have e : b = s1.heap.objs.size := by simpa using hb
 subst e
 exact I1.fpOk (zAE _) (I1.hok.fresh (zAE _))
theorem AV {l : Expr} {tl : TE} (hl : PE X l tl) : PI X tg l (BO X.K tl) := by
 intro pins s σ H R I h
 refine thn (hl pins s σ H _ I h) fun v s1 ⟨x, H1, I1, r1, q1⟩ => ?_
 obtain ⟨a, e, ⟨xs, hq⟩, q⟩ := q1
 subst e
 cases r1
 obtain ⟨its, rv, p, hz⟩ := I1.tuple hq
 refine wpAny_pyIter_tuple (show s1.heap.IsTuple a its.toArray from p) ?_
 refine ⟨s1.heap.objs.size, [s1.heap.objs.size], _, _, H1, rfl, I1.kept (t' := s1.toks) fun b o e => zAB _ e, vc a _, ⟨_, zAL _ rfl, rfl, rfl⟩, fun b hb => ?_, q⟩
 have e : b = s1.heap.objs.size := by simpa using hb
 subst e
 exact I1.fpOk (zAE _) (I1.hok.fresh (zAE _))
def mK (fp : List Addr) (h : Heap) : List (Addr × Obj) := fp.filterMap fun b => (h.get? b).map fun o => (b, o)
theorem fN {fp : List Addr} {h : Heap} {b : Addr} {o : Obj} (hb : b ∈ fp) (e : h.get? b = some o) : (b, o) ∈ mK fp h := zBu.mpr ⟨b, hb, by rw [e]; rfl⟩
theorem wG {fp : List Addr} {h : Heap} {p : Addr × Obj} (hp : p ∈ mK fp h) : p.1 ∈ fp /\ h.get? p.1 = some p.2 := by
 obtain ⟨b, hb, e⟩ := zBu.mp hp
 cases q : h.get? b with
 | none => rw [q] at e; cases e
 | some o =>
  rw [q] at e
  have e' : (b, o) = p := zAd e
  subst e'
  exact ⟨hb, q⟩
theorem Inv.pinned {pins : List (Addr × Obj)} {σ : St} {H : Hp} {s : Shared} {fp : List Addr} (I : Inv X pins σ H s) (hf : ∀ b ∈ fp, dF X pins H b) (ho : ∀ b ∈ fp, ∃ o, s.heap.get? b = some o /\ ∀ v, o.data ≠ .cell v) : Inv X (pins ++ mK fp s.heap) σ H s :=
 I.pins_of fun p hp => (zAW.mp hp).elim (fun z => I.pin p (zAm _ z)) fun z => by
  obtain ⟨hb, e⟩ := wG z
  obtain ⟨f0, f1, f2, _⟩ := hf p.1 hb
  obtain ⟨o, e', d⟩ := ho p.1 hb
  rw [e] at e'; cases e'
  exact ⟨e, f0, f1, f2, d⟩
theorem Inv.unpinned {pins pl : List (Addr × Obj)} {σ : St} {H : Hp} {s : Shared} (I : Inv X (pins ++ pl) σ H s) : Inv X pins σ H s := I.pins_of fun p hp => I.pin p (zAm _ (zBj _ hp))
end
end L2
namespace L2
open PySem PySem.Spec PyProof.Rows
abbrev R2 := V -> V -> Hp -> VK -> Prop
def OpR (X : Cx) (f : Value -> Value -> Sem Value) (r : R2) : Prop :=
 ∀ (pins : List (Addr × Obj)) (s : Shared) (σ : St) (H : Hp) (x y : V) (v u : Value) (Q : VK), Inv X pins σ H s -> RelV x v -> RelV y u -> r x y H Q →
  wpAny (model X.prog X.w) X.A (f v u) (EP X pins σ Q) X.xe s
def UnR (X : Cx) (f : Value -> Sem Value) (r : V -> Hp -> VK -> Prop) : Prop :=
 ∀ (pins : List (Addr × Obj)) (s : Shared) (σ : St) (H : Hp) (x : V) (v : Value) (Q : VK), Inv X pins σ H s -> RelV x v -> r x H Q →
  wpAny (model X.prog X.w) X.A (f v) (EP X pins σ Q) X.xe s
def iV (X : Cx) (f : Value) (r : List V -> Hp -> VK -> Prop) : Prop :=
 ∀ (pins : List (Addr × Obj)) (s : Shared) (σ : St) (H : Hp) (xs : List V) (us : List Value) (Q : VK), Inv X pins σ H s -> Vals xs us -> r xs H Q →
  wpAny (model X.prog X.w) X.A (call f us) (EP X pins σ Q) X.xe s
def rI (C : Int -> Int -> Prop) (g : Int -> Int -> V) : R2 := fun x y H Q => ∃ i j, x = .int i /\ y = .int j /\ C i j /\ Q (g i j) H
def rI0 (g : Int -> Int -> V) : R2 := fun x y H Q => ∃ i j, x = .int i /\ y = .int j /\ Q (g i j) H
def rU (g : Int -> V) : V -> Hp -> VK -> Prop := fun x H Q => ∃ i, x = .int i /\ Q (g i) H
section
variable {X : Cx} {a b c : Expr} {ta tb tc : TE} {pos : Pos}
theorem opI {f : Value -> Value -> Sem Value} {C : Int -> Int -> Prop} {g : Int -> Int -> Int}
  (rule : ∀ (i j : Int) (t u : Tok) (s : Shared) (Q : Value -> Shared -> Prop) (E : Value -> Shared -> Prop), C i j -> Q (.int (g i j) s.toks) { s with toks := s.toks + 1 } -> wpAny (model X.prog X.w) X.A (f (.int i t) (.int j u)) Q E s) :
  OpR X f (rI C fun i j => .int (g i j)) := by
 intro pins s σ H x y v u Q I rx ry h
 obtain ⟨i, j, rfl, rfl, hc, q⟩ := h
 obtain ⟨t, rfl⟩ := rx
 obtain ⟨t', rfl⟩ := ry
 exact rule i j t t' s _ _ hc ⟨.int (g i j), H, I.tok _, ⟨_, rfl⟩, q⟩
theorem AL {f : Value -> Value -> Sem Value} {g : Int -> Int -> Int}
  (rule : ∀ (i j : Int) (t u : Tok) (s : Shared) (Q : Value -> Shared -> Prop) (E : Value -> Shared -> Prop), Q (.int (g i j) s.toks) { s with toks := s.toks + 1 } -> wpAny (model X.prog X.w) X.A (f (.int i t) (.int j u)) Q E s) :
  OpR X f (rI0 fun i j => .int (g i j)) := by
 intro pins s σ H x y v u Q I rx ry h
 obtain ⟨i, j, rfl, rfl, q⟩ := h
 obtain ⟨t, rfl⟩ := rx
 obtain ⟨t', rfl⟩ := ry
 exact rule i j t t' s _ _ ⟨.int (g i j), H, I.tok _, ⟨_, rfl⟩, q⟩
theorem xX {f : Value -> Value -> Sem Value} {g : Int -> Int -> Bool}
  (rule : ∀ (i j : Int) (t u : Tok) (s : Shared) (Q : Value -> Shared -> Prop) (E : Value -> Shared -> Prop), Q (.bool (g i j)) s -> wpAny (model X.prog X.w) X.A (f (.int i t) (.int j u)) Q E s) :
  OpR X f (rI0 fun i j => .bl (g i j)) := by
 intro pins s σ H x y v u Q I rx ry h
 obtain ⟨i, j, rfl, rfl, q⟩ := h
 obtain ⟨t, rfl⟩ := rx
 obtain ⟨t', rfl⟩ := ry
 exact rule i j t t' s _ _ ⟨.bl (g i j), H, I, rfl, q⟩
def pD (i j : Int) : Prop := 0 <= j /\ j <= 1000000 /\ i.natAbs < 2 ^ 64
theorem AM : OpR X (binaryOp .Add) (rI0 fun i j => .int (i + j)) := AL fun _ _ _ _ _ _ _ q => add_int q
theorem AQ : OpR X (binaryOp .Sub) (rI0 fun i j => .int (i - j)) := AL fun _ _ _ _ _ _ _ q => sub_int q
theorem zB : OpR X (binaryOp .Mod) (rI (fun _ j => j ≠ 0) fun i j => .int (i.fmod j)) := opI fun _ _ _ _ _ _ _ hc q => mod_int' hc q
theorem AO : OpR X (binaryOp .Pow) (rI pD fun i j => .int (i ^ j.toNat)) := opI fun _ _ _ _ _ _ _ hc q => pow_int_small hc.1 hc.2.1 hc.2.2 q
theorem unI {f : Value -> Sem Value} {g : Int -> Int}
  (rule : ∀ (i : Int) (t : Tok) (s : Shared) (Q : Value -> Shared -> Prop) (E : Value -> Shared -> Prop), Q (.int (g i) s.toks) { s with toks := s.toks + 1 } -> wpAny (model X.prog X.w) X.A (f (.int i t)) Q E s) :
  UnR X f (rU fun i => .int (g i)) := by
 intro pins s σ H x v Q I rx h
 obtain ⟨i, rfl, q⟩ := h
 obtain ⟨t, rfl⟩ := rx
 exact rule i t s _ _ ⟨.int (g i), H, I.tok _, ⟨_, rfl⟩, q⟩
theorem A9 : UnR X (unaryOp .USub) (rU fun i => .int (-i)) := unI fun _ _ _ _ _ q => neg_int q
end
def rn : V -> V -> Bool
 | .non, .non => true | .non, .int _ => true | .int _, .non => true | .non, .bl _ => true | .bl _, .non => true | .non, .str _ => true | .str _, .non => true
 | .int _, .int _ => true | .bl _, .bl _ => true | .str _, .str _ => true | .byt _, .byt _ => true
 | .int _, .str _ => true | .str _, .int _ => true | .bl _, .str _ => true | .str _, .bl _ => true
 | _, _ => false
def rEq : R2 := fun x y H Q => rn x y = true /\ Q (.bl (decide (x = y))) H
def rNe : R2 := fun x y H Q => rn x y = true /\ Q (.bl (!decide (x = y))) H
theorem ku {i j : Int} : decide (V.int i = V.int j) = (i == j) := by
 rw [zBS]
 simp
theorem vC {i j : Bool} : decide (V.bl i = V.bl j) = (i == j) := by
 rw [zBS]
 simp
theorem sJ {i j : Str} : decide (V.str i = V.str j) = (i == j) := by
 rw [zBS]
 simp
theorem sI {i j : Array UInt8} : decide (V.byt i = V.byt j) = (i.toList == j.toList) := by
 rw [zBS]
 cases i
 cases j
 simp
section
variable {X : Cx} {a b c : Expr} {ta tb tc : TE} {pos : Pos}
theorem aF {pins : List (Addr × Obj)} {σ : St} {H : Hp} {s : Shared} {Q : VK} {k k' : Bool} (I : Inv X pins σ H s) (q : Q (.bl k) H) (e : k = k') : EP X pins σ Q (.bool k') s := by
 subst e
 exact ⟨.bl k, H, I, rfl, q⟩
theorem Bm : OpR X (compareOp .Eq) rEq := by
 intro pins s σ H x y v u Q I rx ry h
 obtain ⟨hs, q⟩ := h
 cases x with
 | non =>
  cases rx
  cases y with
  | non => cases ry; exact PySem.EqNone.eq_none_none (aF I q (by simp))
  | bl j => cases ry; exact PySem.EqNone.eq_none_bool (aF I q (by simp))
  | int j => obtain ⟨t', rfl⟩ := ry; exact PySem.EqNone.eq_none_int (aF I q (by simp))
  | str j => obtain ⟨t', rfl⟩ := ry; exact PySem.EqNone.eq_none_str (aF I q (by simp))
  | _ => exact absurd (show false = true from hs) zAQ
 | bl i =>
  cases rx
  cases y with
  | non => cases ry; exact PySem.EqNone.eq_bool_none (aF I q (by simp))
  | bl j => cases ry; exact eq_bool (aF I q vC)
  | str j => obtain ⟨t', rfl⟩ := ry; exact PySem.EqMixed.eq_bool_str (aF I q (by simp))
  | _ => exact absurd (show false = true from hs) zAQ
 | int i =>
  obtain ⟨t, rfl⟩ := rx
  cases y with
  | non => cases ry; exact PySem.EqNone.eq_int_none (aF I q (by simp))
  | int j => obtain ⟨t', rfl⟩ := ry; exact eq_int (aF I q ku)
  | str j => obtain ⟨t', rfl⟩ := ry; exact PySem.EqMixed.eq_int_str (aF I q (by simp))
  | _ => exact absurd (show false = true from hs) zAQ
 | str i =>
  obtain ⟨t, rfl⟩ := rx
  cases y with
  | non => cases ry; exact PySem.EqNone.eq_str_none (aF I q (by simp))
  | bl j => cases ry; exact PySem.EqMixed.eq_str_bool (aF I q (by simp))
  | int j => obtain ⟨t', rfl⟩ := ry; exact PySem.EqMixed.eq_str_int (aF I q (by simp))
  | str j => obtain ⟨t', rfl⟩ := ry; exact eq_str (aF I q sJ)
  | _ => exact absurd (show false = true from hs) zAQ
 | byt i =>
  obtain ⟨t, rfl⟩ := rx
  cases y with
  | byt j => obtain ⟨t', rfl⟩ := ry; exact PySem.W.eq_bytes (aF I q sI)
  | _ => exact absurd (show false = true from hs) zAQ
 | _ => cases y <;> exact absurd (show false = true from hs) zAQ
theorem Bq : OpR X (compareOp .NotEq) rNe := by
 intro pins s σ H x y v u Q I rx ry h
 obtain ⟨hs, q⟩ := h
 cases x with
 | non =>
  cases rx
  cases y with
  | non => cases ry; exact PySem.EqNone.ne_none_none (aF I q (by simp))
  | bl j => cases ry; exact PySem.EqNone.ne_none_bool (aF I q (by simp))
  | int j => obtain ⟨t', rfl⟩ := ry; exact PySem.EqNone.ne_none_int (aF I q (by simp))
  | str j => obtain ⟨t', rfl⟩ := ry; exact PySem.EqNone.ne_none_str (aF I q (by simp))
  | _ => exact absurd (show false = true from hs) zAQ
 | bl i =>
  cases rx
  cases y with
  | non => cases ry; exact PySem.EqNone.ne_bool_none (aF I q (by simp))
  | bl j => cases ry; exact ne_bool (aF I q (congrArg not vC))
  | str j => obtain ⟨t', rfl⟩ := ry; exact PySem.EqMixed.ne_bool_str (aF I q (by simp))
  | _ => exact absurd (show false = true from hs) zAQ
 | int i =>
  obtain ⟨t, rfl⟩ := rx
  cases y with
  | non => cases ry; exact PySem.EqNone.ne_int_none (aF I q (by simp))
  | int j => obtain ⟨t', rfl⟩ := ry; exact ne_int (aF I q (congrArg not ku))
  | str j => obtain ⟨t', rfl⟩ := ry; exact PySem.EqMixed.ne_int_str (aF I q (by simp))
  | _ => exact absurd (show false = true from hs) zAQ
 | str i =>
  obtain ⟨t, rfl⟩ := rx
  cases y with
  | non => cases ry; exact PySem.EqNone.ne_str_none (aF I q (by simp))
  | bl j => cases ry; exact PySem.EqMixed.ne_str_bool (aF I q (by simp))
  | int j => obtain ⟨t', rfl⟩ := ry; exact PySem.EqMixed.ne_str_int (aF I q (by simp))
  | str j => obtain ⟨t', rfl⟩ := ry; exact ne_str (aF I q (congrArg not sJ))
  | _ => exact absurd (show false = true from hs) zAQ
 | byt i =>
  obtain ⟨t, rfl⟩ := rx
  cases y with
  | byt j => obtain ⟨t', rfl⟩ := ry; exact PySem.W.ne_bytes (aF I q (congrArg not sI))
  | _ => exact absurd (show false = true from hs) zAQ
 | _ => cases y <;> exact absurd (show false = true from hs) zAQ
theorem Bp : OpR X (compareOp .Lt) (rI0 fun i j => .bl (decide (i < j))) := xX fun _ _ _ _ _ _ _ q => lt_int q
theorem Bo : OpR X (compareOp .LtE) (rI0 fun i j => .bl (decide (i <= j))) := xX fun _ _ _ _ _ _ _ q => le_int q
theorem Bn : OpR X (compareOp .Gt) (rI0 fun i j => .bl (decide (j < i))) := xX fun _ _ _ _ _ _ _ q => gt_int q
theorem AN : OpR X (compareOp .Is) (fun x y H Q => y = .non /\ Q (.bl (decide (x = .non))) H) := by
 intro pins s σ H x y v u Q I rx ry h
 obtain ⟨rfl, q⟩ := h
 cases ry
 refine is_none_gen (aF I q ?_)
 cases x <;> first
  | (cases rx; rfl)
  | (obtain ⟨t, rfl⟩ := rx; rfl)
theorem zD : OpR X (compareOp .IsNot) (fun x y H Q => y = .non /\ Q (.bl (!decide (x = .non))) H) := by
 intro pins s σ H x y v u Q I rx ry h
 obtain ⟨rfl, q⟩ := h
 cases ry
 refine isnot_none_gen (aF I q ?_)
 cases x <;> first
  | (cases rx; rfl)
  | (obtain ⟨t, rfl⟩ := rx; rfl)
theorem mE : (sizeLine : Nat) < 2 ^ 63 := by rw [sizeLine_eq]; decide
theorem vals1 {x : V} {us : List Value} (r : Vals [x] us) : ∃ u, us = [u] /\ RelV x u := by
 cases r with
 | cons r1 r2 => cases r2; exact ⟨_, rfl, r1⟩
theorem vals2 {x y : V} {us : List Value} (r : Vals [x, y] us) : ∃ u w', us = [u, w'] /\ RelV x u /\ RelV y w' := by
 cases r with
 | cons r1 r2 =>
  cases r2 with
  | cons r3 r4 => cases r4; exact ⟨_, _, rfl, r1, r3⟩
theorem xb : iV X (.builtin "abs") (fun xs H Q => ∃ i, xs = [.int i] /\ Q (.int (if i < 0 then -i else i)) H) := by
 intro pins s σ H xs us Q I r h
 obtain ⟨i, rfl, q⟩ := h
 obtain ⟨u, rfl, t, rfl⟩ := vals1 r
 exact call_abs_int fun u tk => ⟨.int (if i < 0 then -i else i), H, I.tok _, ⟨_, rfl⟩, q⟩
theorem vj (hc : X.calm = true) : iV X (.builtin "max") (fun xs H Q => ∃ i j, xs = [.int i, .int j] /\ Q (.int (if j > i then j else i)) H) := by
 intro pins s σ H xs us Q I r h
 obtain ⟨i, j, rfl, q⟩ := h
 obtain ⟨u, w', rfl, ⟨t, rfl⟩, ⟨t', rfl⟩⟩ := vals2 r
 refine max_two_ints (I.ok.hd hc) fun h' tk k => ⟨_, H, I.kept k, ?_, q⟩
 by_cases hj : j > i
 ·rw [if_pos hj, if_pos hj]; exact ⟨_, rfl⟩
 ·rw [if_neg hj, if_neg hj]; exact ⟨_, rfl⟩
theorem vm (hc : X.calm = true) : iV X (.builtin "min") (fun xs H Q => ∃ i j, xs = [.int i, .int j] /\ Q (.int (if j < i then j else i)) H) := by
 intro pins s σ H xs us Q I r h
 obtain ⟨i, j, rfl, q⟩ := h
 obtain ⟨u, w', rfl, ⟨t, rfl⟩, ⟨t', rfl⟩⟩ := vals2 r
 refine min_two_ints (I.ok.hd hc) fun h' tk k => ⟨_, H, I.kept k, ?_, q⟩
 by_cases hj : j < i
 ·rw [if_pos hj, if_pos hj]; exact ⟨_, rfl⟩
 ·rw [if_neg hj, if_neg hj]; exact ⟨_, rfl⟩
end
end L2
namespace L2
open PySem PySem.Spec PyProof.Rows
structure B8 (h : Heap) (x dx C : Addr) (mA : Str -> Option Value) : Prop where
 obj : h.get? x = some (PySem.W.instObj C dx)
 ns : h.Ns1 dx mA
 ne : dx ≠ x
section
variable {prog : Program} {w : World} {A : Around} {E : Value -> Shared -> Prop} {s : Shared} {K : PySem.W.Frag} {x dx C f : Addr} {mA : Str -> Option Value} {name : Str} {v : Value}
end
theorem gc.some_of {v : V} {o : Option Value} (r : gc (some v) o) : ∃ u, o = some u /\ RelV v u := by
 cases o with
 | none => exact (show False from r).elim
 | some u => exact ⟨u, rfl, r⟩
section
variable {P : Program} {w : World} {H H' : Hp} {h h' : Heap} {a C dx : Addr} {fs fs' : List (Str × V)}
end
structure Cls (K : PySem.W.Frag) (C : Addr) : Prop where
 pg : PySem.W.plainGet K C Str.empty = true
 hd : PySem.W.hasDictIn K C = true
 po : PySem.W.plainOver K C = true
 sa : PySem.W.findIn K (.ref C) "__setattr__" = some (some (.builtin "object.__setattr__"))
structure Con (K : PySem.W.Frag) (C : Addr) (f : Str) (v : V) (u : Value) : Prop where
 at_ : PySem.W.findIn K (.ref C) f = some (some u)
 rel : RelV v u
 get : PySem.W.specialIn K u "__get__" = some none
 cp : PySem.W.copiedNames.contains f = false
structure Meth (K : PySem.W.Frag) (C : Addr) (m : Str) (f : Addr) : Prop where
 at_ : PySem.W.findIn K (.ref C) m = some (some (.ref f))
 fn : PySem.W.isFn K (.ref f) = true
 kp : PySem.W.keepIn K (.ref f) = true
section
variable {X : Cx} {pins : List (Addr × Obj)} {σ : St} {H : Hp} {s : Shared} {a C dx : Addr} {fs : List (Str × V)} {f : Str} {v : V} {A : Around} {E : Value -> Shared -> Prop}
end
def z8 (X : Cx) (op : Operator) (rd : V -> V -> Hp -> VK -> Prop) : Prop :=
 ∀ (pins : List (Addr × Obj)) (s : Shared) (σ : St) (H : Hp) (x y : V) (u v : Value) (Q : VK), Inv X pins σ H s -> RelV x u -> RelV y v -> rd x y H Q -> wpAny (model X.prog X.w) X.A (inplaceOp op u v) (EP X pins σ Q) X.xe s
section
variable {X : Cx} {o e value : Expr} {f : Str} {pos pos' tpos : Pos} {ta tv : TE}
def BY : V -> V -> Hp -> VK -> Prop := fun x y H Q => ∃ i j, x = .int i /\ y = .int j /\ Q (.int (i + j)) H
theorem wa : z8 X .Add BY := by
 rintro pins s σ H x y u v Q I rx ry ⟨i, j, rfl, rfl, q⟩
 obtain ⟨t, rfl⟩ := (show ∃ t, u = Value.int i t from rx)
 obtain ⟨t', rfl⟩ := (show ∃ t', v = Value.int j t' from ry)
 exact PyProof.Rows.iadd_int ⟨.int (i + j), H, I.tok _, ⟨_, rfl⟩, q⟩
end
section
variable {X : Cx} {pins : List (Addr × Obj)} {σ : St} {H : Hp} {s : Shared} {A : Around} {E : Value -> Shared -> Prop} {Q : Value -> Shared -> Prop} {c : Value} {b : Bool}
inductive gd (K : PySem.W.Frag) (H : Hp) : V -> Value -> Prop where
 | non : gd K H .non (.type "NoneType")
 | bl (x : Bool) : gd K H (.bl x) (.type "bool")
 | int (i : Int) : gd K H (.int i) (.type "int")
 | str (x : Str) : gd K H (.str x) (.type "str")
 | flt (x : UInt64) : gd K H (.flt x) (.type "float")
 | lst {a : Addr} {xs : List V} (e : H a = some (.lst xs)) : gd K H (.ref a) (.type "list")
 | frz {a : Addr} {o : Obj} {xs : List V} (e : H a = some (.frz o (.lst xs))) : gd K H (.ref a) (.type "list")
 | tup {a : Addr} {xs : List V} (e : H a = some (.tup xs)) : gd K H (.ref a) (.type "tuple")
 | dK {a : Addr} {kvs : List (Key × V)} (e : H a = some (.dK kvs)) : gd K H (.ref a) (.type "dict")
 | dT {a : Addr} {kvs : List (List Key × V)} (e : H a = some (.dT kvs)) : gd K H (.ref a) (.type "dict")
 | ins {a C dx : Addr} {fs : List (Str × V)} (e : H a = some (.ins C dx fs)) (cl : Cls K C) (ha : PySem.W.findIn K (.ref C) "__class__" = some (some (.builtin "object.__class__")))
   (hn : PySem.W.specialIn K (.builtin "object.__class__") "__get__" = some (some (.builtin "getset_descriptor.__get__"))) (htk : PySem.W.takesIn K (.builtin "object.__class__") = some true)
   (hm : PySem.W.mroIn K C (.type "object") = some true) : gd K H (.ref a) (.ref C)
end
end L2
namespace L2
open PySem PySem.Spec PyProof.Rows
structure bE (k : Nat) (A : Around) : Prop where
 hd : A.handled = none
 dp : A.depth + 3 * k + 5 < recursionLimit
 un : A.units + 16 * k + 200 < cLine
theorem bE.mono {j k : Nat} {A : Around} (r : bE k A) (h : j <= k) : bE j A := ⟨r.hd, by have := r.dp; omega, by have := r.un; omega⟩
theorem bE.deeper {k : Nat} {A : Around} (r : bE (k + 1) A) (env : Env) : bE k (A.deeper env) :=
 ⟨r.hd, by have := r.dp; show A.depth + 1 + 3 * k + 5 < _; omega, by have := r.un; show A.units + 3 + 16 * k + 200 < _; omega⟩
theorem bE.depth {k : Nat} {A : Around} (r : bE k A) : A.depth < recursionLimit := by have := r.dp; omega
theorem bE.units {k : Nat} {A : Around} (r : bE k A) : A.units + 64 < cLine := by have := r.un; omega
def A6 : TA := fun _ H Q => Q [] H
def va (ta : TE) (tr : TA) : TA := fun σ H Q => ta σ H fun x H1 => tr σ H1 fun xs H2 => Q (x :: xs) H2
section
variable {X : Cx} {e : Expr} {es : List Expr} {te : TE} {t : TA} {pos : Pos}
theorem mJ : PA X [] A6 := fun _ _ _ _ H Q I h => Calls.spliced_nil ⟨[], H, I, .nil, h⟩
theorem iI (ha : PE X e te) (hr : PA X es t) (hs : starEach (e :: es) X.env = (false, eval e X.env) :: starEach es X.env := by rfl) : PA X (e :: es) (va te t) := by
 intro pos pins s σ H Q I h
 rw [hs]
 show wpAny _ _ (spliced ((false, eval e X.env) :: backTo pos (starEach es X.env))) _ _ s
 refine Calls.spliced_cons (thn (ha pins s σ H _ I h) fun u s1 ⟨x, H1, I1, r1, q1⟩ => ?_)
 exact thn (hr pos pins s1 σ H1 _ I1 q1) fun us s2 ⟨xs, H2, I2, r2, q2⟩ => ⟨x :: xs, H2, I2, .cons r1 r2, q2⟩
end
abbrev Sp := List V -> Hp -> VK -> XK -> Prop
abbrev CXT := List Env -> Hp -> Shared -> XK -> Value -> Shared -> Prop
structure tY (P : Program) (w : World) (K : PySem.W.Frag) (mg : Str -> Option Value) (base : Heap) (A : Around) (outer : List Env) (s : Shared) (H : Hp) : Prop where
 frames : A.frames = some outer
 mod : Mod K mg base
 bs : ∀ b o, base.get? b = some o -> s.heap.get? b = some o /\ H b = none
 bsz : base.objs.size <= s.heap.objs.size
 funs : s.heap.FunFrames base outer
 frf : ∀ b ∈ frs outer, H b = none
 hok : HOk P w H s.heap
 bare : AllBare s.gens
def CE (outer : List Env) (P : Program) (w : World) (H : Hp) (s : Shared) (Q : VK) (u : Value) (s' : Shared) : Prop :=
 ∃ v H', s'.os = s.os /\ AllBare s'.gens /\ Un (frs outer) [] H H' s.heap s'.heap /\ HOk P w H' s'.heap /\ RelV v u /\ Q v H'
def CR (CX : CXT) (outer : List Env) (P : Program) (w : World) (H : Hp) (s : Shared) (Q : VK) (E : XK) (r : Result) (s' : Shared) : Prop :=
 match r with
 | .ok (.ret u) => CE outer P w H s Q u s'
 | .ok _ => False
 | .error e => CX outer H s E e s'
structure aD (P : Program) (w : World) (K : PySem.W.Frag) (mg : Str -> Option Value) (base : Heap) (CX : CXT) (k : Nat) (f : Addr) (fd : FuncData) (ps : List Str) (sp : Sp) : Prop where
 len : ∀ vs H Q E, sp vs H Q E -> vs.length = ps.length
 run : ∀ (A : Around) (outer : List Env) (s : Shared) (H : Hp) (args : Args) (us : List Value) (vs : List V) (Q : VK) (E : XK), bE k A -> tY P w K mg base A outer s H -> BindsTo s fd args (ps.zip us) -> Vals vs us -> sp vs H Q E →
  codeAny (model P w) A (.call (.ref f) args) (CR CX outer P w H s Q E) s
section
variable {X : Cx} {pins : List (Addr × Obj)} {σ : St} {H : Hp} {s s' : Shared}
theorem Inv.env0 (I : Inv X pins σ H s) : tY X.prog X.w X.K X.mg X.base X.A X.stack s H :=
 ⟨I.ok.frames, I.ok.mod, I.bs, zAX I.ok.bsz I.sz, I.stack, I.stkFree, I.hok, I.bare⟩
theorem Inv.after {Q : VK} {u : Value} (I : Inv X pins σ H s) (h : CE X.stack X.prog X.w H s Q u s') : EP X pins σ Q u s' := by
 obtain ⟨v, H', os, bare, un, hok, r, q⟩ := h
 obtain ⟨hh, g, d, t, os'⟩ := s'
 obtain rfl : os' = s.os := os
 exact ⟨v, H', I.call (h' := hh) (g' := g) (d' := d) (t' := t) (ch := []) un hok bare (fun b z => absurd z (by simp)), r, q⟩
end
def Binds (K : PySem.W.Frag) (fd : FuncData) (ps : List Str) (ds : List Value) : Prop :=
 ∀ (s : Shared) (us : List Value), K.In s.heap -> (us ++ ds).length = ps.length -> BindsTo s fd ⟨us, []⟩ (ps.zip (us ++ ds))
theorem Binds.all {K : PySem.W.Frag} {fd : FuncData} {ps : List Str} (h : ∀ us : List Value, us.length = ps.length -> bindArgs fd ⟨us, []⟩ = pure (ps.zip us)) : Binds K fd ps [] := fun s us _ hl => by
 rw [zBC] at hl ⊢
 exact .of_eq (h us hl)
def Passes (CX : CXT) (X : Cx) (E : XK) : Prop := ∀ (pins : List (Addr × Obj)) (σ : St) (H : Hp) (s : Shared) (e : Value) (s' : Shared), Inv X pins σ H s -> CX X.stack H s E e s' -> X.xe e s'
section
variable {X : Cx} {CX : CXT} {k : Nat} {f C : Addr} {fd : FuncData} {ps : List Str} {sp : Sp} {dvs : List V} {ds : List Value} {E : XK} {x m : Str} {p pos apos : Pos} {e o : Expr} {es : List Expr} {ta : TE} {t : TA}
theorem AZ {pins : List (Addr × Obj)} {σ : St} {H : Hp} {s : Shared} {Q : VK} {us : List Value} {vs : List V} (F : aD X.prog X.w X.K X.mg X.base CX k f fd ps sp) (hr : bE k X.A) (hb : Binds X.K fd ps ds) (hd : Vals dvs ds) (hx : Passes CX X E)
  (I : Inv X pins σ H s) (r : Vals vs us) (h : sp (vs ++ dvs) H Q E) : wpAny (model X.prog X.w) X.A (call (.ref f) us) (EP X pins σ Q) X.xe s := by
 have r2 : Vals (vs ++ dvs) (us ++ ds) := r.append hd
 have hl : (us ++ ds).length = ps.length := by rw [<- r2.length]; exact F.len _ _ _ _ h
 refine wpAny_call (codeAny_mono (F.run X.A X.stack s H ⟨us, []⟩ (us ++ ds) (vs ++ dvs) Q E hr I.env0 (hb s us I.kIn hl) r2 h) fun r s' hq => ?_)
 cases r with
 | error e => exact hx pins σ H s e s' I hq
 | ok fl =>
  cases fl with
  | ret u => exact I.after hq
  | next => exact False.elim hq
  | brk => exact False.elim hq
  | cont => exact False.elim hq
structure Mk (K : PySem.W.Frag) (C f : Addr) : Prop where
 makes : PySem.W.makesIn K C = true
 init : PySem.W.findIn K (.ref C) "__init__" = some (some (.ref f))
 fn : PySem.W.isFn K (.ref f) = true
 kp : PySem.W.keepIn K (.ref C) = true
end
section
variable {X : Cx} {CX : CXT} {k : Nat} {f C : Addr} {fd : FuncData} {ps ks : List Str} {sp : Sp} {E : XK} {x m : Str} {p pos apos kpos : Pos} {e o : Expr} {es : List Expr} {kws : List Keyword} {te ta : TE} {t tk : TA} {nm : Option Str}
structure ve (K : PySem.W.Frag) (fd : FuncData) (ps ks : List Str) (g : List Value -> List Value -> List Value) (gV : List V -> List V -> List V) : Prop where
 to : ∀ (s : Shared) (us ws : List Value), K.In s.heap -> (g us ws).length = ps.length -> BindsTo s fd ⟨us, ks.zip ws⟩ (ps.zip (g us ws))
 rel : ∀ {vs : List V} {us : List Value} {zs : List V} {ws : List Value}, Vals vs us -> Vals zs ws -> Vals (gV vs zs) (g us ws)
variable {g : List Value -> List Value -> List Value} {gV : List V -> List V -> List V}
end
structure ax (N P : List Str) (sc : Scope) : Prop where
 kind : sc.kind = .function
 co : sc.isCoroutine = false
 gen : sc.isGenerator = false
 nd : N.Nodup
 pre : N.take P.length = P
 par : ∀ x ∈ P, sc.names.lookup x = some .local ∨ sc.names.lookup x = some .cell
 nofree : ∀ y ∈ sc.names, y.2 ≠ .free
theorem nZ {kindOf : Str -> Option NameKind} {x : Str} : ∀ {binds : List (Str × Value)} {m : Str -> Option Value}, (∀ v, (x, v) ∉ binds) -> bindL kindOf binds m x = m x
 | [], _, _ => rfl
 | (n, v) :: r, m, h => by
  unfold bindL
  rw [nZ fun w hw => h w (zAI _ hw)]
  split
  ·have : x ≠ n := by rintro rfl; exact h v zAK
   simp [this]
  ·rfl
theorem nX {kindOf : Str -> Option NameKind} {x : Str} : ∀ {binds : List (Str × Value)} {m : Str -> Option Value}, (∀ v, (x, v) ∉ binds) -> bindC kindOf binds m x = m x
 | [], _, _ => rfl
 | (n, v) :: r, m, h => by
  unfold bindC
  rw [nX fun w hw => h w (zAI _ hw)]
  split
  ·rfl
  ·have : x ≠ n := by rintro rfl; exact h v zAK
   simp [this]
theorem nY {kindOf : Str -> Option NameKind} {x : Str} {v : Value} : ∀ {P : List Str} {vs : List Value} {i : Nat} {m : Str -> Option Value}, P.Nodup -> P[i]? = some x -> vs[i]? = some v -> kindOf x = some .local →
  bindL kindOf (P.zip vs) m x = some v
 | [], _, _, _, _, h, _, _ => by simp at h
 | _ :: _, [], _, _, _, _, h, _ => by simp at h
 | p :: P, w :: vs, 0, m, nd, h1, h2, hk => by
  simp at h1 h2; subst h1; subst h2
  show bindL kindOf ((p, w) :: P.zip vs) m p = _
  unfold bindL
  rw [nZ fun v hv => (zBd.mp nd).1 (List.of_mem_zip hv).1, if_pos hk]
  simp
 | p :: P, w :: vs, i + 1, m, nd, h1, h2, hk => by
  show bindL kindOf ((p, w) :: P.zip vs) m x = _
  unfold bindL
  exact nY (i := i) (zBd.mp nd).2 (by simpa using h1) (by simpa using h2) hk
theorem nW {kindOf : Str -> Option NameKind} {x : Str} {v : Value} : ∀ {P : List Str} {vs : List Value} {i : Nat} {m : Str -> Option Value}, P.Nodup -> P[i]? = some x -> vs[i]? = some v -> kindOf x ≠ some .local →
  bindC kindOf (P.zip vs) m x = some v
 | [], _, _, _, _, h, _, _ => by simp at h
 | _ :: _, [], _, _, _, _, h, _ => by simp at h
 | p :: P, w :: vs, 0, m, nd, h1, h2, hk => by
  simp at h1 h2; subst h1; subst h2
  show bindC kindOf ((p, w) :: P.zip vs) m p = _
  unfold bindC
  rw [nX fun v hv => (zBd.mp nd).1 (List.of_mem_zip hv).1, if_neg hk]
  simp
 | p :: P, w :: vs, i + 1, m, nd, h1, h2, hk => by
  show bindC kindOf ((p, w) :: P.zip vs) m x = _
  unfold bindC
  exact nW (i := i) (zBd.mp nd).2 (by simpa using h1) (by simpa using h2) hk
def start (N : List Str) (vs : List V) : St := vs.map some ++ List.replicate (N.length - vs.length) none
def cC (CX : CXT) (P : Program) (w : World) (K : PySem.W.Frag) (mg : Str -> Option Value) (base : Heap) (N : List Str) (qual : Str) (scope : Scope) (f : Addr) (cd : Value) (A : Around) (outer : List Env) (s : Shared) (H : Hp) (E : XK) : Cx where
 prog := P
 w := w
 K := K
 mg := mg
 base := base
 A := A.deeper (envOfC qual scope s.heap.objs.size f cd)
 N := N
 s₀ := s
 H₀ := H
 env := envOfC qual scope s.heap.objs.size f cd
 outer := outer
 stack := envOfC qual scope s.heap.objs.size f cd :: outer
 ex := []
 calm := true
 fn := fun _ => true
 pn := []
 xe := fun e s' => wpAny (model P w) (A.deeper (envOfC qual scope s.heap.objs.size f cd)) (leaving (envOfC qual scope s.heap.objs.size f cd) e) (fun _ s'' => CX outer H s E e s'') (fun e' s'' => CX outer H s E e' s'') s'
theorem pT {sc : Scope} {n : Nat} {x : Str} (h : sc.names.lookup x = some .cell) : ∃ c, (cellsFrom n sc.names []).lookup x = some c := by
 have q := PySem.W.cellsFrom_some sc.names n [] (.inl h)
 exact Option.isSome_iff_exists.mp q
theorem we {CX : CXT} {P : Program} {w : World} {K : PySem.W.Frag} {mg : Str -> Option Value} {base : Heap} {N ps : List Str} {qual : Str} {scope : Scope} {f : Addr} {cd : Value} {A : Around} {outer : List Env} {s s1 : Shared} {H : Hp} {E : XK} {us : List Value} {vs : List V}
  (S : ax N ps scope) (hd : A.handled = none) (e0 : tY P w K mg base A outer s H) (hl : vs.length = ps.length) (r : Vals vs us)
  (x : InCallC s s.heap.objs.size (bindL (envOfC qual scope s.heap.objs.size f cd).kindOf (ps.zip us) fun _ => none) (cellsFrom (s.heap.objs.size + 1) scope.names []) (bindC (envOfC qual scope s.heap.objs.size f cd).kindOf (ps.zip us) fun _ => none) s1) :
  Inv (cC CX P w K mg base N qual scope f cd A outer s H E) [] (start N vs) H s1 := by
 have hpl : ps.length <= N.length := by have := congrArg List.length S.pre; rw [zAc] at this; omega
 obtain ⟨h1, tk, rfl, hk⟩ := x.done
 have noA : ∀ b : Addr, b ∉ (cC CX P w K mg base N qual scope f cd A outer s H E).ex := fun b z => absurd (show b ∈ ([] : List Addr) from z) (by simp)
 refine ⟨⟨e0.mod, S.kind, rfl, rfl, zAE _, fun y z c h1 h2 => ?_, fun y hy => ?_, fun y c _ h => ?_, fun _ => hd, Around.frames_deeper e0.frames, .inr ⟨rfl, rfl⟩, fun b z => absurd z (noA b), e0.bs, e0.bsz, fun b _ _ => noA b, fun b z => absurd z (noA b), e0.funs, e0.frf⟩,
  rfl, e0.bare, Un.kept hk, ⟨_, x.toInCall.ns, fun i y v h1 h2 h3 => ?_⟩, fun y c h => ⟨_, x.cell y c h⟩, e0.hok.fresh (zAE _), fun y c h => ?_, fun p hp => absurd (show p ∈ ([] : List (Addr × Obj)) from hp) (by simp), e0.hok.kept hk, ?_⟩
 ·exact name_of_addr x.apart (PySem.mem_of_lookup h1) (PySem.mem_of_lookup h2)
 ·have hy : scope.names.lookup y = some .cell ∨ scope.names.lookup y = some .free := hy
  rcases hy with hy | hy
  ·exact pT hy
  ·exact absurd rfl (S.nofree _ (PySem.mem_of_lookup hy))
 ·exact zBT (x.above y c (PySem.mem_of_lookup h))
 ·have hi : i < vs.length := by
   unfold start at h2
   by_cases hi : i < vs.length
   ·exact hi
   ·rw [zAM (by simpa using hi)] at h2
    rw [zBX] at h2
    split at h2 <;> cases h2
  have ha : vs[i]? = some v := by
   unfold start at h2
   rw [zAa (by simpa using hi), zAO] at h2
   cases e : vs[i]? with
   | none => rw [e] at h2; cases h2
   | some a => rw [e] at h2; cases h2; rfl
  obtain ⟨u, hu, rv⟩ := r.get ha
  have hp : ps[i]? = some y := by
   rw [<- S.pre, List.getElem?_take_of_lt (by omega)]; exact h1
  have ndP : ps.Nodup := by rw [<- S.pre]; exact S.nd.sublist (List.take_sublist _ _)
  refine ⟨u, rv, ?_⟩
  rcases S.par y (zAV hp) with k | k
  ·exact .inl ⟨k, nY ndP hp hu k⟩
  ·obtain ⟨c, e⟩ := pT (n := s.heap.objs.size + 1) k
   refine .inr ⟨.inl k, c, e, ?_⟩
   have q := x.cell y c e
   rw [nW ndP hp hu (by show scope.names.lookup y ≠ _; rw [k]; decide)] at q
   exact q
 ·exact e0.hok.fresh (zBT (x.above y c (PySem.mem_of_lookup h)))
 ·unfold start
  show _ = N.length
  rw [zAR, zAA, List.length_replicate]
  omega
theorem Bf {CX : CXT} {P : Program} {w : World} {K : PySem.W.Frag} {mg : Str -> Option Value} {base : Heap} {k : Nat} {f : Addr} {name qual : Str} {params : Arguments} {body : List Stmt} {scope : Scope} {dV kV doc pm cdv ct oc : Value} {an od : Option Addr}
  {osl : Array (Option Value)} {N ps : List Str} {sp : Sp} (lk : K.lookup f = some ⟨oc, od, .func (PySem.W.fnOf name qual params body scope dV kV doc pm an cdv ct), osl⟩) (hcd : PySem.W.codeIn K cdv qual = true) (S : ax N ps scope)
  (len : ∀ vs H Q E, sp vs H Q E -> vs.length = ps.length)
  (hbody : ∀ (A : Around) (outer : List Env) (s : Shared) (H : Hp) (vs : List V) (Q : VK) (E : XK), bE k (A.deeper (envOfC qual scope s.heap.objs.size f cdv)) -> sp vs H Q E →
   ∃ t, PSs (cC CX P w K mg base N qual scope f cdv A outer s H E) body t /\ t { nx := fun _ H' => Q .non H', rt := Q } (start N vs) H) :
  aD P w K mg base CX (k + 1) f (PySem.W.fnOf name qual params body scope dV kV doc pm an cdv ct) ps sp := by
 refine ⟨len, fun A outer s H args us vs Q E hr e0 hb r hsp => ?_⟩
 have hl := len _ _ _ _ hsp
 have KX : K.In s.heap := e0.mod.kin.keeps fun b o e => (e0.bs b o e).1
 have lim : s.heap.NoLimit := e0.mod.nolimit.keeps fun b o e => (e0.bs b o e).1
 have hkind : ∀ y ∈ ps.zip us, scope.names.lookup y.1 = some .local ∨ (scope.names.lookup y.1 = some .cell /\ ((cellsFrom (s.heap.objs.size + 1) scope.names []).lookup y.1).isSome = true) := fun ⟨n, v⟩ hy => by
  rcases S.par n (List.of_mem_zip hy).1 with q | q
  ·exact .inl q
  ·exact .inr ⟨q, PySem.W.cellsFrom_some _ _ _ (.inl q)⟩
 refine codeAny_call_function hr.depth (KX _ _ lk) rfl S.co S.gen rfl (PySem.W.codeRec_of KX hcd) (hb _ _ _ _ ?_)
 refine wpAny_newFunctionEnv_cells S.kind hkind fun env he s1 x => ?_
 subst he
 refine ⟨lim.keeps x.toInCall.keep, codeAny_func ?_⟩
 obtain ⟨t, ht, hq⟩ := hbody A outer s H vs Q E (hr.deeper _) hsp
 have I : Inv (cC CX P w K mg base N qual scope f cdv A outer s H E) [] (start N vs) H s1 := we S hr.hd e0 hl r x
 refine wpAny_mono (ht [] s1 (start N vs) H _ I hq) (fun fl s' hs => ?_) fun e s' hs => hs
 have fin : ∀ {σ' : St} {H' : Hp} {v : V} {u : Value}, Inv (cC CX P w K mg base N qual scope f cdv A outer s H E) [] σ' H' s' -> RelV v u -> Q v H' -> CE outer P w H s Q u s' :=
  fun {σ' H' v u} J rv q => ⟨v, H', J.os, J.bare, J.base, J.hok, rv, q⟩
 cases fl with
 | ret u =>
  obtain ⟨v, σ', H', J, rv, q⟩ := hs
  exact fin J rv q
 | next =>
  obtain ⟨σ', H', J, q⟩ := hs
  exact fin (v := V.non) (u := Value.none) J rfl q
 | brk =>
  obtain ⟨_, _, _, q⟩ := hs
  exact False.elim q
 | cont =>
  obtain ⟨_, _, _, q⟩ := hs
  exact False.elim q
end L2
namespace L2
open PySem PySem.Spec PyProof.Rows
section
variable {X : Cx} {x : Str} {p pos : Pos} {e : Expr} {es : List Expr} {t : TA} {id T : String} {r : List V -> Hp -> VK -> Prop}
def tCB (r : List V -> Hp -> VK -> Prop) (t : TA) : TE := fun σ H Q => t σ H fun vs H1 => r vs H1 Q
theorem wJ (hc : iV X (.type T) r) (hg : Gl X x) (hm : X.mg x = none) (hv : bootBuiltins x = some (.type T)) (ha : PA X (e :: es) t) (hn : x ≠ "__name__" := by decide) (hdb : (x == ("__debug__" : Str)) = false := by decide)
  (he : starEach (e :: es) X.env = (false, eval e X.env) :: starEach es X.env := by rfl) (hpl : (backTo pos (starEach es X.env)).any (·.1) = false := by rfl) : PE X (.Call (.Name x p) (e :: es) [] pos) (tCB r t) := by
 intro pins s σ H Q I h
 refine wpAny_Call_Name_kw (dJ I hg hm hv ?_ hn hdb)
 exact PyProof.Rows.callWith_type1 (thn (ha pos pins s σ H _ I h) fun us s1 ⟨vs, H1, I1, r1, q1⟩ => hc pins s1 σ H1 vs us Q I1 r1 q1) he hpl
end
end L2
namespace HT
open PySem PyProof.Rows
def lexLt : List Int -> List Int -> Bool
 | [], [] => false
 | [], _ :: _ => true
 | _ :: _, [] => false
 | x :: xs, y :: ys => if x = y then lexLt xs ys else decide (x < y)
section
open PySem.SeqAt
open PySem.AutoSeq1 (wpAny_loadPart')
open PySem.MeetsSeq PySem.MeetsSeq2 PySem.MeetsSeq3
end
section
variable {prog : Program} {w : World} {A : Around} {E : Value -> Shared -> Prop} {s : Shared}
def sIx (n d : Nat) : Option Int -> Nat
 | none => d
 | some v => if v < 0 then (v + (n : Int)).toNat else min v.toNat n
end
end HT
namespace L2
open PySem PySem.Spec PyProof.Rows
abbrev TO := St -> Hp -> (Option Int -> Hp -> Prop) -> Prop
theorem intsAre_of {ns : List Int} : ∀ {us : List Value}, Vals (ns.map V.int) us -> IntsAre us ns := by
 induction ns with
 | nil => intro us r; rw [zA8] at r; cases r; exact .nil
 | cons n ns ih =>
  intro us r
  rw [zAG] at r
  cases r with
  | cons r1 r2 =>
   obtain ⟨t, e⟩ := r1
   subst e
   exact .cons n t (ih r2)
section
variable {X : Cx} {e : Expr} {te : TE} {lo hi : Option Expr} {tl th : TO} {pos p2 : Pos}
def m9 (xs : List V) (lo hi : Option Int) : List V := (xs.drop (HT.sIx xs.length 0 lo)).take (HT.sIx xs.length xs.length hi - HT.sIx xs.length 0 lo)
theorem rK (xs : List V) (lo hi : Option Int) : (m9 xs lo hi).length <= xs.length := by
 unfold m9
 rw [zAc, zAo]
 omega
end
end L2
namespace L2
open PySem PySem.Spec PyProof.Rows
def ixN (n : Nat) (i : Int) : Option Nat := if 0 <= i then (if i < n then some i.toNat else none) else if -(n : Int) <= i then some (i + n).toNat else none
def atI {α : Type} (xs : List α) (i : Int) : Option α := (ixN xs.length i).bind fun j => xs[j]?
theorem sZ {n : Nat} {i : Int} {j : Nat} (h : ixN n i = some j) : seqIndex? i n = some j /\ j < n /\ -(n : Int) <= i /\ i < n := by
 unfold ixN at h
 by_cases h0 : 0 <= i
 ·rw [if_pos h0] at h
  by_cases h1 : i < n
  ·rw [if_pos h1] at h
   have e : i.toNat = j := zAd h
   exact ⟨by rw [seqIndex_of h0 h1, e], by omega, by omega, h1⟩
  ·rw [if_neg h1] at h; cases h
 ·rw [if_neg h0] at h
  by_cases h1 : -(n : Int) <= i
  ·rw [if_pos h1] at h
   have e : (i + n).toNat = j := zAd h
   exact ⟨by rw [seqIndex_neg (by omega) h1, e], by omega, h1, by omega⟩
  ·rw [if_neg h1] at h; cases h
theorem sF {α : Type} {xs : List α} {i : Int} {v : α} (h : atI xs i = some v) : ∃ j, seqIndex? i xs.length = some j /\ xs[j]? = some v /\ j < xs.length /\ -(xs.length : Int) <= i /\ i < xs.length := by
 unfold atI at h
 cases e : ixN xs.length i with
 | none => rw [e] at h; cases h
 | some j =>
  rw [e] at h
  obtain ⟨h1, h2, h3, h4⟩ := sZ e
  exact ⟨j, h1, h, h2, h3, h4⟩
theorem fU {α : Type} {xs : List α} {j : Nat} {v : α} (h : xs[j]? = some v) : atI xs (j : Int) = some v := by
 have hj : j < xs.length := (zAF.mp h).1
 have e : ixN xs.length (j : Int) = some j := by
  unfold ixN
  rw [if_pos (by omega), if_pos (by omega)]; simp
 unfold atI; rw [e]; exact h
def yQ (b : Expr) : Prop := ∀ o i, subscripted b false o i = operate [o, i] (getItem o i)
def IxR (X : Cx) (r : R2) : Prop :=
 ∀ (value slice : Expr) (pins : List (Addr × Obj)) (s : Shared) (σ : St) (H : Hp) (x y : V) (v u : Value) (Q : VK), Inv X pins σ H s -> RelV x v -> RelV y u -> r x y H Q →
  subscripted slice false v u = operate [v, u] (getItem v u) -> wpAny (model X.prog X.w) X.A (subscriptTail value slice v u) (EP X pins σ Q) X.xe s
def MtR (X : Cx) (id : String) (r : V -> List V -> Hp -> VK -> Prop) : Prop :=
 ∀ (pins : List (Addr × Obj)) (s : Shared) (σ : St) (H : Hp) (x : V) (xs : List V) (v : Value) (us : List Value) (Q : VK), Inv X pins σ H s -> RelV x v -> Vals xs us -> r x xs H Q →
  wpAny (model X.prog X.w) X.A (call (.builtin id) (v :: us)) (EP X pins σ Q) X.xe s
section
variable {X : Cx} {a b : Expr} {ta tb : TE} {pos : Pos}
def BZ (K : PySem.W.Frag) : R2 := fun x y H Q => ∃ p xs i v, x = .ref p /\ y = .int i /\ SqL K H p xs /\ atI xs i = some v /\ Q v H
def B3 (K : PySem.W.Frag) : R2 := fun x y H Q => ∃ p xs i v, x = .ref p /\ y = .int i /\ SqT K H p xs /\ atI xs i = some v /\ Q v H
theorem zc : IxR X (BZ X.K) := by
 intro value slice pins s σ H x y v u Q I rx ry h hs
 obtain ⟨p, xs, i, z, rfl, rfl, hq, he, q⟩ := h
 cases rx
 obtain ⟨t, rfl⟩ := ry
 obtain ⟨its, r, pl, hz⟩ := I.list hq
 obtain ⟨j, h1, h2, h3, h4, h5⟩ := sF he
 obtain ⟨w, ew, rw'⟩ := r.get h2
 have hl := r.length
 have hn := mE
 have fin : EP X pins σ Q w s := ⟨z, H, I, rw', q⟩
 by_cases h0 : 0 <= i
 ·have hj : i.toNat = j := by
   rw [seqIndex_of h0 h5] at h1
   exact zAd h1
  exact item_listR pl.isList h0 (by omega) (by rw [hj]; simpa using ew) fin hs
 ·have hj : (i + (its.toArray.size : Int)).toNat = j := by
   rw [seqIndex_neg (by omega) h4] at h1
   rw [zAP, <- hl]
   exact zAd h1
  exact subscriptTail_builtinR (x := w) pl.isList.typeIs slot_list_getitem.lookup
   (wpAny_getItem_list_neg (Q := fun r s' => r = w /\ EP X pins σ Q r s') pl.isList (by omega) (by rw [zAP] <;> omega) (by omega) (by rw [hj]; simpa using ew) ⟨rfl, fin⟩) hs
theorem Aw : IxR X (B3 X.K) := by
 intro value slice pins s σ H x y v u Q I rx ry h hs
 obtain ⟨p, xs, i, z, rfl, rfl, hq, he, q⟩ := h
 cases rx
 obtain ⟨t, rfl⟩ := ry
 obtain ⟨its, r, pl, hz⟩ := I.tuple hq
 obtain ⟨j, h1, h2, h3, h4, h5⟩ := sF he
 obtain ⟨w, ew, rw'⟩ := r.get h2
 have hl := r.length
 have hn := mE
 have fin : EP X pins σ Q w s := ⟨z, H, I, rw', q⟩
 exact subscriptTail_builtinR (x := w) pl.typeIs slot_tuple_getitem.lookup
  (getItem_tuple (j := j) (Q := fun r s' => r = w /\ EP X pins σ Q r s') pl (by omega) (by omega) (by rw [zAP, <- hl]; exact h1) (by simpa using ew) ⟨rfl, fin⟩) hs
theorem uN (its : List Value) (n j : Nat) (u : Value) : Obj.mapSeq (·.setIfInBounds j u) { cls := .type "list", data := .seq its.toArray n } = { cls := .type "list", data := .seq (its.set j u).toArray n } := by
 simp [Obj.mapSeq]
theorem Inv.lst {pins : List (Addr × Obj)} {σ : St} {H : Hp} {s : Shared} {p : Addr} {xs : List V} (I : Inv X pins σ H s) (h : H p = some (.lst xs)) :
  ∃ (its : List Value) (n : Nat), Vals xs its /\ s.heap.get? p = some { cls := .type "list", data := .seq its.toArray n } /\ xs.length <= sizeLine := by
 obtain ⟨z, its, n, r, e⟩ := I.hok p _ h
 exact ⟨its, n, r, e, z⟩
theorem Inv.lstUpd {pins : List (Addr × Obj)} {σ : St} {H : Hp} {s : Shared} {p : Addr} {xs ys : List V} {its its' : List Value} {n n' : Nat} {f : Obj -> Obj} (I : Inv X pins σ H s) (h : H p = some (.lst xs))
  (ho : s.heap.get? p = some { cls := .type "list", data := .seq its.toArray n }) (hf : f { cls := .type "list", data := .seq its.toArray n } = { cls := .type "list", data := .seq its'.toArray n' }) (r : Vals ys its') (hz : ys.length <= sizeLine) (t : Nat) :
  Inv X pins σ (upd H p (.lst ys)) { s with heap := s.heap.update p f, toks := t } := by
 have e : (s.heap.update p f).get? p = some { cls := .type "list", data := .seq its'.toArray n' } := by
  rw [zA1 f ho (by rw [hf] <;> rfl), hf]
 refine I.write (x := p) (e := p) (by rw [h]; trivial) (.inl rfl) (fun b u hb q => (zA5 _ _ (Ne.symm hb)).trans q) ⟨_, e⟩ ?_
 exact ⟨hz, its', n', r, e⟩
def Bx : V -> V -> V -> Hp -> (Hp -> Prop) -> Prop := fun o i v H Q => ∃ p xs k j, o = .ref p /\ i = .int k /\ H p = some (.lst xs) /\ ixN xs.length k = some j /\ Q (upd H p (.lst (xs.set j v)))
theorem set_list : BI X Bx := by
 intro pins s σ H o i v ov iv u Q I ro ri rv h
 obtain ⟨p, xs, k, j, rfl, rfl, hp, hj, q⟩ := h
 cases ro
 obtain ⟨t, rfl⟩ := ri
 obtain ⟨its, n, r, ho, hz⟩ := I.lst hp
 obtain ⟨h1, h2, h3, h4⟩ := sZ hj
 have hl := r.length
 have hn := mE
 have I' : Inv X pins σ (upd H p (.lst (xs.set j v))) { s with heap := s.heap.update p (Obj.mapSeq (·.setIfInBounds j u)) } :=
  I.lstUpd hp ho (uN its n j u) (r.set rv j) (by rw [List.length_set]; exact hz) s.toks
 by_cases h0 : 0 <= k
 ·have hk : k.toNat = j := by
   rw [seqIndex_of h0 h4] at h1
   exact zAd h1
  exact PySem.W.ki_setAt ho h0 (by omega) (by rw [zAP, <- hl]; exact h4) (by rw [hk]; exact ⟨_, I', q⟩)
 ·have hk : (k + (its.toArray.size : Int)).toNat = j := by
   rw [seqIndex_neg (by omega) h3] at h1
   rw [zAP, <- hl]
   exact zAd h1
  exact PySem.W.ki_setBack ho (by omega) (by rw [zAP, <- hl]; exact h3) (by omega) (by rw [hk]; exact ⟨_, I', q⟩)
theorem rq (lo hi : Option Int) (n : Nat) : (sliceBounds lo hi none n).1 = ((HT.sIx n 0 lo : Nat) : Int) /\ (sliceBounds lo hi none n).2.1 = ((HT.sIx n n hi : Nat) : Int) /\ (sliceBounds lo hi none n).2.2 = 1 := by
 refine ⟨?_, ?_, rfl⟩
 ·cases lo with
  | none => simp [sliceBounds, HT.sIx]
  | some i =>
   simp only [sliceBounds, HT.sIx, Option.getD_none, show (1 : Int) > 0 by decide, if_true]
   by_cases h : i < 0
   ·simp only [h, if_true] <;> omega
   ·simp only [h, if_false] <;> omega
 ·cases hi with
  | none => simp [sliceBounds, HT.sIx]
  | some i =>
   simp only [sliceBounds, HT.sIx, Option.getD_none, show (1 : Int) > 0 by decide, if_true]
   by_cases h : i < 0
   ·simp only [h, if_true] <;> omega
   ·simp only [h, if_false] <;> omega
theorem o3 (its : List Value) (lo hi : Option Int) : slicePick its.toArray lo hi none = ((its.drop (HT.sIx its.length 0 lo)).take (HT.sIx its.length its.length hi - HT.sIx its.length 0 lo)).toArray := by
 obtain ⟨h1, h2, h3⟩ := rq lo hi its.toArray.size
 unfold slicePick
 rw [h1, h2, h3]
 simp only [sliceRange_one, pick_run, zAP] <;> rfl
theorem pR : iV X (.builtin "len") (fun xs H Q => ∃ p ys, xs = [.ref p] /\ (SqL X.K H p ys ∨ SqT X.K H p ys) /\ Q (.int ys.length) H) := by
 intro pins s σ H xs us Q I r h
 obtain ⟨p, ys, rfl, hq, q⟩ := h
 obtain ⟨u, rfl, rx⟩ := vals1 r
 cases rx
 have hn := mE
 rcases hq with hq | hq
 ·obtain ⟨its, r', pl, hz⟩ := I.list hq
  have hlen := r'.length
  exact Calls.call_len_list pl.isList (by simp only [zAP] <;> omega) ⟨.int ys.length, H, I.tok _, ⟨s.toks + 1, by rw [zAP, hlen]⟩, q⟩
 ·obtain ⟨its, r', pl, hz⟩ := I.tuple hq
  have hlen := r'.length
  exact len_tuple pl (by simp only [zAP] <;> omega) ⟨.int ys.length, H, I.tok _, ⟨s.toks + 1, by rw [zAP, hlen]⟩, q⟩
def tyV (K : PySem.W.Frag) (T : String) (x : V) (H : Hp) : Prop := match x with
 | .str _ => T = "str"
 | .int _ => T = "int"
 | .ref p => (T = "list" /\ ∃ xs, SqL K H p xs) ∨ (T = "tuple" /\ ∃ o, K.lookup p = some o /\ o.cls = .type "tuple" /\ o.dict = none) ∨
   (T = "dict" /\ ((∃ kvs, H p = some (.dK kvs)) ∨ ∃ kvs, H p = some (.dT kvs))) ∨ (T = "set" /\ ∃ S n, H p = some (.set S n))
 | _ => False
theorem wY {pins : List (Addr × Obj)} {σ : St} {H : Hp} {s : Shared} {T : String} {x : V} {v : Value} (I : Inv X pins σ H s) (r : RelV x v) (ty : tyV X.K T x H) :
  s.TypeIs v T /\ ∀ a, v = .ref a -> ∃ ob, s.heap.get? a = some ob /\ ob.dict = none := by
 cases x with
 | str z =>
  obtain ⟨t, rfl⟩ := r
  cases (show T = "str" from ty)
  exact ⟨typeIs_str s z t, fun _ e => nomatch e⟩
 | int i =>
  obtain ⟨t, rfl⟩ := r
  cases (show T = "int" from ty)
  exact ⟨typeIs_int s i t, fun _ e => nomatch e⟩
 | ref p =>
  cases r
  rcases ty with ⟨rfl, xs, hq⟩ | ⟨rfl, o, hk, hc, hd⟩ | ⟨rfl, hk⟩ | ⟨rfl, S, n, hk⟩
  ·obtain ⟨its, _, pl, _⟩ := I.list hq
   refine ⟨pl.isList.typeIs, fun a e => ?_⟩
   cases e
   obtain ⟨o, n, e, c, hd, _⟩ := pl
   exact ⟨o, e, hd⟩
  ·refine ⟨⟨o, I.kIn p o hk, hc⟩, fun a e => ?_⟩
   cases e
   exact ⟨o, I.kIn _ o hk, hd⟩
  ·have z : ∃ o, s.heap.get? p = some o /\ o.ExactDict := by
    rcases hk with ⟨kvs, hk⟩ | ⟨kvs, hk⟩
    ·obtain ⟨_, _, _, _, o, _, _, e, ex, _⟩ := I.hok p _ hk
     exact ⟨o, e, ex⟩
    ·obtain ⟨_, _, _, _, o, _, _, e, ex, _⟩ := I.hok p _ hk
     exact ⟨o, e, ex⟩
   obtain ⟨o, e, ex⟩ := z
   refine ⟨⟨o, e, ex.1⟩, fun a e2 => ?_⟩
   cases e2
   exact ⟨o, e, ex.2.1⟩
  ·obtain ⟨o, _, _, _, e, ex, _⟩ := I.hok p _ hk
   refine ⟨⟨o, e, ex.1⟩, fun a e2 => ?_⟩
   cases e2
   exact ⟨o, e, ex.2.1⟩
 | _ => exact False.elim ty
def B5 (K : PySem.W.Frag) (T : String) (r : V -> List V -> Hp -> VK -> Prop) (to : TE) : TE := fun σ H Q => to σ H fun x H1 => tyV K T x H1 /\ r x [] H1 Q
def tBM (K : PySem.W.Frag) (T : String) (r : V -> List V -> Hp -> VK -> Prop) (to : TE) (t : TA) : TE := fun σ H Q => to σ H fun x H1 => tyV K T x H1 /\ t σ H1 fun xs H2 => r x xs H2 Q
variable {o e : Expr} {es : List Expr} {to : TE} {t : TA} {name : Str} {apos cpos : Pos} {T id : String} {r : V -> List V -> Hp -> VK -> Prop}
theorem AR (pa : PlainAttrs T) (slot : Slot T name id) (hty : typeOf (.builtin id) = pure (.type "method_descriptor")) (hm : MtR X id r) (ho : PE X o to)
  (hbase : attributeBase o name X.env (eval o X.env) = eval o X.env := by rfl) (hline : (apos.endLine == cpos.line) = true := by rfl) : PE X (.Call (.Attribute o name apos) [] [] cpos) (B5 X.K T r to) := by
 intro pins s σ H Q I h
 refine wpAny_Call_method0_late hbase hline (thn (ho pins s σ H _ I h) fun v s1 ⟨x, H1, I1, r1, ty, q1⟩ => ?_)
 obtain ⟨h1, h2⟩ := wY I1 r1 ty
 exact ⟨T, id, pa, slot, hty, h1, h2, Calls.callWith_builtin rfl (PySem.evalArgs_none (hm pins s1 σ H1 x [] v [] Q I1 r1 .nil q1))⟩
theorem yH (pa : PlainAttrs T) (slot : Slot T name id) (hty : typeOf (.builtin id) = pure (.type "method_descriptor")) (hm : MtR X id r) (ho : PE X o to) (ha : PA X (e :: es) t)
  (hbase : attributeBase o name X.env (eval o X.env) = eval o X.env := by rfl)
  (hfew : ((backTo cpos (starEach (e :: es) X.env)).all (fun x => !x.1) && (backToKw cpos (keywordEach [] X.env)).all (fun x => x.1.isSome)
   && decide ((e :: es).length + ([] : List Keyword).length + (if ([] : List Keyword).isEmpty then 0 else 1) < 30)) = true := by rfl)
  (hline : (apos.endLine == cpos.line) = true := by rfl) (hs : starEach (e :: es) X.env = (false, eval e X.env) :: starEach es X.env := by rfl) (hplain : (backTo cpos (starEach es X.env)).any (·.1) = false := by rfl) :
  PE X (.Call (.Attribute o name apos) (e :: es) [] cpos) (tBM X.K T r to t) := by
 intro pins s σ H Q I h
 refine wpAny_Call_method_late hbase hfew hline rfl (thn (ho pins s σ H _ I h) fun v s1 ⟨x, H1, I1, r1, ty, q1⟩ => ?_)
 obtain ⟨h1, h2⟩ := wY I1 r1 ty
 refine ⟨T, id, pa, slot, hty, h1, h2, ?_⟩
 have hA := ha cpos pins s1 σ H1 _ I1 q1
 rw [hs] at hA ⊢
 refine Calls.callWith_builtin (by show (false || (backTo cpos (starEach es X.env)).any (·.1)) = false; rw [hplain] <;> rfl) (Calls.evalArgs_plain ?_)
 exact thn hA fun us s2 ⟨vs, H2, I2, r2, q2⟩ => hm pins s2 σ H2 x vs v us Q I2 r1 r2 q2
end
end L2
namespace L2
open PySem PySem.Spec PyProof.Rows
def MtM (X : Cx) (id : String) (r : V -> List V -> Hp -> VK -> Prop) : Prop :=
 ∀ (pins : List (Addr × Obj)) (s : Shared) (σ : St) (H : Hp) (x : V) (xs : List V) (v : Value) (us : List Value) (Q : VK), Inv X pins σ H s -> RelV x v -> Vals xs us -> r x xs H Q →
  wpAny (model X.prog X.w) X.A (call (.builtin id) (v :: us)) (EP X pins σ Q) X.xe s
theorem Vals.one : ∀ {x : V} {us : List Value}, Vals [x] us -> ∃ u, us = [u] /\ RelV x u
 | _, _, .cons r .nil => ⟨_, rfl, r⟩
section
variable {X : Cx} {pins : List (Addr × Obj)} {σ : St} {H : Hp} {s : Shared} {l b : Addr} {xs ys zs : List V}
theorem Inv.lset {its its' : List Value} {n : Nat} {f : Array Value -> Array Value} {t' : Nat} (I : Inv X pins σ H s) (hH : H l = some (.lst xs))
  (e : s.heap.get? l = some { cls := .type "list", data := .seq its.toArray n }) (hf : f its.toArray = its'.toArray) (hv : Vals ys its') (hz : ys.length <= sizeLine) :
  Inv X pins σ (upd H l (.lst ys)) { s with heap := s.heap.update l (Obj.mapSeq f), toks := t' } := by
 have q := PySem.IsL.update e f
 rw [hf] at q
 refine I.write (x := l) (e := l) (by rw [hH]; exact trivial) (.inl rfl) (fun b' u hb hu => (zA5 s.heap (Obj.mapSeq f) (Ne.symm hb)).trans hu) ⟨_, q⟩ ?_
 exact ⟨hz, its', _, hv, q⟩
theorem Inv.lstM (I : Inv X pins σ H s) (hH : H l = some (.lst xs)) : xs.length <= sizeLine /\ ∃ (its : List Value) (n : Nat), Vals xs its /\ xs.length = its.length /\ s.heap.get? l = some { cls := .type "list", data := .seq its.toArray n } := by
 obtain ⟨z, its, n, r, e⟩ := I.hok l _ hH
 exact ⟨z, its, n, r, r.length, e⟩
theorem xR {n : Nat} (h : n <= sizeLine) : Builtin.List.listTooLong n = false := by
 unfold Builtin.List.listTooLong
 exact decide_eq_false (by omega)
end
section
variable {X : Cx}
def zL : V -> List V -> Hp -> VK -> Prop := fun x vs H Q => ∃ l xs y, x = .ref l /\ vs = [y] /\ H l = some (.lst xs) /\ xs.length < sizeLine /\ Q .non (upd H l (.lst (xs ++ [y])))
theorem oB : MtM X "list.append" zL := by
 intro pins s σ H x vs v us Q I rx rv h
 obtain ⟨l, xs, y, rfl, rfl, hH, hz, q⟩ := h
 cases rx
 obtain ⟨u, rfl, ru⟩ := rv.one
 obtain ⟨z, its, n, r, hl, e⟩ := I.lstM hH
 refine call_meets F.slot_list_append ⟨_, e, rfl⟩ F.entry_list_append (F.args_list_append_2 _ _) (PySem.list_append l its.toArray n u (by rw [zAP]; omega)) ⟨e, ?_⟩
 refine ⟨.non, _, I.lset (its' := its ++ [u]) hH e (by simp) (r.append (.cons ru .nil)) ?_, rfl, q⟩
 rw [zAR, List.length_singleton]
 omega
def zM : V -> List V -> Hp -> VK -> Prop := fun x vs H Q => ∃ l b xs zs, x = .ref l /\ vs = [.ref b] /\ H l = some (.lst xs) /\ H b = some (.lst zs) /\ xs.length + zs.length <= sizeLine /\ Q .non (upd H l (.lst (xs ++ zs)))
theorem wA : MtM X "list.extend" zM := by
 intro pins s σ H x vs v us Q I rx rv h
 obtain ⟨l, b, xs, zs, rfl, rfl, hH, hB, hz, q⟩ := h
 cases rx
 obtain ⟨u, rfl, ru⟩ := rv.one
 cases ru
 obtain ⟨z, its, n, r, hl, e⟩ := I.lstM hH
 obtain ⟨z2, its2, n2, r2, hl2, e2⟩ := I.lstM hB
 have hsz : its.toArray.size + its2.toArray.size <= sizeLine := by rw [zAP, zAP]; omega
 have hlong : ¬ (!its.toArray.isEmpty && Builtin.List.listTooLong (its.toArray.size + its2.toArray.size)) = true := by
  rw [xR hsz, Bool.and_false]
  exact zAQ
 refine call_meets F.slot_list_extend ⟨_, e, rfl⟩ F.entry_list_extend (F.args_list_extend_2 _ _)
  (AutoSeq1.list_extend_list_list_0 l its.toArray n b its2.toArray n2 hlong (by rw [zAP]; omega) (by omega)) ⟨e, e2, ?_⟩
 refine ⟨.non, _, I.lset (its' := its ++ its2) hH e (by simp) (r.append r2) ?_, rfl, q⟩
 rw [zAR]
 omega
end
section
variable {prog : Program} {w : World} {A : Around} {E : Value -> Shared -> Prop} {s : Shared}
set_option maxRecDepth 100000 in
end
section
variable {X : Cx}
end
end L2
namespace Att
open PySem PySem.W PySem.Calls PyProof.Rows
theorem mv {P : Params} {h : Heap} : ∀ (ns : List Int) (vs : List Value), WellAll P h vs (ns.map WData.int) -> IntsAre vs ns := by
 intro ns
 induction ns with
 | nil =>
  intro vs w
  rw [zA8] at w
  cases w
  exact .nil
 | cons n ns ih =>
  intro vs w
  rw [zAG] at w
  cases w with
  | cons a b =>
   cases a
   exact .cons _ _ (ih _ b)
theorem wQ {l : OpenLaw} {n : Nat} (hn : l.most = some n) {P : Params} {h : Heap} {args : List WData} {vals : List Value}
  (hpre : l.row.toRowW.claim.pre args = true) (hwl : WellAll P h vals args) :
  ∃ a vs ns, vals = [Value.ref a] /\ args = [WData.list (ns.map WData.int)] /\ h.get? a = some { cls := .type "list", data := .seq vs.toArray } /\ IntsAre vs ns /\ ns.length <= n := by
 have hsh : WShape.hasAll [] args [.list .int] = true := (pre_splitW hpre).1
 have hc : l.pre.holds [] { args := args } = true := (pre_splitW hpre).2
 obtain ⟨d, r, rfl, h1, h2⟩ := hasAllW_cons hsh
 obtain rfl := hasAllW_nil h2
 obtain ⟨xs, rfl, h3⟩ := hasW_list h1
 obtain ⟨ns, rfl⟩ := items_int h3
 have hlen : ns.length <= n := by
  unfold OpenLaw.pre at hc
  have h4 : (WTm.not (.lt (.lit (.int (n : Int))) (.len (.arg 0)))).holds [] { args := [.list (ns.map .int)] } = true := by
   have h4 := (holds_andW hc).1
   rw [hn] at h4
   exact h4
  have h5 := condW_of h4 (w_not (w_lt w_lit (w_len_list (w_arg rfl))))
  rw [zAA] at h5
  refine Nat.le_of_not_lt fun q => ?_
  have q' : (n : Int) < ((ns.length : Nat) : Int) := by omega
  first
   | (rw [decide_eq_true q'] at h5; exact absurd h5 (by decide))
   | (simp at h5; omega)
 cases hwl with
 | cons w1 w2 =>
  cases w2
  cases w1 with
  | list ho hall => exact ⟨_, _, ns, rfl, rfl, ho, mv ns _ hall, hlen⟩
theorem wL (l : OpenLaw) (args : List WData) : l.row.toRowW.claim.post args (.bool true) args = true :=
 postW_of (r := l.row.toRowW) (X := (true == true))
  (show WShape.has [] (.bool true) .bool = true by first | rfl | decide | simp [WShape.has, WShape.arms, WShape.armsAll])
  (show (WTm.eq .res (.lit (.bool true))).value [] { args := args, res := some (.bool true), after := args } = some (.bool (true == true)) from w_eq_bool (w_res rfl) w_lit) rfl
theorem rG {l : OpenLaw} {n : Nat} {q : Program} {loose : List Str} {XP : (Str -> Option Value) -> Heap -> Prop} {YP : World -> Heap -> Prop} {d : DefRec}
  (hn : l.most = some n) (hdf : d.params.defaults = [])
  (call : ∀ (w : World) (s₀ s₁ : Shared) (mg mb : Str -> Option Value) (fa : Addr) (o : Obj) (pm cd doc : Value) (a : Addr) (vs : List Value) (ns : List Int),
   Ground q loose [] XP w s₀ mg mb s₁.heap -> YP w s₁.heap →
   s₁.heap.get? fa = some o -> o.data = .func (docDef d.name d.params d.body d.scope pm cd doc) -> s₁.heap.CodeRec cd d.name -> mg d.name = some (.ref fa) →
   s₁.heap.get? a = some { cls := .type "list", data := .seq vs.toArray } -> IntsAre vs ns -> ns.length <= n -> s₁.gens = #[] →
   codeAny (model l.prog w) callerA (.call (.ref fa) ⟨[.ref a], []⟩) (fun r s' => r = .ok (.ret (.bool true)) /\ OldK s₁.heap s'.heap /\ s'.os = s₁.os /\ AllBare s'.gens) s₁) :
  WalkO q loose XP YP l.row.toRowW d [] (fun f vs => PySem.call f vs) := by
 intro w s₀ s₁ mg mb G Y fa o pm cd doc dV kV ho hd hcd hD hmg hg args vals as hpre hlay hrd hwl hlo
 obtain rfl : dV = .none := Dflts.none hD hdf
 obtain rfl : kV = .none := Dflts.noKw hD
 obtain ⟨a, vs, ns, rfl, rfl, hobj, hints, hlen⟩ := wQ hn hpre hwl
 refine enter_call (codeAny_mono (call w s₀ s₁ mg mb fa o pm cd doc a vs ns G Y ho (fd_plain hd) hcd hmg hobj hints hlen hg) fun r s' hq => ?_)
 obtain ⟨rfl, h2, h3, h4⟩ := hq
 exact ⟨.inl ⟨.bool true, .bool true, [], rfl, fun _ => rfl, .bool true, wL l _, fun _ => ⟨List.Pairwise.nil, fun _ hm => (nomatch hm)⟩⟩, h2, h3, h4⟩
section
variable {prog : Program} {w : World} {A : Around} {E : Value -> Shared -> Prop} {s : Shared} {K : Frag}
def ledger (h : Heap) (L d : Addr) : List (Addr × Obj) := (List.range h.objs.size).filterMap fun a => if a = L ∨ a = d then none else (h.get? a).map fun o => (a, o)
end
end Att
namespace L2
open PySem PySem.Spec PyProof.Rows
theorem gU : ∀ {vs : List Value} {ns : List Int}, IntsAre vs ns -> Vals (ns.map V.int) vs
 | _, _, .nil => .nil
 | _, _, .cons n t h => .cons ⟨t, rfl⟩ (gU h)
def w8 (H : Hp) : Prop := ∀ b, H b = none ∨ ∃ o xs, H b = some (.frz o (.lst xs))
theorem xH {P : Program} {w : World} {K : PySem.W.Frag} {mg mb : Str -> Option Value} {CX : CXT} {k : Nat} {fa a : Addr} {fd : FuncData} {x : Str} {sp : Sp} {s₁ : Shared} {vs : List Value} {ns : List Int}
  (KX : K.In s₁.heap) (hns : s₁.heap.Ns mainGlobals mg) (hb : s₁.heap.Ns builtinsNs mb) (hbb : ∀ x : Str, x ≠ "__name__" -> mb x = bootBuiltins x) (hlim : s₁.heap.NoLimit) (hg : s₁.gens = #[])
  (ha : s₁.heap.get? a = some { cls := .type "list", data := .seq vs.toArray }) (hi : IntsAre vs ns) (hl : ns.length <= sizeLine) (hr : bE k callerA)
  (F : ∀ base : Heap, K.In base -> base.Ns mainGlobals mg -> aD P w K mg base CX k fa fd [x] sp) (hbind : ∀ (s : Shared) (u : Value), BindsTo s fd ⟨[u], []⟩ [(x, u)])
  (hsp : ∀ H : Hp, w8 H -> SqL K H a (ns.map V.int) -> sp [.ref a] H (fun v _ => v = .bl true) fun _ _ _ => False)
  (hCX : ∀ H e s', CX [] H s₁ (fun _ _ _ => False) e s' -> False) :
  codeAny (model P w) callerA (.call (.ref fa) ⟨[.ref a], []⟩) (fun r s' => r = .ok (.ret (.bool true)) /\ OldK s₁.heap s'.heap /\ s'.os = s₁.os /\ AllBare s'.gens) s₁ := by
 have rv := gU hi
 have lenV := hi.length
 have core : ∀ H : Hp, w8 H -> SqL K H a (ns.map V.int) -> HOk P w H s₁.heap -> (∀ b, H b ≠ none -> b = a) -> (H a ≠ none -> K.lookup a = none) →
   codeAny (model P w) callerA (.call (.ref fa) ⟨[.ref a], []⟩) (fun r s' => r = .ok (.ret (.bool true)) /\ OldK s₁.heap s'.heap /\ s'.os = s₁.os /\ AllBare s'.gens) s₁ := by
  intro H hO hS hok hA hK
  have base_of : ∀ {b : Addr} {o : Obj}, s₁.heap.get? b = some o -> H b = none -> (i9 s₁.heap H).get? b = some o := fun e n => xB e n
  have noA : ∀ {b : Addr} {o : Obj} {es : Array DictEntry} {ep : Nat}, s₁.heap.get? b = some o -> o.data = .dict es ep -> H b = none := fun {b o es ep} e d => by
   cases q : H b with
   | none => rfl
   | some u =>
    have e' : b = a := hA b (by rw [q]; simp)
    subst e'
    rw [ha] at e; cases e
    have d' : Data.seq vs.toArray _ = Data.dict es ep := d
    cases d'
  have nsK : ∀ {b : Addr} {m : Str -> Option Value}, s₁.heap.Ns b m -> (i9 s₁.heap H).Ns b m := fun {b m} ⟨o, es, ep, e, d, r⟩ => ⟨o, es, ep, base_of e (noA e d), d, r⟩
  have hKb : K.In (i9 s₁.heap H) := fun b o e => base_of (KX b o e) (by
   cases q : H b with
   | none => rfl
   | some u =>
    have e' : b = a := hA b (by rw [q]; simp)
    subst e'
    rw [hK (by rw [q]; simp)] at e; cases e)
  have hM : Mod K mg (i9 s₁.heap H) := ⟨hKb, nsK hns, ⟨mb, nsK hb, hbb⟩, let ⟨mc, h1, h2⟩ := hlim; ⟨mc, nsK h1, h2⟩⟩
  have e0 : tY P w K mg (i9 s₁.heap H) callerA [] s₁ H := ⟨rfl, hM, fun b o e => zu e, zBb (vX _ _), trivial, fun b hb => absurd (show b ∈ ([] : List Addr) from hb) (by simp), hok, .of_eq hg⟩
  refine codeAny_mono ((F _ hKb (nsK hns)).run callerA [] s₁ H ⟨[.ref a], []⟩ [.ref a] [.ref a] _ _ hr e0 (hbind s₁ (.ref a)) (.cons rfl .nil) (hsp H hO hS)) fun r s' h => ?_
  cases r with
  | error e => exact (hCX H e s' h).elim
  | ok fl =>
   cases fl with
   | next => exact False.elim h
   | brk => exact False.elim h
   | cont => exact False.elim h
   | ret u =>
    obtain ⟨v, H', os, bare, un, hok', r', q⟩ := h
    have q' : v = .bl true := q
    subst q'
    obtain rfl : u = Value.bool true := r'
    refine ⟨rfl, OldK.of_keep fun b o e => ?_, os, bare⟩
    cases q : H b with
    | none => exact un.keep b o e q (by intro z; exact absurd (show b ∈ ([] : List Addr) from z) (by simp)) (by simp)
    | some u =>
     rcases hO b with z | ⟨ob, xs, z⟩
     ·rw [q] at z; cases z
     ·have z2 := un.frzs b ob _ z
      obtain ⟨e1, _⟩ := hok b _ z
      obtain ⟨e2, _⟩ := hok' b _ z2
      rw [e] at e1; cases e1
      exact e2
 cases hk : K.lookup a with
 | some o =>
  have e := KX a o hk
  rw [ha] at e
  cases e
  refine core (fun _ => none) (fun _ => .inl rfl) (.inr ⟨_, vs.toArray, _, hk, rfl, rfl, rfl, by rw [zAP, lenV]; exact hl, by simpa using rv⟩) (fun b u z => by have z' : (none : Option HO) = some u := z; cases z') (fun b z => absurd rfl z) fun z => absurd rfl z
 | none =>
  refine core (fun b => if b = a then some (.frz { cls := .type "list", data := .seq vs.toArray } (.lst (ns.map V.int))) else none) (fun b => ?_) (.inl (.inr ⟨{ cls := .type "list", data := .seq vs.toArray }, if_pos rfl⟩)) (fun b u z => ?_) (fun b z => ?_) fun _ => hk
  ·by_cases hb : b = a
   ·exact .inr ⟨_, _, if_pos hb⟩
   ·exact .inl (if_neg hb)
  ·by_cases hb : b = a
   ·have z' := (if_pos hb).symm.trans z
    cases z'
    subst hb
    exact ⟨ha, by rw [zAA]; exact hl, vs, _, rv, ha⟩
   ·have z' := (if_neg hb).symm.trans z
    cases z'
  ·by_cases hb : b = a
   ·exact hb
   ·exact absurd (if_neg hb) z
end L2
namespace L2
open PySem PySem.Spec PyProof.Rows
theorem zX {l : PySem.W.OpenLaw} {n k : Nat} {q : Program} {loose : List Str} {XP : (Str -> Option Value) -> Heap -> Prop} {YP : World -> Heap -> Prop} {d : DefRec} {K : Params -> PySem.W.Frag} {CX : World -> CXT} {sp : World -> Sp} {x : Str}
  (hn : l.most = some n) (hn2 : n <= sizeLine) (hdf : d.params.defaults = []) (hr : bE k callerA)
  (hY : ∀ (w : World) (h : Heap), YP w h -> (K w.params).In h)
  (F : ∀ (w : World) (mg : Str -> Option Value) (fa : Addr) (h : Heap), (K w.params).In h -> h.Ns mainGlobals mg -> mg d.name = some (.ref fa) →
   ∃ fd : FuncData, (∀ (s : Shared) (u : Value), BindsTo s fd ⟨[u], []⟩ [(x, u)]) ∧
    ∀ base : Heap, (K w.params).In base -> base.Ns mainGlobals mg -> aD l.prog w (K w.params) mg base (CX w) k fa fd [x] (sp w))
  (hsp : ∀ (w : World) (H : Hp) (a : Addr) (ns : List Int), ns.length <= n -> w8 H -> SqL (K w.params) H a (ns.map V.int) -> sp w [.ref a] H (fun v _ => v = .bl true) fun _ _ _ => False)
  (hCX : ∀ (w : World) (H : Hp) (s : Shared) (e : Value) (s' : Shared), CX w [] H s (fun _ _ _ => False) e s' -> False) :
  PySem.W.WalkO q loose XP YP l.row.toRowW d [] (fun f vs => PySem.call f vs) := by
 refine Att.rG hn hdf fun w s₀ s₁ mg mb fa o pm cd doc a vs ns G Y ho hd hcd hmg hobj hints hlen hg => ?_
 have KX := hY w _ Y
 obtain ⟨fd, hb, hF⟩ := F w mg fa _ KX G.T.g hmg
 exact xH KX G.T.g G.T.b G.T.builtins G.T.nolimit hg hobj hints (zAX hlen hn2) hr hF hb (fun H hO hS => hsp w H a ns hlen hO hS) fun H e s' => hCX w H s₁ e s'
end L2
namespace L2
open PySem PySem.Spec PyProof.Rows
def bV (s : Stmt) : Arguments := match s with
 | .FunctionDef _ a _ _ _ _ _ _ _ _ => a
 | _ => { posonlyargs := [], args := [], vararg := none, kwonlyargs := [], kw_defaults := [], kwarg := none, defaults := [] }
def bC (s : Stmt) : List Stmt := match s with
 | .FunctionDef _ _ b _ _ _ _ _ _ _ => b
 | _ => []
def ai (s : Stmt) : Scope := match s with
 | .FunctionDef _ _ _ _ _ _ sc _ _ _ => sc
 | _ => { kind := .function, names := [], isGenerator := false, isCoroutine := false }
abbrev E0 : XK := fun _ _ _ => False
structure Fun (K : PySem.W.Frag) (x qual : Str) (st : Stmt) (f : Addr) (fd : FuncData) : Prop where
 ex : ∃ (oc : Value) (od : Option Addr) (kV doc pm : Value) (an : Option Addr) (cdv ct : Value) (osl : Array (Option Value)),
  fd = PySem.W.fnOf x qual (bV st) (bC st) (ai st) .none kV doc pm an cdv ct /\ K.lookup f = some ⟨oc, od, .func fd, osl⟩ /\ PySem.W.codeIn K cdv qual = true
 kp : PySem.W.keepIn K (.ref f) = true
section
variable {P : Program} {w : World} {K : PySem.W.Frag} {mg : Str -> Option Value} {base : Heap}
end
theorem ja {A : Around} {k : Nat} (hr : bE k A) : A.units + 1 < cLine := zCE (Nat.add_le_add_left (by decide : 1 <= 64) _) hr.units
section
variable {X : Cx}
theorem pv (i : Nat) {x : Str} {pos : Pos} (hN : X.N[i]? = some x := by rfl) (hv : Vis X.env.scope x := by first | exact Or.inl rfl | exact Or.inr (Or.inl rfl) | exact Or.inr (Or.inr rfl)) (hd : (x == ("__debug__" : Str)) = false := by decide)
  (hcd : (x == ("__classdict__" : Str)) = false := by decide) : PE X (.Name x pos) (A7 i) := cX hN hv hd hcd
end
def aj (H H' : Hp) : Prop := ∀ b o, H b = some o -> H' b = some o
theorem aj.refl (H : Hp) : aj H H := fun _ _ h => h
theorem aj.trans {H H1 H2 : Hp} (a : aj H H1) (b : aj H1 H2) : aj H H2 := fun c o h => b c o (a c o h)
theorem aj.free {H H' : Hp} (e : aj H H') {l : Addr} (h : H' l = Option.none) : H l = Option.none := by
 cases q : H l with
 | none => rfl
 | some o =>
  rw [e l o q] at h
  cases h
theorem aj.seq {K : PySem.W.Frag} {H H' : Hp} {a : Addr} {xs : List V} (e : aj H H') (h : SqL K H a xs) : SqL K H' a xs := by
 rcases h with (h | ⟨o, h⟩) | h
 ·exact .inl (.inl (e _ _ h))
 ·exact .inl (.inr ⟨o, e _ _ h⟩)
 ·exact .inr h
end L2
set_option maxHeartbeats 4000000
namespace L2
open PySem PySem.Spec PyProof.Rows
section
variable {κ : Type} [DecidableEq κ]
def bZ (kvs : List (κ × V)) (k : κ) : Option V := (kvs.find? fun kv => decide (kv.1 = k)).map (·.2)
def putK (kvs : List (κ × V)) (k : κ) (v : V) : List (κ × V) :=
 if (kvs.any fun kv => decide (kv.1 = k)) = true then kvs.map (fun kv => if kv.1 = k then (kv.1, v) else kv) else kvs ++ [(k, v)]
theorem yt {k : κ} : bZ ([] : List (κ × V)) k = none := rfl
theorem jB {p : κ × V} {r : List (κ × V)} {k : κ} (e : p.1 = k) : bZ (p :: r) k = some p.2 := by simp [bZ, zA2, e]
theorem jA {p : κ × V} {r : List (κ × V)} {k : κ} (e : ¬ p.1 = k) : bZ (p :: r) k = bZ r k := by simp [bZ, zA2, e]
theorem eN (k : κ) : ∀ kvs : List (κ × V), (kvs.any fun kv => decide (kv.1 = k)) = (bZ kvs k).isSome
 | [] => rfl
 | p :: r => by
  rw [zB7]
  by_cases e : p.1 = k
  ·simp only [jB e, decide_eq_true e, Bool.true_or, Option.isSome_some]
  ·rw [jA e, decide_eq_false e, Bool.false_or]; exact eN k r
theorem hV (kvs : List (κ × V)) (k : κ) (v : V) : (putK kvs k v).length <= kvs.length + 1 := by
 unfold putK
 split
 ·rw [zAA]; omega
 ·rw [zAR, zAn, List.length_nil]; omega
theorem x9 {kvs : List (κ × V)} {k : κ} (v : V) (h : bZ kvs k = none) : putK kvs k v = kvs ++ [(k, v)] := by
 unfold putK
 rw [eN, h]
 exact if_neg (by decide)
theorem gc.isSome_eq {o : Option V} {u : Option Value} (r : gc o u) : o.isSome = u.isSome := by
 cases o with
 | none => cases u with
  | none => rfl
  | some _ => exact (show False from r).elim
 | some _ => cases u with
  | none => exact (show False from r).elim
  | some _ => rfl
theorem KV.val {kvs : List (κ × V)} {vs : List (κ × Value)} (r : KV kvs vs) (k : κ) : gc (bZ kvs k) (valueAt vs k) := by
 unfold KV at r
 induction r with
 | nil => exact True.intro
 | @cons p q ps qs h t ih =>
  obtain ⟨h1, h2⟩ := h
  by_cases e : p.1 = k
  ·have e' : q.1 = k := h1.symm.trans e
   have b : valueAt (q :: qs) k = some q.2 := by simp [valueAt, zA2, e']
   rw [jB e, b]; exact h2
  ·have e' : ¬ q.1 = k := fun z => e (h1.trans z)
   have b : valueAt (q :: qs) k = valueAt qs k := by simp [valueAt, zA2, e']
   rw [jA e, b]; exact ih
theorem KV.any {kvs : List (κ × V)} {vs : List (κ × Value)} (r : KV kvs vs) (k : κ) : (kvs.any fun kv => decide (kv.1 = k)) = vs.any fun kv => decide (kv.1 = k) := by
 unfold KV at r
 induction r with
 | nil => rfl
 | cons h t ih => rw [zB7, zB7, ih, h.1]
theorem KV.repl {kvs : List (κ × V)} {vs : List (κ × Value)} (r : KV kvs vs) (k : κ) {y : V} {u : Value} (ry : RelV y u) :
  KV (kvs.map fun kv => if kv.1 = k then (kv.1, y) else kv) (vs.map fun kv => if kv.1 = k then (kv.1, u) else kv) := by
 unfold KV at r ⊢
 induction r with
 | nil => exact .nil
 | @cons p q ps qs h t ih =>
  rw [zAG, zAG]
  refine .cons ?_ ih
  obtain ⟨h1, h2⟩ := h
  by_cases e : p.1 = k
  ·rw [if_pos e, if_pos (h1.symm.trans e)]; exact ⟨h1, ry⟩
  ·rw [if_neg e, if_neg (fun z => e (h1.trans z))]; exact ⟨h1, h2⟩
theorem KV.put {kvs : List (κ × V)} {vs : List (κ × Value)} (r : KV kvs vs) (k : κ) {y : V} {u : Value} (ry : RelV y u) : KV (putK kvs k y) (stored vs k u) := by
 unfold putK stored
 rw [r.any k]
 by_cases e : (vs.any fun kv => decide (kv.1 = k)) = true
 ·rw [if_pos e, if_pos e]; exact r.repl k ry
 ·rw [if_neg e, if_neg e]; exact Paired.snoc r ⟨rfl, ry⟩
theorem KV.length {kvs : List (κ × V)} {vs : List (κ × Value)} (r : KV kvs vs) : kvs.length = vs.length := Paired.length r
end
theorem o8 {P : Program} {w : World} {k : Key} {u : Value} (r : RelV (kV k) u) : (aW P w).is k u = true := by
 cases k with
 | inl i => obtain ⟨t, e⟩ := (show ∃ t, u = Value.int i t from r); subst e; exact rQ P w i t
 | inr x => obtain ⟨t, e⟩ := (show ∃ t, u = Value.str x t from r); subst e; exact rR P w x t
theorem jZ {P : Program} {w : World} : ∀ {ks : List Key} {us : List Value}, Vals (ks.map kV) us -> ItemsAre (aW P w) ks us
 | [], _, r => by rw [zA8] at r; cases r; exact .nil
 | k :: ks, _, r => by
  rw [zAG] at r
  cases r with
  | cons h t => exact .cons (o8 h) (jZ t)
abbrev KT (H : Hp) : List (List Key × V) -> List (List Key × Addr × Value) -> Prop := Paired fun p q => p.1 = q.1 /\ H q.2.1 = some (.tup (p.1.map kV)) /\ RelV p.2 q.2.2
theorem KT.val {H : Hp} {kvs : List (List Key × V)} {xs : List (List Key × Addr × Value)} (r : KT H kvs xs) (k : List Key) : gc (bZ kvs k) ((atKey xs k).map (·.2)) := by
 induction r with
 | nil => exact True.intro
 | @cons p q ps qs h t ih =>
  obtain ⟨h1, _, h2⟩ := h
  by_cases e : p.1 = k
  ·have e' : q.1 = k := h1.symm.trans e
   have b : atKey (q :: qs) k = some q.2 := by simp [atKey, zA2, e']
   rw [jB e, b]; exact h2
  ·have e' : ¬ q.1 = k := fun z => e (h1.trans z)
   have b : atKey (q :: qs) k = atKey qs k := by simp [atKey, zA2, e']
   rw [jA e, b]; exact ih
theorem KT.repl {H : Hp} {kvs : List (List Key × V)} {xs : List (List Key × Addr × Value)} (r : KT H kvs xs) (k : List Key) {y : V} {u : Value} (ry : RelV y u) :
  KT H (kvs.map fun kv => if kv.1 = k then (kv.1, y) else kv) (xs.map (putAt k u)) := by
 induction r with
 | nil => exact .nil
 | @cons p q ps qs h t ih =>
  rw [zAG, zAG]
  refine .cons ?_ ih
  obtain ⟨h1, h2, h3⟩ := h
  unfold putAt
  by_cases e : p.1 = k
  ·rw [if_pos e, if_pos (h1.symm.trans e)]; exact ⟨h1, h2, ry⟩
  ·rw [if_neg e, if_neg (fun z => e (h1.trans z))]; exact ⟨h1, h2, h3⟩
theorem KT.put {H : Hp} {kvs : List (List Key × V)} {xs : List (List Key × Addr × Value)} (r : KT H kvs xs) (k : List Key) {b : Addr} {y : V} {u : Value} (hb : H b = some (.tup (k.map kV))) (ry : RelV y u) :
  KT H (putK kvs k y) (storedH xs k b u) := by
 have e : (kvs.any fun kv => decide (kv.1 = k)) = (atKey xs k).isSome := by
  rw [eN, (r.val k).isSome_eq, Option.isSome_map]
 unfold putK storedH
 rw [e]
 by_cases q : (atKey xs k).isSome = true
 ·rw [if_pos q, if_pos q]; exact r.repl k ry
 ·rw [if_neg q, if_neg q]; exact Paired.snoc r ⟨rfl, hb, ry⟩
theorem KT.keeps {H H' : Hp} {kvs : List (List Key × V)} {xs : List (List Key × Addr × Value)} (r : KT H kvs xs) (ht : ∀ b ys, H b = some (.tup ys) -> H' b = some (.tup ys)) : KT H' kvs xs :=
 Paired.mapP r fun _ _ z => ⟨z.1, ht _ _ z.2.1, z.2.2⟩
section
variable {P : Program} {w : World} {H : Hp} {h : Heap} {a : Addr}
theorem yK {u : HO} (ok : HOk P w H h) (e : Rd H a u) : aT P w H h a u := e.ok ok
theorem uC {kvs : List (Key × V)} (ok : HOk P w H h) (e : Rd H a (.dK kvs)) : kvs.length <= sizeLine /\ (a == sysModules) = false /\ ∃ vs, KV kvs vs /\ h.DictOf (aW P w) a vs :=
 show aT P w H h a (.dK kvs) from yK ok e
theorem yx {kvs : List (Key × V)} (ok : HOk P w H h) (e : H a = some (.dK kvs)) : kvs.length <= sizeLine /\ (a == sysModules) = false /\ ∃ vs, KV kvs vs /\ h.DictOf (aW P w) a vs := uC ok (.inl e)
theorem mC {ks : List Key} (ok : HOk P w H h) (e : H a = some (.tup (ks.map kV))) : (tupleKind (aW P w)).is h ks a := by
 obtain ⟨_, its, r, o, h1, h2, n, h3⟩ := (show aT P w H h a (.tup (ks.map kV)) from ok a _ e)
 exact ⟨o, its.toArray, n, h1, h2, h3, by simpa using jZ r⟩
theorem uE {kvs : List (List Key × V)} (ok : HOk P w H h) (e : Rd H a (.dT kvs)) : kvs.length <= sizeLine /\ (a == sysModules) = false ∧
  ∃ xs, KT H kvs xs /\ h.DictOfH (tupleKind (aW P w)) a xs := by
 obtain ⟨z, y, xs, r, o, es, ep, h1, h2, h3, h4, h5⟩ := (show aT P w H h a (.dT kvs) from yK ok e)
 refine ⟨z, y, xs, r, o, es, ep, h1, h2, h3, h4, fun x hx => ?_, h5⟩
 have all : ∀ {l : List (List Key × V)} {m : List (List Key × Addr × Value)}, KT H l m -> ∀ x ∈ m, (tupleKind (aW P w)).is h x.1 x.2.1 := by
  intro l m q
  induction q with
  | nil => intro x hx; exact nomatch hx
  | @cons p q ps qs hq t ih =>
   intro x hx
   rcases zAN.mp hx with e | hx
   ·subst e
    exact mC ok (by rw [<- hq.1]; exact hq.2.1)
   ·exact ih x hx
 exact all r x hx
theorem i4 {kvs : List (List Key × V)} (ok : HOk P w H h) (e : H a = some (.dT kvs)) : kvs.length <= sizeLine /\ (a == sysModules) = false ∧
  ∃ xs, KT H kvs xs /\ h.DictOfH (tupleKind (aW P w)) a xs := uE ok (.inl e)
end
def jM (H : Hp) (a : Addr) (y : V) (r : Option V) : Prop :=
 (∃ kvs k, Rd H a (.dK kvs) /\ y = kV k /\ r = bZ kvs k) ∨ ∃ kvs k b, Rd H a (.dT kvs) /\ y = .ref b /\ H b = some (.tup (k.map kV)) /\ r = bZ kvs k
def pF (H : Hp) (a : Addr) (y v : V) (H' : Hp) : Prop :=
 (∃ kvs k, H a = some (.dK kvs) /\ y = kV k /\ kvs.length < sizeLine /\ H' = upd H a (.dK (putK kvs k v))) ∨
 ∃ kvs k b, H a = some (.dT kvs) /\ y = .ref b /\ H b = some (.tup (k.map kV)) /\ kvs.length < sizeLine /\ H' = upd H a (.dT (putK kvs k v))
theorem jM.k {H : Hp} {a : Addr} {kvs : List (Key × V)} {k : Key} (e : H a = some (.dK kvs)) : jM H a (kV k) (bZ kvs k) := .inl ⟨kvs, k, .inl e, rfl, rfl⟩
theorem pF.k {H : Hp} {a : Addr} {kvs : List (Key × V)} {k : Key} {v : V} (e : H a = some (.dK kvs)) (hl : kvs.length < sizeLine) : pF H a (kV k) v (upd H a (.dK (putK kvs k v))) := .inl ⟨kvs, k, e, rfl, hl, rfl⟩
section
variable {X : Cx} {pins : List (Addr × Obj)} {σ : St} {H : Hp} {s : Shared} {a : Addr} {y v : V} {u r : Value} {o : Option V} {A : Around} {E : Value -> Shared -> Prop}
theorem Inv.big (I : Inv X pins σ H s) : sysModules < s.heap.objs.size := by
 have h : mainGlobals < s.heap.objs.size := (I.mod.glob.keeps I.bk).lt
 exact Nat.lt_trans (by decide) h
theorem n6 {Q : Value -> Shared -> Prop} (hu : A.units + 1 < cLine) (I : Inv X pins σ H s) (g : jM H a y (some v)) (ry : RelV y u) (h : ∀ w' s', Inv X pins σ H s' -> RelV v w' -> Q w' s') :
  wpAny (model X.prog X.w) A (getItem (.ref a) u) Q E s := by
 rcases g with ⟨kvs, k, e, ey, l⟩ | ⟨kvs, k, b, e, ey, eb, l⟩
 ·subst ey
  obtain ⟨z, hd, vs, rel, dd⟩ := uC I.hok e
  obtain ⟨w', hw, rw'⟩ := gc.some_of (v := v) (o := valueAt vs k) (by rw [l]; exact rel.val k)
  exact wpAny_getItem_of (o8 ry) dd.mapOf hw (h w' _ (I.tok _) rw')
 ·subst ey
  cases (show u = Value.ref b from ry)
  obtain ⟨z, hd, xs, rel, dd⟩ := uE I.hok e
  obtain ⟨w', hw, rw'⟩ := gc.some_of (v := v) (o := (atKey xs k).map (·.2)) (by rw [l]; exact rel.val k)
  obtain ⟨p, hp, hp2⟩ := zAp.mp hw
  refine wpAny_getItem_heap (tupleKind_room_in1 hu) (mC I.hok eb) dd hp ?_
  rw [hp2]
  exact h w' _ (I.tok _) rw'
theorem iC {h' : Heap} {t' : Nat} {ob : HO} (I : Inv X pins σ H s) (mu : Mut (H a)) (hs : Heap.SameBut a s.heap h') (he : ∃ q, h'.get? a = some q) (new : aT X.prog X.w (upd H a ob) h' a ob) :
  Inv X pins σ (upd H a ob) { s with heap := h', toks := t' } :=
 I.write (x := a) (e := a) mu (.inl rfl) (fun b q hb z => (hs.2 b hb).trans z) he new
theorem vF {P : Program} {w : World} {H' : Hp} {h' : Heap} {kvs : List (Key × V)} {vs : List (Key × Value)} (z : kvs.length <= sizeLine) (hd : (a == sysModules) = false) (rel : KV kvs vs) (dd : h'.DictOf (aW P w) a vs) :
  aT P w H' h' a (.dK kvs) := ⟨z, hd, vs, rel, dd⟩
theorem vB {H' : Hp} {Q : Unit -> Shared -> Prop} (hu : A.units + 1 < cLine) (I : Inv X pins σ H s) (g : pF H a y v H') (ry : RelV y u) (rv : RelV v r) (h : ∀ s', Inv X pins σ H' s' -> Q () s') :
  wpAny (model X.prog X.w) A (setItem (.ref a) u r) Q E s := by
 rcases g with ⟨kvs, k, e, ey, l, eH⟩ | ⟨kvs, k, b, e, ey, eb, l, eH⟩
 ·subst ey eH
  obtain ⟨z, hd, vs, rel, dd⟩ := yx I.hok e
  have hz : vs.length <= sizeLine := by rw [<- rel.length]; exact z
  have hl : (putK kvs k v).length <= sizeLine := by have := hV kvs k v; omega
  refine wpAny_setItem_pairs (hsz := hz) (o8 ry) dd fun h' dd' hs => h _ ?_
  have he : ∃ q, h'.get? a = some q := let ⟨q, _, _, hq, _⟩ := dd'; ⟨q, hq⟩
  exact iC I (by rw [e]; exact True.intro) hs he (vF hl hd (rel.put k rv) dd')
 ·subst ey eH
  cases (show u = Value.ref b from ry)
  obtain ⟨z, hd, xs, rel, dd⟩ := i4 I.hok e
  have hz : xs.length <= sizeLine := by rw [<- Paired.length rel]; exact z
  have hl : (putK kvs k v).length <= sizeLine := by have := hV kvs k v; omega
  refine wpAny_setItem_heap (hsz := hz) (tupleKind_room_in1 hu) (mC I.hok eb) dd fun h' dd' hs => h _ ?_
  obtain ⟨q, es, ep, hq, h2, h3, h4, _, h5⟩ := dd'
  refine iC I (by rw [e]; exact True.intro) hs ⟨q, hq⟩ ⟨hl, hd, _, (rel.put k eb rv).keeps fun c ys ec => ?_, q, es, ep, hq, h2, h3, h4, h5⟩
  rw [ay (cR ec e (fun z => nomatch z))]
  exact ec
end
section
variable {X : Cx} {pins : List (Addr × Obj)} {σ : St} {H : Hp} {s : Shared} {a : Addr} {kvs : List (Key × V)} {k : Key} {u : Value} {A : Around} {E : Value -> Shared -> Prop}
end
def w7 (i : Expr) : Prop := ∀ ov iv, subscripted i false ov iv = operate [ov, iv] (getItem ov iv)
theorem zT {prog : Program} {w : World} {A : Around} {E : Value -> Shared -> Prop} {s : Shared} {env : Env} {value slice : Expr} {pos : Pos} {T id : String} {Q : Value -> Shared -> Prop}
  (hl : typeLookup (.type T) "__getitem__" = pure (some (.builtin id))) (hs : w7 slice)
  (h : wpAny (model prog w) A (eval value env) (fun o s₁ => wpAny (model prog w) A (eval slice env) (fun i s₂ => s₂.TypeIs o T /\ wpAny (model prog w) A (getItem o i) Q E s₂) E s₁) E s) :
  wpAny (model prog w) A (eval (.Subscript value slice pos) env) Q E s := by
 refine Subscript_ (wpAny_mono h (fun o s₁ h₁ => wpAny_mono h₁ (fun i s₂ h₂ => ?_) fun _ _ x => x) fun _ _ x => x)
 obtain ⟨hT, h₂⟩ := h₂
 unfold subscriptTail
 refine wpAny_bind ?_
 rw [getitemInPython_of_ne hT.not_modules]
 refine wpAny_bind (wpAny_specialOf hT hl ?_)
 have fin : wpAny (model prog w) A (subscripted slice false o i) (fun r s₃ => wpAny (model prog w) A (letTemporaryGo value o r >>= fun _ => pure r) Q E s₃) E s₂ := by
  rw [hs o i]
  exact wpAny_operating (wpAny_mono h₂ (fun r s₃ h₃ => wpAny_bind (wpAny_letTemporaryGo (wpAny_pure h₃))) fun _ _ x => x)
 first
  | exact wpAny_pure (wpAny_bind fin)
  | exact wpAny_bind (wpAny_pure (wpAny_bind fin))
  | exact wpAny_bind fin
theorem rL {X : Cx} {pins : List (Addr × Obj)} {σ : St} {H : Hp} {s : Shared} {a : Addr} {y : V} {o : Option V} (I : Inv X pins σ H s) (g : jM H a y o) : s.TypeIs (.ref a) "dict" := by
 rcases g with ⟨kvs, k, e, _, _⟩ | ⟨kvs, k, b, e, _, _, _⟩
 ·obtain ⟨_, _, vs, _, dd⟩ := uC I.hok e
  exact dd.typeIs
 ·obtain ⟨_, _, xs, _, dd⟩ := uE I.hok e
  exact dd.typeIs
def BB (td ty : TE) : TE := fun σ H Q => td σ H fun x H1 => ty σ H1 fun y H2 => ∃ a v, x = .ref a /\ jM H2 a y (some v) /\ Q v H2
def BA (td ty tv : TE) (rd : V -> V -> Hp -> VK -> Prop) : TS := fun D σ H => td σ H fun x H1 => ty σ H1 fun y H2 => ∃ a v, x = .ref a /\ jM H2 a y (some v) ∧
 tv σ H2 fun y2 H3 => rd v y2 H3 fun z H4 => ∃ H5, pF H4 a y z H5 /\ D.nx σ H5
section
variable {X : Cx} {o i e value : Expr} {pos pos' tpos : Pos} {td ty tv : TE}
theorem zH (hu : X.A.units + 1 < cLine) (ho : PE X o td) (hi : PE X i ty) (hs : w7 i) : PE X (.Subscript o i pos) (BB td ty) := by
 intro pins s σ H Q I h
 refine zT PySem.F.slot_dict_getitem.lookup hs (thn (ho pins s σ H _ I h) fun u s1 ⟨x, H1, I1, rx, q1⟩ => thn (hi pins s1 σ H1 _ I1 q1) fun iv s2 ⟨y, H2, I2, ry, a, v, ex, g, q2⟩ => ?_)
 subst ex
 obtain rfl : u = Value.ref a := rx
 exact ⟨rL I2 g, n6 hu I2 g ry fun w' s3 I3 rw' => ⟨v, H2, I3, rw', q2⟩⟩
theorem zJ {op : Operator} {rd : V -> V -> Hp -> VK -> Prop} (hu : X.A.units + 1 < cLine) (ho : PE X o td) (hi : PE X i ty) (hv : PE X value tv) (hop : z8 X op rd)
  (ha : ∀ ov iv new, augStore i ov iv new = (do holding [new, ov, iv] (setItem ov iv new); release [new, ov, iv] []; pure .next)) : PS X (.AugAssign (.Subscript o i tpos) op value pos) (BA td ty tv rd) := by
 intro pins s σ H D I h
 refine wpAny_AugAssign_SubscriptAny (thn (ho pins s σ H _ I h) fun u s1 ⟨x, H1, I1, rx, q1⟩ => thn (hi pins s1 σ H1 _ I1 q1) fun iv s2 ⟨y, H2, I2, ry, a, v, ex, g, q2⟩ => ?_) ha
 subst ex
 obtain rfl : u = Value.ref a := rx
 refine n6 hu I2 g ry fun w' s3 I3 rw' => thn (hv pins s3 σ H2 _ I3 q2) fun w2 s4 ⟨y2, H3, I4, ry2, q3⟩ => thn (hop pins s4 σ H3 v y2 w' w2 _ I4 rw' ry2 q3) fun w3 s5 ⟨z, H4, I5, rz, H5, g5, q4⟩ => ?_
 exact vB hu I5 g5 ry rz fun s6 I6 => ⟨σ, H5, I6, q4⟩
end
theorem xr {P : Program} {w : World} {H : Hp} (h : Heap) (hb : sysModules < h.objs.size) : aT P w H (h.push { cls := .type "dict", data := .dict #[] }) h.objs.size (.dK []) :=
 ⟨zAi _, beq_eq_false_iff_ne.mpr (Ne.symm (zAk hb)), [], .nil, Heap.DictOf.new h⟩
theorem xw {P : Program} {w : World} {H : Hp} (h : Heap) (hb : sysModules < h.objs.size) : aT P w H (h.push { cls := .type "dict", data := .dict #[] }) h.objs.size (.dT []) :=
 ⟨zAi _, beq_eq_false_iff_ne.mpr (Ne.symm (zAk hb)), [], .nil, _, #[], 0, zAL _ rfl, ⟨rfl, rfl, rfl⟩, rfl, rfl, List.nodup_nil⟩
section
variable {X : Cx} {pos : Pos}
end
abbrev VV : List (V × V) -> List (Value × Value) -> Prop := Paired fun p q => RelV p.1 q.1 /\ RelV p.2 q.2
def mF (kvs more : List (Key × V)) : List (Key × V) := more.foldl (fun acc kv => putK acc kv.1 kv.2) kvs
theorem KV.merge : ∀ {more : List (Key × V)} {rs : List (Key × Value)} {kvs : List (Key × V)} {vs : List (Key × Value)}, KV more rs -> KV kvs vs -> KV (mF kvs more) (merged vs rs) := by
 intro more rs kvs vs r
 unfold KV at r
 induction r generalizing kvs vs with
 | nil => intro q; exact q
 | @cons p q ps qs h t ih =>
  intro r0
  have e : KV (putK kvs p.1 p.2) (stored vs q.1 q.2) := by
   have := r0.put p.1 h.2
   rw [<- h.1]; exact this
  exact ih e
theorem lS {P : Program} {w : World} : ∀ {kvs : List (Key × V)} {ws : List (Value × Value)}, VV (kvs.map fun kv => (kV kv.1, kv.2)) ws -> ∃ rs, Carries (aW P w) ws rs /\ KV kvs rs
 | [], _, r => by rw [zA8] at r; cases r; exact ⟨[], True.intro, .nil⟩
 | p :: kvs, _, r => by
  rw [zAG] at r
  cases r with
  | @cons a b as bs h t =>
   obtain ⟨rs, c, q⟩ := lS (P := P) (w := w) t
   obtain ⟨b1, b2⟩ := b
   exact ⟨(p.1, b2) :: rs, ⟨o8 h.1, rfl, c⟩, .cons ⟨rfl, h.2⟩ q⟩
structure M1 (X : Cx) (o : Expr) (m : Str) (apos : Pos) (e : Expr) (cpos : Pos) : Prop where
 base : attributeBase o m X.env (eval o X.env) = eval o X.env
 few : ((backTo cpos (starEach [e] X.env)).all (fun x => !x.1) && (backToKw cpos (keywordEach [] X.env)).all (fun x => x.1.isSome)
  && decide (([e] : List Expr).length + ([] : List Keyword).length + (if ([] : List Keyword).isEmpty then 0 else 1) < 30)) = true
 line : (apos.endLine == cpos.line) = true
 trees : backTo cpos (starEach [e] X.env) = [(false, eval e X.env)]
structure M2 (X : Cx) (o : Expr) (m : Str) (apos : Pos) (e f : Expr) (cpos : Pos) : Prop where
 base : attributeBase o m X.env (eval o X.env) = eval o X.env
 few : ((backTo cpos (starEach [e, f] X.env)).all (fun x => !x.1) && (backToKw cpos (keywordEach [] X.env)).all (fun x => x.1.isSome)
  && decide (([e, f] : List Expr).length + ([] : List Keyword).length + (if ([] : List Keyword).isEmpty then 0 else 1) < 30)) = true
 line : (apos.endLine == cpos.line) = true
 trees : backTo cpos (starEach [e, f] X.env) = [(false, eval e X.env), (false, eval f X.env)]
section
variable {X : Cx} {pins : List (Addr × Obj)} {σ : St} {H : Hp} {s : Shared} {a : Addr} {y d : V} {u r : Value} {o : Option V} {A : Around} {E : Value -> Shared -> Prop}
end
section
variable {X : Cx} {o e f : Expr} {apos cpos : Pos} {td ty tx : TE}
end
section
variable {X : Cx} {pins : List (Addr × Obj)} {σ : St} {H : Hp} {s : Shared} {a : Addr} {kvs : List (Key × V)} {A : Around} {E : Value -> Shared -> Prop}
end
section
variable {X : Cx} {pins : List (Addr × Obj)} {σ : St} {H : Hp} {s : Shared} {a : Addr} {y : V} {u : Value} {A : Around} {E : Value -> Shared -> Prop}
end
end L2
namespace PM
theorem xA (a b : Int) : Int.gcd b (a.fmod b) = Int.gcd a b := by
 have h := Int.fmod_add_mul_fdiv a b
 have h' : a = a.fmod b + a.fdiv b * b := by rw [zBK]; exact h.symm
 rw [Int.gcd_comm a b]
 conv => rhs; rw [h']
 rw [Int.gcd_add_mul_right_right]
theorem vP (a : Int) {b : Int} (hb : b ≠ 0) : (a.fmod b).natAbs < b.natAbs := by
 by_cases h : 0 < b
 ·have h1 := Int.fmod_lt_of_pos a h
  have h2 := Int.fmod_nonneg_of_pos a h
  omega
 ·have h1 : b < 0 := by omega
  have e : a.fmod b = -((-a).fmod (-b)) := by
   have := Int.neg_fmod_neg (a := a) (b := b)
   omega
  have h2 := Int.fmod_lt_of_pos (-a) (b := -b) (by omega)
  have h3 := Int.fmod_nonneg_of_pos (-a) (b := -b) (by omega)
  omega
def g3 (x y z : Int) : Nat := Int.gcd (Int.gcd x y : Int) z
theorem jW (x y z : Int) : (g3 x y z : Int) ∣ x := Int.dvd_trans (Int.gcd_dvd_left _ _) (Int.gcd_dvd_left _ _)
theorem i6 (x y z : Int) : (g3 x y z : Int) ∣ y := Int.dvd_trans (Int.gcd_dvd_left _ _) (Int.gcd_dvd_right _ _)
theorem i7 (x y z : Int) : (g3 x y z : Int) ∣ z := Int.gcd_dvd_right _ _
theorem Ak {x y z d : Int} (h1 : d ∣ x) (h2 : d ∣ y) (h3 : d ∣ z) : d ∣ (g3 x y z : Int) := Int.dvd_coe_gcd (Int.dvd_coe_gcd h1 h2) h3
theorem sS {x y z : Int} : g3 x y z = 0 ↔ x = 0 /\ y = 0 /\ z = 0 := by
 unfold g3
 rw [Int.gcd_eq_zero_iff]
 constructor
 ·rintro ⟨h, h3⟩
  have h' : Int.gcd x y = 0 := by omega
  obtain ⟨h1, h2⟩ := Int.gcd_eq_zero_iff.mp h'
  exact ⟨h1, h2, h3⟩
 ·rintro ⟨h1, h2, h3⟩
  subst h1 h2 h3
  simp
def dv3 (x y z l : Int) : Int := if l < 0 then -(g3 x y z : Int) else (g3 x y z : Int)
theorem l9 {x y z l : Int} (h : ¬ (x = 0 /\ y = 0 /\ z = 0)) : dv3 x y z l ≠ 0 := by
 have : g3 x y z ≠ 0 := fun e => h (sS.mp e)
 unfold dv3
 split <;> omega
theorem nB (x y z l : Int) : (dv3 x y z l).natAbs = g3 x y z := by
 unfold dv3
 split <;> omega
theorem d4 {x y z l t : Int} (h : (g3 x y z : Int) ∣ t) : dv3 x y z l ∣ t := by
 unfold dv3
 split
 ·exact Int.neg_dvd.mpr h
 ·exact h
theorem cA {x y z l t : Int} (h : (g3 x y z : Int) ∣ t) : t.fdiv (dv3 x y z l) * dv3 x y z l = t := by
 have h' := d4 (l := l) h
 rw [Int.fdiv_eq_ediv_of_dvd h']
 exact Int.ediv_mul_cancel h'
theorem AY {x y z l : Int} (h : ¬ (x = 0 /\ y = 0 /\ z = 0)) : g3 (x.fdiv (dv3 x y z l)) (y.fdiv (dv3 x y z l)) (z.fdiv (dv3 x y z l)) = 1 := by
 have e1 := cA (l := l) (jW x y z)
 have e2 := cA (l := l) (i6 x y z)
 have e3 := cA (l := l) (i7 x y z)
 have hn := l9 (l := l) h
 have habs := nB x y z l
 generalize x.fdiv (dv3 x y z l) = a at e1 ⊢
 generalize y.fdiv (dv3 x y z l) = b at e2 ⊢
 generalize z.fdiv (dv3 x y z l) = c at e3 ⊢
 generalize dv3 x y z l = g at *
 have hd : (g3 a b c : Int) * g ∣ (g3 x y z : Int) := by
  refine Ak ?_ ?_ ?_
  ·rw [<- e1]; exact Int.mul_dvd_mul (jW a b c) (Int.dvd_refl _)
  ·rw [<- e2]; exact Int.mul_dvd_mul (i6 a b c) (Int.dvd_refl _)
  ·rw [<- e3]; exact Int.mul_dvd_mul (i7 a b c) (Int.dvd_refl _)
 have hd2 : g3 a b c * g.natAbs ∣ g.natAbs := by
  rw [habs]
  have := zBE.mpr hd
  rw [Int.natAbs_mul] at this
  simpa [habs] using this
 have hp : 0 < g.natAbs := by omega
 have := zBr hp hd2
 have h0 : g3 a b c ≠ 0 := by
  intro e
  rw [e] at hd2
  simp at hd2
  omega
 rcases Nat.lt_or_ge (g3 a b c) 2 with h2 | h2
 ·omega
 ·have : 2 * g.natAbs <= g3 a b c * g.natAbs := Nat.mul_le_mul_right _ h2
  omega
theorem tN {x y z l : Int} (hl : l ≠ 0) (hd : (g3 x y z : Int) ∣ l) (h : ¬ (x = 0 /\ y = 0 /\ z = 0)) : 0 < l.fdiv (dv3 x y z l) := by
 have e := cA (l := l) hd
 have hg : g3 x y z ≠ 0 := fun e => h (sS.mp e)
 have hs : (l < 0 /\ dv3 x y z l < 0) ∨ (0 < l /\ 0 < dv3 x y z l) := by
  unfold dv3
  split
  ·left; omega
  ·right; omega
 generalize l.fdiv (dv3 x y z l) = a at e ⊢
 generalize dv3 x y z l = g at *
 rcases Int.lt_trichotomy a 0 with ha | ha | ha
 ·exfalso
  rcases hs with ⟨h1, h2⟩ | ⟨h1, h2⟩
  ·have := zCA ha h2
   omega
  ·have := zB9 ha h2
   omega
 ·subst ha
  simp at e
  omega
 ·exact ha
theorem kR {t g : Int} (hg : g ≠ 0) (h : g ∣ t) : (t.fdiv g).natAbs <= t.natAbs := by
 rw [Int.fdiv_eq_ediv_of_dvd h]
 have e := Int.ediv_mul_cancel h
 have : (t / g).natAbs * g.natAbs = t.natAbs := by rw [<- Int.natAbs_mul, e]
 have hp : 0 < g.natAbs := by omega
 rw [<- this]
 exact Nat.le_mul_of_pos_right _ hp
theorem vR (a : Int) : Int.gcd a 0 = a.natAbs := by simp
end PM
namespace PX
open PySem PySem.W PySem.Spec PySem.Calls PyProof.Rows PySem.Builtin.ObjectAttr PySem.Builtin.Getset_descriptor
def ExcAt (e c : Addr) (h : Heap) : Prop := ∃ o vs, h.get? e = some o /\ o.cls = .ref c /\ o.data = .fields vs
theorem ExcAt.ty {M : Model} {e c : Addr} {h : Heap} (p : ExcAt e c h) : Looks M h (typeOf (.ref e)) (.ref c) := by
 obtain ⟨o, vs, h1, h2, _⟩ := p
 exact h2 ▸ (Looks.ld h1).andThen .now
structure gW (K : Frag) (c : Addr) : Prop where
 cls : (clsIn K c).isSome = true
 ga : findIn K (.ref c) "__getattribute__" = some (some (.builtin "BaseException.__getattribute__"))
 hook : findIn K (.ref c) "__getattr__" = some none
 at_ : findIn K (.ref c) "__class__" = some (some (.builtin "object.__class__"))
 get : specialIn K (.builtin "object.__class__") "__get__" = some (some (.builtin "getset_descriptor.__get__"))
 takes : takesIn K (.builtin "object.__class__") = some true
 obj : mroIn K c (.type "object") = some true
 exc : mroIn K c (.type "BaseException") = some true
 not : ∀ T, (T = "int" ∨ T = "bool" ∨ T = "tuple" ∨ T = "list" ∨ T = "str") -> kitOne K (.ref c) (.type T) = some false
section
variable {prog : Program} {w : World} {A : Around} {E : Value -> Shared -> Prop} {s : Shared} {K : Frag} {e c : Addr}
theorem BF {R : Result -> Shared -> Prop} {tp : Value} (X : K.In s.heap) (p : ExcAt e c s.heap) (hm : mroIn K c (.type "object") = some true) (hq : R (.ok (.ret (.ref c))) s) :
  codeAny (model prog w) A (.call (.builtin "getset_descriptor.__get__") ⟨[.builtin "object.__class__", .ref e, tp], []⟩) R s := by
 obtain ⟨h, g, dr, t, os⟩ := s
 have La := p.ty (M := model prog w)
 have Lb := looks_mroIn (M := model prog w) X hm
 refine codeAny_call_builtin (KF.slot_gs.plain) KF.entry_gs (KF.slot_gs.check _ _ _ _ _ _ _ _ KF.type_class (KF.args_gs _ _ _) ?_)
 unfold Builtin.«getset_descriptor.__get__» descrGet
 rw [dga_obj]
 refine wpAny_bind (wpAny_pure ?_)
 unfold descrGetter descrCheckInstance descrNameAndClass isInstance
 simp only [KF.owner_class]
 repeat lk
 refine ⟨Code.quiet_builtin _ (by decide +kernel), codeAny_builtin KF.entry_class ?_⟩
 unfold Builtin.«object.__class__» shownTypeOf
 repeat lk
 exact hq
theorem Bb {M : Model} {h : Heap} (k : gW K c) (X : K.In h) : Looks M h (find (.ref e) (.ref c) "__class__") (.bind (.builtin "getset_descriptor.__get__") (.builtin "object.__class__")) := by
 have La := looks_findIn (M := M) X k.at_
 have Lb : Looks M h (getOf (some (.builtin "object.__class__"))) (some (.builtin "getset_descriptor.__get__")) := looks_specialIn X k.get
 have Lc := looks_takesIn (M := M) X k.takes
 refine La.andThen (Lb.andThen ?_)
 exact (show Looks M h (dataDescriptor? (some (.builtin "object.__class__")) (some (.builtin "getset_descriptor.__get__"))) (some (.builtin "getset_descriptor.__get__", .builtin "object.__class__")) from Lc.andThen .now).andThen (Looks.tag .now)
theorem z0 {tk : Tok} {Q : Fin -> Shared -> Prop} (k : gW K c) (X : K.In s.heap) (p : ExcAt e c s.heap) (hq : Q (.done (.ret (.ref c))) s) :
  wpAny (model prog w) A (Builtin.«object.__getattribute__» ⟨[.ref e, .str "__class__" tk], []⟩) Q E s := by
 obtain ⟨h, g, dr, t, os⟩ := s
 have La := p.ty (M := model prog w)
 have Lb := Bb (M := model prog w) (e := e) k X
 refine wpAny_bind (wpAny_pure ?_)
 refine wpAny_bind (wpAny_pure ?_)
 refine wpAny_bind (La.at (wpAny_bind (Lb.at ?_)))
 show wpAny _ _ (bindTo _ _ _ _) _ _ _
 unfold bindTo
 repeat (first | with_reducible refine wpAny_bind ?_ | with_reducible refine wpAny_holding ?_)
 refine wpAny_call (BF X p k.obj ?_)
 exact wpAny_pure hq
theorem zZ {M : Model} {nv : Value} {Q : Unit -> Shared -> Prop} (k : gW K c) (X : K.In s.heap) (p : ExcAt e c s.heap) (hq : Q () s) :
  wpAny M A (checkBuiltinCall "BaseException.__getattribute__" ⟨[.ref e, nv], []⟩) Q E s := by
 obtain ⟨h, g, dr, t, os⟩ := s
 have hk : builtinKind "BaseException.__getattribute__" = some .slot := by decide +kernel
 have hsp : splitId "BaseException.__getattribute__" = some ("BaseException", "__getattribute__") := by decide +kernel
 have ha := F.args_bexc_ga (.ref e) nv
 have La := p.ty (M := M)
 have Lb := looks_mroIn (M := M) X k.exc
 have Li : Looks M h (isInstance (.ref e) (.type "BaseException")) true := La.andThen Lb
 simp only [checkBuiltinCall, hk, hsp]
 refine wpAny_bind (Li.at ?_)
 repeat (first | wp_step)
 exact hq
theorem x_call {tk : Tok} {R : Result -> Shared -> Prop} (k : gW K c) (X : K.In s.heap) (p : ExcAt e c s.heap) (hq : R (.ok (.ret (.ref c))) s) :
  codeAny (model prog w) A (.call (.builtin "BaseException.__getattribute__") ⟨[.ref e, .str "__class__" tk], []⟩) R s :=
 codeAny_call_builtin F.excAttr_ValueError.ga.plain F.entry_bexc_ga (zZ k X p (z0 k X p hq))
theorem Ba {Q : Option Value -> Shared -> Prop} (k : gW K c) (X : K.In s.heap) (p : ExcAt e c s.heap) (hq : Q (some (.ref c)) { s with toks := s.toks + 1 }) :
  wpAny (model prog w) A (getAttr? (.ref e) "__class__") Q E s := by
 obtain ⟨h, g, dr, t, os⟩ := s
 have La := p.ty (M := model prog w)
 have Lb := looks_findIn (M := model prog w) X k.ga
 have Lc := looks_findIn (M := model prog w) X k.hook
 have f3 := F.excAttr_ValueError.ga.bind (.ref e)
 unfold getAttr? getAttrBy? getAttrBy
 refine wpAny_bind (wpAny_mkText (wpAny_bind (wpAny_attempt (wpAny_holding (wpAny_bind (La.at (wpAny_bind (Lb.at ?_))))))))
 have hne : (Value.builtin "BaseException.__getattribute__" == Value.builtin "object.__getattribute__") = false := by decide +kernel
 simp only [onTheHeap, Bool.true_and, hne, zAY, if_false]
 unfold getAttrByItsOwn hookBefore
 simp only [onTheHeap, if_true]
 refine wpAny_bind (Lc.at ?_)
 refine wpAny_bind (wpAny_attempt (wpAny_holding ?_))
 unfold callGetattribute boundAndCalled
 simp only [Bool.false_and, zAY, if_false]
 refine wpAny_bind (wpAny_of_eq f3 ?_)
 refine wpAny_call (x_call k X p ?_)
 refine wpAny_pure (a := Value.ref c) ?_
 exact wpAny_pure hq
theorem xG (k : gW K c) : KitX K (.ref e) (.ref c) (ExcAt e c) where
 ty := fun _ _ _ p => p.ty
 it := fun _ _ X _ => by
  have h := k.cls
  unfold clsIn at h
  split at h
  ·rename_i c' d' cd' sl' ho
   intro A' Q' E' s' kk q
   unfold isType loadHead
   exact wpAny_bind (wpAny_loadPart (kk _ _ (X _ _ ho)) (wpAny_pure q))
  ·cases h
 ne := fun h tp dd its n sl X htp => by
  have h := k.cls
  refine zBf.mpr fun q => ?_
  have z : c = tp := Value.ref.inj (beq_iff_eq.mp q)
  subst z
  unfold clsIn at h
  split at h
  ·rename_i c' d' cd' sl' ho
   cases (X _ _ ho).symm.trans htp
  ·cases h
 ca := fun X p kk => Ba k X p kk
end
end PX
namespace PD
open PySem PySem.Spec PyProof.Rows L2 PX
abbrev St := L2.St
def NT : HO -> Prop
 | .tbl _ => False
 | _ => True
def BQ : Str := "lightest.<locals>.<lambda>"
def z7 (c : Addr) : Heap -> Prop := fun h => h.CodeRec (.ref c) BQ
def c9 (H : Hp) : Prop := ∀ P ps, H P = some (.tbl ps) -> TriplesOk ps.toList /\ ∀ pos cv, codeAmong pos ps.toList = some cv -> ∃ c, cv = .ref c /\ H c = some (.ext (z7 c))
def tabOf (K : PySem.W.Frag) : Option Addr :=
 match PySem.W.nsIn K mainGlobals "lightest" with
 | some (some (.ref f)) => (match K.lookup f with
  | some ⟨_, _, .func fd, _⟩ => (match fd.code with
   | .ref c => (match K.lookup c with
    | some ⟨_, _, .fields vs, _⟩ => (match (vs[11]? : Option Value) with
     | some (.ref P) => if (K.lookup P).isNone = true then some P else none
     | _ => none)
    | _ => none)
   | _ => none)
  | _ => none)
 | _ => none
structure aj (H H' : Hp) : Prop where
 kp : ∀ b o, H b = some o -> NT o -> H' b = some o
 tb : ∀ b ps, H b = some (.tbl ps) -> ∃ more, H' b = some (.tbl (ps ++ more))
 ok : c9 H -> c9 H'
theorem aj.app {H H' : Hp} (e : aj H H') (b : Addr) (o : HO) (h : H b = some o) (nt : NT o := by first | exact True.intro | assumption) : H' b = some o := e.kp b o h nt
instance {H H' : Hp} : CoeFun (aj H H') (fun _ => ∀ (b : Addr) (o : HO), H b = some o -> (nt : NT o := by first | exact True.intro | assumption) -> H' b = some o) := ⟨@aj.app H H'⟩
theorem aj.refl (H : Hp) : aj H H := ⟨fun _ _ h _ => h, fun _ ps h => ⟨#[], by rw [h]; simp⟩, id⟩
theorem aj.trans {H H1 H2 : Hp} (a : aj H H1) (b : aj H1 H2) : aj H H2 := ⟨fun c o h n => b.kp c o (a.kp c o h n) n, fun c ps h => by
 obtain ⟨m1, e1⟩ := a.tb c ps h
 obtain ⟨m2, e2⟩ := b.tb c _ e1
 exact ⟨m1 ++ m2, by rw [e2, zCB]⟩, fun h => b.ok (a.ok h)⟩
theorem aj.ex {H H' : Hp} (e : aj H H') {b : Addr} {o : HO} (h : H b = some o) : ∃ o', H' b = some o' := by
 by_cases n : NT o
 ·exact ⟨o, e.kp b o h n⟩
 ·cases o with
  | tbl ps =>
   obtain ⟨m, q⟩ := e.tb b ps h
   exact ⟨_, q⟩
  | _ => exact absurd True.intro n
theorem aj.free {H H' : Hp} (e : aj H H') {l : Addr} (h : H' l = Option.none) : H l = Option.none := by
 cases q : H l with
 | none => rfl
 | some o =>
  obtain ⟨o', z⟩ := e.ex q
  rw [h] at z; cases z
theorem aj.seq {K : PySem.W.Frag} {H H' : Hp} {a : Addr} {xs : List V} (e : aj H H') (h : SqL K H a xs) : SqL K H' a xs := by
 rcases h with (h | ⟨o, h⟩) | h
 ·exact .inl (.inl (e _ _ h))
 ·exact .inl (.inr ⟨o, e _ _ h⟩)
 ·exact .inr h
theorem c9.upd {H : Hp} {p : Addr} {o : HO} (n : NT o) (hp : H p = none ∨ ∃ u, H p = some u /\ (∀ φ, u ≠ .ext φ) /\ NT u) (h : c9 H) : c9 (upd H p o) := by
 intro P ps e
 have hne : P ≠ p := fun z => by
  subst z
  rw [aC] at e
  cases e
  exact n
 rw [ay hne] at e
 obtain ⟨h1, h2⟩ := h P ps e
 refine ⟨h1, fun pos cv q => ?_⟩
 obtain ⟨c, e1, e2⟩ := h2 pos cv q
 refine ⟨c, e1, ?_⟩
 rw [ay fun z => ?_]
 ·exact e2
 ·subst z
  rcases hp with hp | ⟨u, hp, hu, _⟩
  ·rw [hp] at e2; cases e2
  ·rw [hp] at e2; cases e2; exact hu _ rfl
structure gZ (K : PySem.W.Frag) (H : Hp) : Prop where
 ok : c9 H
 at' : ∀ P, tabOf K = some P -> ∃ ps, H P = some (.tbl ps)
theorem gZ.same {K : PySem.W.Frag} {H H' : Hp} (h : gZ K H) (e : aj H H') : gZ K H' := ⟨e.ok h.ok, fun P q => by
 obtain ⟨ps, z⟩ := h.at' P q
 obtain ⟨m, z⟩ := e.tb P ps z
 exact ⟨_, z⟩⟩
theorem gZ.upd {K : PySem.W.Frag} {H : Hp} {p : Addr} {o : HO} (h : gZ K H) (n : NT o) (hp : H p = none ∨ ∃ u, H p = some u /\ (∀ φ, u ≠ .ext φ) /\ NT u) : gZ K (upd H p o) := ⟨c9.upd n hp h.ok, fun P q => by
 obtain ⟨ps, z⟩ := h.at' P q
 refine ⟨ps, ?_⟩
 rw [ay fun e => ?_]
 ·exact z
 ·subst e
  rcases hp with hp | ⟨u, hp, _, hu⟩
  ·rw [hp] at z; cases z
  ·rw [hp] at z; cases z; exact hu⟩
inductive D where
 | non | bl (b : Bool) | int (i : Int) | str (x : Str) | tup (ds : List D) | lst (t : Bool) (ds : List D) | exc (c : Addr)
def SqG (K : PySem.W.Frag) (H : Hp) (t : Bool) (a : Addr) (vs : List V) : Prop := SqL K H a vs /\ (t = true -> H a = some (.lst vs) /\ K.lookup a = none)
theorem SqG.same {K : PySem.W.Frag} {H H' : Hp} {t : Bool} {a : Addr} {vs : List V} (e : aj H H') (q : SqG K H t a vs) : SqG K H' t a vs := ⟨e.seq q.1, fun z => ⟨e _ _ (q.2 z).1, (q.2 z).2⟩⟩
theorem SqG.any {K : PySem.W.Frag} {H : Hp} {a : Addr} {vs : List V} (q : SqL K H a vs) : SqG K H false a vs := ⟨q, fun z => by cases z⟩
theorem SqG.new {K : PySem.W.Frag} {H : Hp} {t : Bool} {a : Addr} {vs : List V} (q : H a = some (.lst vs)) (k : K.lookup a = none) : SqG K H t a vs := ⟨SqL.of q, fun _ => ⟨q, k⟩⟩
mutual
def Den (K : PySem.W.Frag) (P : Bool -> Addr -> Prop) (H : Hp) : D -> V -> Prop
 | .non, v => v = .non
 | .bl b, v => v = .bl b
 | .int i, v => v = .int i
 | .str x, v => v = .str x
 | .tup ds, v => ∃ a vs, v = .ref a /\ SqT K H a vs /\ af K P H ds vs
 | .lst t ds, v => ∃ a vs, v = .ref a /\ ¬ P t a /\ SqG K H t a vs /\ af K P H ds vs
 | .exc c, v => ∃ e, v = .ref e /\ H e = some (.ext (ExcAt e c)) /\ gW K c
def af (K : PySem.W.Frag) (P : Bool -> Addr -> Prop) (H : Hp) : List D -> List V -> Prop
 | [], vs => vs = []
 | d :: ds, vs => ∃ v r, vs = v :: r /\ Den K P H d v /\ af K P H ds r
end
section
variable {K : PySem.W.Frag} {P P' : Bool -> Addr -> Prop} {H H' : Hp}
mutual
theorem Den.map (hT : ∀ a vs, SqT K H a vs -> SqT K H' a vs) (hL : ∀ t a vs, ¬ P t a -> SqG K H t a vs -> ¬ P' t a /\ SqG K H' t a vs) (hX : ∀ a φ, H a = some (.ext φ) -> H' a = some (.ext φ)) : ∀ (d : D) (v : V), Den K P H d v -> Den K P' H' d v
 | .non, _, h => by simpa only [Den] using h
 | .bl _, _, h => by simpa only [Den] using h
 | .int _, _, h => by simpa only [Den] using h
 | .str _, _, h => by simpa only [Den] using h
 | .tup ds, _, h => by
  simp only [Den] at h ⊢
  obtain ⟨a, vs, e, q, r⟩ := h
  exact ⟨a, vs, e, hT a vs q, af.map hT hL hX ds vs r⟩
 | .lst t ds, _, h => by
  simp only [Den] at h ⊢
  obtain ⟨a, vs, e, p, q, r⟩ := h
  exact ⟨a, vs, e, (hL t a vs p q).1, (hL t a vs p q).2, af.map hT hL hX ds vs r⟩
 | .exc c, _, h => by
  simp only [Den] at h ⊢
  obtain ⟨a, e, q, k⟩ := h
  exact ⟨a, e, hX a _ q, k⟩
theorem af.map (hT : ∀ a vs, SqT K H a vs -> SqT K H' a vs) (hL : ∀ t a vs, ¬ P t a -> SqG K H t a vs -> ¬ P' t a /\ SqG K H' t a vs) (hX : ∀ a φ, H a = some (.ext φ) -> H' a = some (.ext φ)) : ∀ (ds : List D) (vs : List V), af K P H ds vs -> af K P' H' ds vs
 | [], _, h => by simpa only [af] using h
 | d :: ds, _, h => by
  simp only [af] at h ⊢
  obtain ⟨v, r, e, h1, h2⟩ := h
  exact ⟨v, r, e, Den.map hT hL hX d v h1, af.map hT hL hX ds r h2⟩
end
end
theorem SqT.same {K : PySem.W.Frag} {H H' : Hp} {a : Addr} {xs : List V} (e : aj H H') (h : SqT K H a xs) : SqT K H' a xs := by
 rcases h with (h | ⟨o, h⟩) | h
 ·exact .inl (.inl (e _ _ h))
 ·exact .inl (.inr ⟨o, e _ _ h⟩)
 ·exact .inr h
section
variable {K : PySem.W.Frag} {P : Bool -> Addr -> Prop} {H H' : Hp}
theorem Den.same {d : D} {v : V} (e : aj H H') (h : Den K P H d v) : Den K P H' d v := Den.map (fun _ _ q => SqT.same e q) (fun _ _ _ p q => ⟨p, q.same e⟩) (fun a _ q => e a _ q) d v h
theorem af.same {ds : List D} {vs : List V} (e : aj H H') (h : af K P H ds vs) : af K P H' ds vs := af.map (fun _ _ q => SqT.same e q) (fun _ _ _ p q => ⟨p, q.same e⟩) (fun a _ q => e a _ q) ds vs h
theorem Den.fewer {P' : Bool -> Addr -> Prop} {d : D} {v : V} (e : ∀ t a, P' t a -> P t a) (h : Den K P H d v) : Den K P' H d v := Den.map (fun _ _ q => q) (fun _ _ _ p q => ⟨fun z => p (e _ _ z), q⟩) (fun _ _ q => q) d v h
theorem af.fewer {P' : Bool -> Addr -> Prop} {ds : List D} {vs : List V} (e : ∀ t a, P' t a -> P t a) (h : af K P H ds vs) : af K P' H ds vs := af.map (fun _ _ q => q) (fun _ _ _ p q => ⟨fun z => p (e _ _ z), q⟩) (fun _ _ q => q) ds vs h
theorem af.len : ∀ {ds : List D} {vs : List V}, af K P H ds vs -> vs.length = ds.length
 | [], _, h => by simp only [af] at h; subst h; rfl
 | d :: ds, _, h => by
  simp only [af] at h
  obtain ⟨v, r, rfl, _, h2⟩ := h
  simp [af.len h2]
theorem af.get : ∀ {ds : List D} {vs : List V} {i : Nat} {d : D}, af K P H ds vs -> ds[i]? = some d -> ∃ v, vs[i]? = some v /\ Den K P H d v
 | [], _, _, _, _, e => by simp at e
 | d :: ds, _, 0, _, h, e => by
  simp only [af] at h
  obtain ⟨v, r, rfl, h1, _⟩ := h
  simp at e; subst e
  exact ⟨v, rfl, h1⟩
 | d :: ds, _, i + 1, x, h, e => by
  simp only [af] at h
  obtain ⟨v, r, rfl, _, h2⟩ := h
  obtain ⟨u, e1, e2⟩ := af.get (i := i) (d := x) h2 (by simpa using e)
  exact ⟨u, by simpa using e1, e2⟩
theorem af.bG : ∀ {ds : List D} {vs : List V} {i : Nat} {v : V}, af K P H ds vs -> vs[i]? = some v -> ∃ d, ds[i]? = some d /\ Den K P H d v
 | [], _, _, _, h, e => by simp only [af] at h; subst h; simp at e
 | d :: ds, _, 0, _, h, e => by
  simp only [af] at h
  obtain ⟨v, r, rfl, h1, _⟩ := h
  simp at e; subst e
  exact ⟨d, rfl, h1⟩
 | d :: ds, _, i + 1, x, h, e => by
  simp only [af] at h
  obtain ⟨v, r, rfl, _, h2⟩ := h
  obtain ⟨u, e1, e2⟩ := af.bG (i := i) (v := x) h2 (by simpa using e)
  exact ⟨u, by simpa using e1, e2⟩
theorem af.append : ∀ {ds es : List D} {vs us : List V}, af K P H ds vs -> af K P H es us -> af K P H (ds ++ es) (vs ++ us)
 | [], _, _, _, h, h' => by simp only [af] at h; subst h; exact h'
 | d :: ds, _, _, _, h, h' => by
  simp only [af] at h
  obtain ⟨v, r, rfl, h1, h2⟩ := h
  simp only [zB2, af]
  exact ⟨v, _, rfl, h1, af.append h2 h'⟩
theorem af.one {d : D} {v : V} (h : Den K P H d v) : af K P H [d] [v] := by
 simp only [af]
 exact ⟨v, [], rfl, h, rfl⟩
theorem af.nil : af K P H [] [] := by simp only [af]
theorem af.cons {d : D} {v : V} {ds : List D} {vs : List V} (h : Den K P H d v) (h' : af K P H ds vs) : af K P H (d :: ds) (v :: vs) := by
 simp only [af]
 exact ⟨v, vs, rfl, h, h'⟩
theorem Den.int_ {i : Int} {v : V} (h : Den K P H (.int i) v) : v = .int i := by simpa only [Den] using h
theorem Den.bl_ {b : Bool} {v : V} (h : Den K P H (.bl b) v) : v = .bl b := by simpa only [Den] using h
theorem Den.non_ {v : V} (h : Den K P H .non v) : v = .non := by simpa only [Den] using h
theorem Den.str_ {x : Str} {v : V} (h : Den K P H (.str x) v) : v = .str x := by simpa only [Den] using h
theorem Den.int (i : Int) : Den K P H (.int i) (.int i) := by simp only [Den]
theorem Den.bl (b : Bool) : Den K P H (.bl b) (.bl b) := by simp only [Den]
theorem Den.non : Den K P H .non .non := by simp only [Den]
theorem Den.str (x : Str) : Den K P H (.str x) (.str x) := by simp only [Den]
theorem Den.tup_ {ds : List D} {v : V} (h : Den K P H (.tup ds) v) : ∃ a vs, v = .ref a /\ SqT K H a vs /\ af K P H ds vs := by simpa only [Den] using h
theorem Den.lstG_ {t : Bool} {ds : List D} {v : V} (h : Den K P H (.lst t ds) v) : ∃ a vs, v = .ref a /\ ¬ P t a /\ SqG K H t a vs /\ af K P H ds vs := by simpa only [Den] using h
theorem Den.lst_ {t : Bool} {ds : List D} {v : V} (h : Den K P H (.lst t ds) v) : ∃ a vs, v = .ref a /\ ¬ P t a /\ SqL K H a vs /\ af K P H ds vs := by
 obtain ⟨a, vs, h1, h2, h3, h4⟩ := h.lstG_
 exact ⟨a, vs, h1, h2, h3.1, h4⟩
theorem Den.exc_ {c : Addr} {v : V} (h : Den K P H (.exc c) v) : ∃ e, v = .ref e /\ H e = some (.ext (ExcAt e c)) /\ gW K c := by simpa only [Den] using h
theorem Den.exc {c e : Addr} (h : H e = some (.ext (ExcAt e c))) (k : gW K c) : Den K P H (.exc c) (.ref e) := by simp only [Den]; exact ⟨e, rfl, h, k⟩
theorem Den.tup {ds : List D} {a : Addr} {vs : List V} (h : SqT K H a vs) (h' : af K P H ds vs) : Den K P H (.tup ds) (.ref a) := by simp only [Den]; exact ⟨a, vs, rfl, h, h'⟩
theorem Den.lst {t : Bool} {ds : List D} {a : Addr} {vs : List V} (p : ¬ P t a) (h : SqG K H t a vs) (h' : af K P H ds vs) : Den K P H (.lst t ds) (.ref a) := by simp only [Den]; exact ⟨a, vs, rfl, p, h, h'⟩
end
inductive LI where
 | own (ds : List D) | val (d : D)
inductive OS where
 | lst (ds : List D) | dk (kvs : List (Key × D)) | dt (kvs : List (List Key × D)) | ll (xs : List LI)
inductive Sl where
 | val (d : D)
 | ob (x : OS)
abbrev Sl.own (ds : List D) : Sl := .ob (.lst ds)
def c8 (K : PySem.W.Frag) (P : Bool -> Addr -> Prop) (H : Hp) (B : Nat -> Option Addr) : Nat -> List LI -> List V -> Prop
 | _, [], vs => vs = []
 | k, .own ds :: r, vs => ∃ b us u, vs = .ref b :: u /\ B k = some b /\ H b = some (.lst us) /\ af K P H ds us /\ c8 K P H B (k + 1) r u
 | k, .val d :: r, vs => ∃ v u, vs = v :: u /\ Den K P H d v /\ c8 K P H B (k + 1) r u
theorem c8.map {K : PySem.W.Frag} {P P' : Bool -> Addr -> Prop} {H H' : Hp} {B B' : Nat -> Option Addr} (hd : ∀ ds vs, af K P H ds vs -> af K P' H' ds vs) (hB : ∀ k b, B k = some b -> B' k = some b /\ ∀ us, H b = some (.lst us) -> H' b = some (.lst us)) : ∀ {k : Nat} {xs : List LI} {vs : List V}, c8 K P H B k xs vs -> c8 K P' H' B' k xs vs
 | _, [], _, h => by simpa only [c8] using h
 | k, .own ds :: r, _, h => by
  simp only [c8] at h ⊢
  obtain ⟨b, us, u, e, h1, h2, h3, h4⟩ := h
  exact ⟨b, us, u, e, (hB k b h1).1, (hB k b h1).2 us h2, hd ds us h3, c8.map hd hB h4⟩
 | k, .val d :: r, _, h => by
  simp only [c8] at h ⊢
  obtain ⟨v, u, e, h1, h2⟩ := h
  have h3 := hd [d] [v] (af.one h1)
  simp only [af] at h3
  obtain ⟨v', r', e', h4, _⟩ := h3
  cases e'
  exact ⟨v, u, e, h4, c8.map hd hB h2⟩
inductive bS (K : PySem.W.Frag) (P : Bool -> Addr -> Prop) (H : Hp) (B : Nat -> Option Addr) : OS -> HO -> Prop where
 | lst {ds : List D} {vs : List V} (h : af K P H ds vs) : bS K P H B (.lst ds) (.lst vs)
 | ll {xs : List LI} {vs : List V} (h : c8 K P H B 0 xs vs) : bS K P H B (.ll xs) (.lst vs)
 | dk {kvs : List (Key × D)} {kws : List (Key × V)} (e : kws.map (·.1) = kvs.map (·.1)) (h : af K P H (kvs.map (·.2)) (kws.map (·.2))) : bS K P H B (.dk kvs) (.dK kws)
 | dt {kvs : List (List Key × D)} {kws : List (List Key × V)} (e : kws.map (·.1) = kvs.map (·.1)) (h : af K P H (kvs.map (·.2)) (kws.map (·.2))) : bS K P H B (.dt kvs) (.dT kws)
def iW : HO -> Prop
 | .lst _ => True | .dK _ => True | .dT _ => True | _ => False
theorem iW.nt {o : HO} (h : iW o) : NT o := by cases o <;> first | exact True.intro | exact h.elim
theorem iW.ne {o : HO} (h : iW o) : ∀ φ, o ≠ .ext φ := fun _ e => by subst e; exact h
section
variable {K : PySem.W.Frag} {P P' : Bool -> Addr -> Prop} {H H' : Hp} {B B' : Nat -> Option Addr} {x : OS} {o : HO}
theorem bS.map (k : ∀ ds vs, af K P H ds vs -> af K P' H' ds vs) (hB : ∀ k b, B k = some b -> B' k = some b /\ ∀ us, H b = some (.lst us) -> H' b = some (.lst us)) (h : bS K P H B x o) : bS K P' H' B' x o := by
 cases h with
 | lst h => exact .lst (k _ _ h)
 | ll h => exact .ll (h.map k hB)
 | dk e h => exact .dk e (k _ _ h)
 | dt e h => exact .dt e (k _ _ h)
theorem bS.same (e : aj H H') (h : bS K P H B x o) : bS K P H' B x o := h.map (fun _ _ z => z.same e) fun _ _ q => ⟨q, fun _ z => e _ _ z⟩
theorem bS.fewer (e : ∀ t a, P' t a -> P t a) (hB : ∀ k b, B k = some b -> B' k = some b) (h : bS K P H B x o) : bS K P' H B' x o := h.map (fun _ _ z => z.fewer e) fun k b q => ⟨hB k b q, fun _ z => z⟩
theorem bS.mut (h : bS K P H B x o) : iW o := by cases h <;> exact True.intro
theorem bS.lst_ {ds : List D} (h : bS K P H B (.lst ds) o) : ∃ vs, o = .lst vs /\ af K P H ds vs := by
 cases h with
 | lst h => exact ⟨_, rfl, h⟩
end
abbrev Ro := List (Option Sl)
structure Own where
 B : Addr -> Prop
 O : Nat -> Option Addr
 S : Addr -> Prop
def Own.bad (W : Own) (t : Bool) (a : Addr) : Prop := W.B a ∨ (∃ i, W.O i = some a) ∨ (t = true /\ W.S a)
def Own.drop (W : Own) (i : Nat) : Own := ⟨W.B, fun j => if j = i then none else W.O j, W.S⟩
def Own.put (W : Own) (i : Nat) (a : Addr) : Own := ⟨W.B, fun j => if j = i then some a else W.O j, W.S⟩
theorem Own.drop_bad {W : Own} {i : Nat} {t : Bool} {a : Addr} (h : (W.drop i).bad t a) : W.bad t a := by
 rcases h with h | ⟨j, h⟩ | h
 ·exact .inl h
 ·have h' : (if j = i then none else W.O j) = some a := h
  by_cases e : j = i
  ·rw [if_pos e] at h'; cases h'
  ·rw [if_neg e] at h'; exact .inr (.inl ⟨j, h'⟩)
 ·exact .inr (.inr h)
theorem Own.bad_up {W : Own} {t : Bool} {a : Addr} (h : W.bad false a) : W.bad t a := by
 rcases h with h | h | ⟨h, _⟩
 ·exact .inl h
 ·exact .inr (.inl h)
 ·cases h
def vix (n i k : Nat) : Nat := n * (k + 1) + i
theorem m5 {n i j k : Nat} (h : j < n) : vix n i k ≠ j := fun e => by
 unfold vix at e
 rw [Nat.mul_add] at e
 omega
abbrev Own.sub (W : Own) (n i : Nat) (k : Nat) : Option Addr := W.O (vix n i k)
theorem Own.drop_sub {W : Own} {n i j : Nat} (h : i < n) (k : Nat) (b : Addr) (e : W.sub n j k = some b) : (W.drop i).sub n j k = some b := by
 show (if vix n j k = i then none else W.O (vix n j k)) = _
 rw [if_neg (m5 h)]
 exact e
structure Rel (X : Cx) (W : Own) (H : Hp) (σ : St) (ρ : Ro) : Prop where
 val : ∀ (i : Nat) (d : D), ρ[i]? = some (some (Sl.val d)) -> ∃ v, σ[i]? = some (some v) /\ Den X.K W.bad H d v
 own : ∀ (i : Nat) (x : OS), ρ[i]? = some (some (Sl.ob x)) -> ∃ a o, W.O i = some a /\ σ[i]? = some (some (.ref a)) /\ H a = some o /\ bS X.K W.bad H (W.sub σ.length i) x o
 inj : ∀ i j a, W.O i = some a -> W.O j = some a -> i = j
 kn : ∀ i a, W.O i = some a -> X.K.lookup a = none /\ (¬ W.B a /\ ¬ W.S a) /\ ∃ o, H a = some o /\ iW o
 ke : ∀ i a, W.O i = some a -> X.H₀ a = none
 bt : ∀ a, W.B a -> ∃ o, H a = some o
 st : ∀ a, W.S a -> ∃ o, H a = some o
 ent : aj X.H₀ H
 tab : gZ X.K H
theorem Rel.same {X : Cx} {W : Own} {H H' : Hp} {σ : St} {ρ : Ro} (r : Rel X W H σ ρ) (e : aj H H') : Rel X W H' σ ρ where
 val := fun i d h => let ⟨v, h1, h2⟩ := r.val i d h; ⟨v, h1, h2.same e⟩
 own := fun i ds h => let ⟨a, vs, h1, h2, h3, h4⟩ := r.own i ds h; ⟨a, vs, h1, h2, e.kp _ _ h3 h4.mut.nt, h4.same e⟩
 inj := r.inj
 kn := fun i a h => let ⟨h1, h2, o, h3, h4⟩ := r.kn i a h; ⟨h1, h2, o, e.kp _ _ h3 h4.nt, h4⟩
 ke := r.ke
 bt := fun a h => let ⟨_, q⟩ := r.bt a h; e.ex q
 st := fun a h => let ⟨_, q⟩ := r.st a h; e.ex q
 ent := r.ent.trans e
 tab := r.tab.same e
theorem Rel.ownL {X : Cx} {W : Own} {H : Hp} {σ : St} {ρ : Ro} (r : Rel X W H σ ρ) (i : Nat) (ds : List D) (h : ρ[i]? = some (some (Sl.own ds))) : ∃ a vs, W.O i = some a /\ σ[i]? = some (some (.ref a)) /\ H a = some (.lst vs) /\ af X.K W.bad H ds vs := by
 obtain ⟨a, o, h1, h2, h3, h4⟩ := r.own i _ h
 obtain ⟨vs, e, h5⟩ := h4.lst_
 subst e
 exact ⟨a, vs, h1, h2, h3, h5⟩
theorem Rel.tracked {X : Cx} {W : Own} {H : Hp} {σ : St} {ρ : Ro} (r : Rel X W H σ ρ) (t : Bool) (a : Addr) (h : W.bad t a) : ∃ o, H a = some o := by
 rcases h with h | ⟨i, h⟩ | ⟨_, h⟩
 ·exact r.bt a h
 ·obtain ⟨_, _, o, q, _⟩ := r.kn i a h
  exact ⟨_, q⟩
 ·exact r.st a h
theorem Rel.fresh {X : Cx} {W : Own} {H : Hp} {σ : St} {ρ : Ro} (r : Rel X W H σ ρ) {t : Bool} {p : Addr} (h : H p = none) : ¬ W.bad t p := fun z => by
 obtain ⟨o, q⟩ := r.tracked t p z
 rw [h] at q; cases q
structure Fwd (W : Own) (H : Hp) (W' : Own) (H' : Hp) : Prop where
 B : W'.B = W.B
 S : W'.S = W.S
 kp : ∀ b o, (∀ i, W.O i ≠ some b) -> H b = some o -> NT o -> H' b = some o
 new : ∀ i a, W'.O i = some a -> (∃ j, W.O j = some a) ∨ H a = none
 tb : ∀ b ps, H b = some (.tbl ps) -> ∃ more, H' b = some (.tbl (ps ++ more))
 ok : c9 H -> c9 H'
theorem Fwd.keep {W W' : Own} {H H' : Hp} (f : Fwd W H W' H') (b : Addr) (o : HO) (h : ∀ i, W.O i ≠ some b) (q : H b = some o) (nt : NT o := by first | exact True.intro | assumption) : H' b = some o := f.kp b o h q nt
theorem Fwd.ex {W W' : Own} {H H' : Hp} (f : Fwd W H W' H') {b : Addr} {o : HO} (h : ∀ i, W.O i ≠ some b) (q : H b = some o) : ∃ o', H' b = some o' := by
 by_cases n : NT o
 ·exact ⟨o, f.kp b o h q n⟩
 ·cases o with
  | tbl ps =>
   obtain ⟨m, e⟩ := f.tb b ps q
   exact ⟨_, e⟩
  | _ => exact absurd True.intro n
theorem Fwd.refl (W : Own) (H : Hp) : Fwd W H W H := ⟨rfl, rfl, fun _ _ _ h _ => h, fun i _ h => .inl ⟨i, h⟩, fun _ ps h => ⟨#[], by rw [h]; simp⟩, id⟩
theorem Fwd.trans {W W1 W2 : Own} {H H1 H2 : Hp} (a : Fwd W H W1 H1) (b : Fwd W1 H1 W2 H2) : Fwd W H W2 H2 := by
 refine ⟨b.B.trans a.B, b.S.trans a.S, fun x o n h t => b.kp x o (fun i z => ?_) (a.kp x o n h t) t, fun i x h => ?_, fun c ps h => ?_, fun h => b.ok (a.ok h)⟩
 ·rcases a.new i x z with ⟨j, q⟩ | q
  ·exact n j q
  ·rw [h] at q; cases q
 ·rcases b.new i x h with ⟨j, q⟩ | q
  ·exact a.new j x q
  ·by_cases z : ∃ j, W.O j = some x
   ·exact .inl z
   ·refine .inr ?_
    cases e : H x with
    | none => rfl
    | some o =>
     obtain ⟨o', this⟩ := a.ex (fun i w => z ⟨i, w⟩) e
     rw [this] at q; cases q
 ·obtain ⟨m1, e1⟩ := a.tb c ps h
  obtain ⟨m2, e2⟩ := b.tb c _ e1
  exact ⟨m1 ++ m2, by rw [e2, zCB]⟩
theorem Fwd.same {W : Own} {H H' : Hp} (e : aj H H') : Fwd W H W H' := ⟨rfl, rfl, fun _ _ _ h n => e.kp _ _ h n, fun i _ h => .inl ⟨i, h⟩, e.tb, e.ok⟩
theorem aj.ins {H₀ H : Hp} (e : aj H₀ H) {a : Addr} {o o' : HO} (h0 : H₀ a = none) (ha : H a = some o) (hm : iW o) (hn : NT o') : aj H₀ (upd H a o') :=
 ⟨fun b u h n => by rw [ay (bK h h0)]; exact e.kp b u h n, fun b ps h => by rw [ay (bK h h0)]; exact e.tb b ps h, fun h => c9.upd hn (.inr ⟨o, ha, hm.ne, hm.nt⟩) (e.ok h)⟩
theorem Fwd.upd {W : Own} {H : Hp} {i : Nat} {a : Addr} {o o' : HO} (oa : W.O i = some a) (ha : H a = some o) (hm : iW o) (hn : NT o') : Fwd W H W (upd H a o') :=
 ⟨rfl, rfl, fun b u n h _ => by rw [ay fun e => n i (by rw [e]; exact oa)]; exact h, fun j _ h => .inl ⟨j, h⟩, fun b ps h => ⟨#[], by rw [ay (fun e => by subst e; rw [ha] at h; cases h; exact hm), h]; simp⟩, c9.upd hn (.inr ⟨o, ha, hm.ne, hm.nt⟩)⟩
structure fJ where
 nx : Ro -> Prop
 rt : D -> Prop
 bk : Ro -> Prop := fun _ => False
 ct : Ro -> Prop := fun _ => False
abbrev DE := Ro -> (D -> Prop) -> Prop
abbrev DT := Ro -> (Bool -> Prop) -> Prop
abbrev DA := Ro -> (List D -> Prop) -> Prop
abbrev DS := fJ -> Ro -> Prop
def DP (X : Cx) (pins : List (Addr × Obj)) (σ : St) (W : Own) (H : Hp) (Q : D -> Prop) (u : Value) (s' : Shared) : Prop :=
 ∃ v H' d, Inv X pins σ H' s' /\ RelV v u /\ aj H H' /\ Den X.K W.bad H' d v /\ Q d
def DTP (X : Cx) (pins : List (Addr × Obj)) (σ : St) (H : Hp) (Q : Bool -> Prop) (b : Bool) (s' : Shared) : Prop :=
 ∃ H', Inv X pins σ H' s' /\ aj H H' /\ Q b
def DAP (X : Cx) (pins : List (Addr × Obj)) (σ : St) (W : Own) (H : Hp) (Q : List D -> Prop) (us : List Value) (s' : Shared) : Prop :=
 ∃ vs H' ds, Inv X pins σ H' s' /\ Vals vs us /\ aj H H' /\ af X.K W.bad H' ds vs /\ Q ds
def SPD (X : Cx) (pins : List (Addr × Obj)) (W : Own) (H : Hp) (E : fJ) (f : Flow) (s' : Shared) : Prop :=
 ∃ W' σ' H', Inv X pins σ' H' s' /\ Fwd W H W' H' ∧
 match f with
 | .next => ∃ ρ', Rel X W' H' σ' ρ' /\ E.nx ρ'
 | .brk => ∃ ρ', Rel X W' H' σ' ρ' /\ E.bk ρ'
 | .cont => ∃ ρ', Rel X W' H' σ' ρ' /\ E.ct ρ'
 | .ret u => ∃ v d, RelV v u /\ Den X.K W'.bad H' d v /\ E.rt d
def PED (X : Cx) (e : Expr) (t : DE) : Prop :=
 ∀ (pins : List (Addr × Obj)) (s : Shared) (σ : St) (H : Hp) (W : Own) (ρ : Ro) (Q : D -> Prop), Inv X pins σ H s -> Rel X W H σ ρ -> t ρ Q →
  wpAny (model X.prog X.w) X.A (eval e X.env) (DP X pins σ W H Q) X.xe s
def PTD (X : Cx) (e : Expr) (t : DT) : Prop :=
 ∀ (pins : List (Addr × Obj)) (s : Shared) (σ : St) (H : Hp) (W : Own) (ρ : Ro) (Q : Bool -> Prop), Inv X pins σ H s -> Rel X W H σ ρ -> t ρ Q →
  wpAny (model X.prog X.w) X.A (isTrue e X.env (eval e X.env)) (DTP X pins σ H Q) X.xe s
def PWD (X : Cx) (e : Expr) (t : DT) : Prop :=
 ∀ (whole : Sem Value) (pins : List (Addr × Obj)) (s : Shared) (σ : St) (H : Hp) (W : Own) (ρ : Ro) (Q : Bool -> Prop), Inv X pins σ H s -> Rel X W H σ ρ -> t ρ Q →
  wpAny (model X.prog X.w) X.A (isTrue e X.env whole) (DTP X pins σ H Q) X.xe s
theorem PWD.pt {X : Cx} {e : Expr} {t : DT} (h : PWD X e t) : PTD X e t := h _
def PAD (X : Cx) (es : List Expr) (t : DA) : Prop :=
 ∀ (pos : Pos) (pins : List (Addr × Obj)) (s : Shared) (σ : St) (H : Hp) (W : Own) (ρ : Ro) (Q : List D -> Prop), Inv X pins σ H s -> Rel X W H σ ρ -> t ρ Q →
  wpAny (model X.prog X.w) X.A (spliced (backTo pos (starEach es X.env))) (DAP X pins σ W H Q) X.xe s
def PSD (X : Cx) (st : Stmt) (t : DS) : Prop :=
 ∀ (pins : List (Addr × Obj)) (s : Shared) (σ : St) (H : Hp) (W : Own) (ρ : Ro) (E : fJ), Inv X pins σ H s -> Rel X W H σ ρ -> t E ρ →
  wpAny (model X.prog X.w) X.A (exec st X.env) (SPD X pins W H E) X.xe s
def b5 (X : Cx) (st : List Stmt) (t : DS) : Prop :=
 ∀ (pins : List (Addr × Obj)) (s : Shared) (σ : St) (H : Hp) (W : Own) (ρ : Ro) (E : fJ), Inv X pins σ H s -> Rel X W H σ ρ -> t E ρ →
  wpAny (model X.prog X.w) X.A (execs st X.env) (SPD X pins W H E) X.xe s
def yC (X : Cx) (t : DE) : TE := fun σ H Q => ∃ W ρ Qd, Rel X W H σ ρ /\ t ρ Qd /\ ∀ v H' d, aj H H' -> Den X.K W.bad H' d v -> Qd d -> Q v H'
def Bj (X : Cx) (t : DS) : TS := fun D σ H => ∃ W ρ Ed, Rel X W H σ ρ /\ t Ed ρ ∧
 (∀ W' σ' H' ρ', Fwd W H W' H' -> Rel X W' H' σ' ρ' -> Ed.nx ρ' -> D.nx σ' H') ∧
 (∀ W' H' v d, Fwd W H W' H' -> Den X.K W'.bad H' d v -> Ed.rt d -> D.rt v H') ∧
 (∀ W' σ' H' ρ', Fwd W H W' H' -> Rel X W' H' σ' ρ' -> Ed.bk ρ' -> D.bk σ' H') ∧
 (∀ W' σ' H' ρ', Fwd W H W' H' -> Rel X W' H' σ' ρ' -> Ed.ct ρ' -> D.ct σ' H')
section
variable {X : Cx}
theorem PED.pe {e : Expr} {t : DE} (h : PED X e t) : PE X e (yC X t) := by
 intro pins s σ H Q I q
 obtain ⟨W, ρ, Qd, r, ht, k⟩ := q
 exact thn (h pins s σ H W ρ Qd I r ht) fun u s1 ⟨v, H', d, I1, rv, e1, hd, qd⟩ => ⟨v, H', I1, rv, k v H' d e1 hd qd⟩
theorem b5.ps {st : List Stmt} {t : DS} (h : b5 X st t) : PSs X st (Bj X t) := by
 intro pins s σ H D I q
 obtain ⟨W, ρ, Ed, r, ht, k1, k2, k3, k4⟩ := q
 refine thn (h pins s σ H W ρ Ed I r ht) fun f s1 ⟨W', σ', H', I1, fw, q⟩ => ?_
 cases f with
 | next => obtain ⟨ρ', r', q'⟩ := q; exact ⟨σ', H', I1, k1 W' σ' H' ρ' fw r' q'⟩
 | brk => obtain ⟨ρ', r', q'⟩ := q; exact ⟨σ', H', I1, k3 W' σ' H' ρ' fw r' q'⟩
 | cont => obtain ⟨ρ', r', q'⟩ := q; exact ⟨σ', H', I1, k4 W' σ' H' ρ' fw r' q'⟩
 | ret u => obtain ⟨v, d, rv, hd, q'⟩ := q; exact ⟨v, σ', H', I1, rv, k2 W' H' v d fw hd q'⟩
theorem PED.of {e : Expr} {te : TE} {t : DE} (h : PE X e te) (k : ∀ σ H W ρ Q, Rel X W H σ ρ -> t ρ Q -> te σ H fun v H' => aj H H' /\ ∃ d, Den X.K W.bad H' d v /\ Q d) : PED X e t := by
 intro pins s σ H W ρ Q I r ht
 exact thn (h pins s σ H _ I (k σ H W ρ Q r ht)) fun u s1 ⟨v, H', I1, rv, e1, d, hd, q⟩ => ⟨v, H', d, I1, rv, e1, hd, q⟩
end
section
variable {X : Cx} {a b c : Expr} {ta tb : DE} {pos : Pos}
def jQ (i : Nat) : DE := fun ρ Q => ∃ d, ρ[i]? = some (some (.val d)) /\ Q d
def dC (d : D) : DE := fun _ Q => Q d
theorem dv (i : Nat) {x : Str} {pos : Pos} (hN : X.N[i]? = some x := by rfl) (hv : Vis X.env.scope x := by first | exact Or.inl rfl | exact Or.inr (Or.inl rfl) | exact Or.inr (Or.inr rfl)) (hd : (x == ("__debug__" : Str)) = false := by decide)
  (hcd : (x == ("__classdict__" : Str)) = false := by decide) : PED X (.Name x pos) (jQ i) :=
 PED.of (cX hN hv hd hcd) fun σ H W ρ Q r ht => by
  obtain ⟨d, e, q⟩ := ht
  obtain ⟨v, e1, e2⟩ := r.val i d e
  exact ⟨v, e1, aj.refl H, d, e2, q⟩
theorem ae {i j pos} : PED X (.Constant (.int i) j pos) (dC (.int i)) := PED.of AS fun _ H _ _ _ _ q => ⟨aj.refl H, _, Den.int i, q⟩
theorem lV {i j pos} : PED X (.Constant (.bool i) j pos) (dC (.bl i)) := PED.of Br fun _ H _ _ _ _ q => ⟨aj.refl H, _, Den.bl i, q⟩
theorem eY {j pos} : PED X (.Constant .none j pos) (dC .non) := PED.of AU fun _ H _ _ _ _ q => ⟨aj.refl H, _, Den.non, q⟩
abbrev RD2 := D -> D -> (D -> Prop) -> Prop
def OpD (X : Cx) (f : Value -> Value -> Sem Value) (r : RD2) : Prop :=
 ∀ (pins : List (Addr × Obj)) (s : Shared) (σ : St) (H : Hp) (W : Own) (x y : D) (v u : V) (vv uu : Value) (Q : D -> Prop), Inv X pins σ H s -> (∀ t a, W.bad t a -> ∃ o, H a = some o) -> RelV v vv -> RelV u uu -> Den X.K W.bad H x v -> Den X.K W.bad H y u -> r x y Q →
  wpAny (model X.prog X.w) X.A (f vv uu) (DP X pins σ W H Q) X.xe s
def dOp (r : RD2) (ta tb : DE) : DE := fun ρ Q => ta ρ fun x => tb ρ fun y => r x y Q
theorem uc (ha : PED X a ta) (hb : PED X b tb) {pins : List (Addr × Obj)} {s : Shared} {σ : St} {H : Hp} {W : Own} {ρ : Ro} {R : D -> D -> Prop} (I : Inv X pins σ H s) (r : Rel X W H σ ρ) (h : ta ρ fun x => tb ρ fun y => R x y)
  {α : Type} {Q : α -> Shared -> Prop} {f : Value -> Value -> Sem α}
  (hf : ∀ vv uu s2 v u x y H2, Inv X pins σ H2 s2 -> aj H H2 -> RelV v vv -> RelV u uu -> Den X.K W.bad H2 x v -> Den X.K W.bad H2 y u -> R x y -> wpAny (model X.prog X.w) X.A (f vv uu) Q X.xe s2) :
  wpAny (model X.prog X.w) X.A (eval a X.env) (fun v s₁ => wpAny (model X.prog X.w) X.A (eval b X.env) (fun u s₂ => wpAny (model X.prog X.w) X.A (f v u) Q X.xe s₂) X.xe s₁) X.xe s := by
 refine thn (ha pins s σ H W ρ _ I r h) fun vv s1 ⟨v, H1, x, I1, rv, e1, hx, q1⟩ => ?_
 refine thn (hb pins s1 σ H1 W ρ _ I1 (r.same e1) q1) fun uu s2 ⟨u, H2, y, I2, ru, e2, hy, q2⟩ => ?_
 exact hf vv uu s2 v u x y H2 I2 (e1.trans e2) rv ru (hx.same e2) hy q2
theorem DP.up {pins : List (Addr × Obj)} {σ : St} {W : Own} {H H1 : Hp} {Q : D -> Prop} {u : Value} {s' : Shared} (e : aj H H1) (h : DP X pins σ W H1 Q u s') : DP X pins σ W H Q u s' := by
 obtain ⟨v, H', d, I, r, e1, hd, q⟩ := h
 exact ⟨v, H', d, I, r, e.trans e1, hd, q⟩
theorem ar {op : Operator} {r : RD2} (ho : OpD X (binaryOp op) r) (ha : PED X a ta) (hb : PED X b tb) : PED X (.BinOp a op b pos) (dOp r ta tb) := by
 intro pins s σ H W ρ Q I rr h
 refine wpAny_BinOp (uc ha hb I rr h fun vv uu s2 v u x y H2 I2 e rv ru hx hy q => ?_)
 exact thn (ho pins s2 σ H2 W x y v u vv uu Q I2 (rr.same e).tracked rv ru hx hy q) fun _ _ z => z.up e
theorem Bc {op : UnaryOp} {r : V -> Hp -> VK -> Prop} {rd : D -> (D -> Prop) -> Prop} (ho : UnR X (unaryOp op) r) (ha : PED X a ta)
  (k : ∀ P H d v Q, Den X.K P H d v -> rd d Q -> r v H fun v' H' => aj H H' /\ ∃ d', Den X.K P H' d' v' /\ Q d') : PED X (.UnaryOp op a pos) (fun ρ Q => ta ρ fun x => rd x Q) := by
 intro pins s σ H W ρ Q I rr h
 refine UnaryOp_ (thn (ha pins s σ H W ρ _ I rr h) fun vv s1 ⟨v, H1, x, I1, rv, e1, hx, q1⟩ => ?_)
 exact thn (ho pins s1 σ H1 v vv _ I1 rv (k _ H1 x v Q hx q1)) fun u s2 ⟨w', H2, I2, r2, e2, d, hd, q2⟩ => ⟨w', H2, d, I2, r2, e1.trans e2, hd, q2⟩
def xj (ta : DE) : DE := fun ρ Q => ta ρ fun x => ∃ i, x = .int i /\ Q (.int (-i))
theorem bU (ha : PED X a ta) : PED X (.UnaryOp .USub a pos) (xj ta) :=
 Bc (rd := fun x Q => ∃ i, x = .int i /\ Q (.int (-i))) A9 ha fun P H d v Q hd ⟨i, e, q⟩ => by
  subst e
  exact ⟨i, hd.int_, aj.refl H, _, Den.int _, q⟩
theorem OpD.of {f : Value -> Value -> Sem Value} {r : R2} {rd : RD2} (h : OpR X f r) (k : ∀ P H x y v u Q, Den X.K P H x v -> Den X.K P H y u -> rd x y Q -> r v u H fun v' H' => aj H H' /\ ∃ d', Den X.K P H' d' v' /\ Q d') : OpD X f rd := by
 intro pins s σ H W x y v u vv uu Q I _ rv ru hx hy q
 exact thn (h pins s σ H v u vv uu _ I rv ru (k _ H x y v u Q hx hy q)) fun _ s2 ⟨w', H2, I2, r2, e2, d, hd, q2⟩ => ⟨w', H2, d, I2, r2, e2, hd, q2⟩
def rdI (C : Int -> Int -> Prop) (g : Int -> Int -> D) : RD2 := fun x y Q => ∃ i j, x = .int i /\ y = .int j /\ C i j /\ Q (g i j)
def hZ (g : Int -> Int -> D) : RD2 := fun x y Q => ∃ i j, x = .int i /\ y = .int j /\ Q (g i j)
theorem OpD.ofI {f : Value -> Value -> Sem Value} {C : Int -> Int -> Prop} {g : Int -> Int -> Int} (h : OpR X f (rI C fun i j => .int (g i j))) : OpD X f (rdI C fun i j => .int (g i j)) :=
 OpD.of h fun P H x y v u Q hx hy ⟨i, j, e1, e2, hc, q⟩ => by
  subst e1 e2
  exact ⟨i, j, hx.int_, hy.int_, hc, aj.refl H, _, Den.int _, q⟩
theorem OpD.ofI0 {f : Value -> Value -> Sem Value} {g : Int -> Int -> Int} (h : OpR X f (rI0 fun i j => .int (g i j))) : OpD X f (hZ fun i j => .int (g i j)) :=
 OpD.of h fun P H x y v u Q hx hy ⟨i, j, e1, e2, q⟩ => by
  subst e1 e2
  exact ⟨i, j, hx.int_, hy.int_, aj.refl H, _, Den.int _, q⟩
theorem OpD.ofB0 {f : Value -> Value -> Sem Value} {g : Int -> Int -> Bool} (h : OpR X f (rI0 fun i j => .bl (g i j))) : OpD X f (hZ fun i j => .bl (g i j)) :=
 OpD.of h fun P H x y v u Q hx hy ⟨i, j, e1, e2, q⟩ => by
  subst e1 e2
  exact ⟨i, j, hx.int_, hy.int_, aj.refl H, _, Den.bl _, q⟩
theorem AH : OpD X (binaryOp .Add) (hZ fun i j => .int (i + j)) := OpD.ofI0 AM
theorem bB : OpD X (binaryOp .Sub) (hZ fun i j => .int (i - j)) := OpD.ofI0 AQ
theorem uQ : OpD X (compareOp .Lt) (hZ fun i j => .bl (decide (i < j))) := OpD.ofB0 Bp
theorem yF : OpD X (compareOp .LtE) (hZ fun i j => .bl (decide (i <= j))) := OpD.ofB0 Bo
theorem uP : OpD X (compareOp .Gt) (hZ fun i j => .bl (decide (j < i))) := OpD.ofB0 Bn
def Bd (n : Nat) (x : Int) : Prop := x.natAbs < 2 ^ n
theorem Bd.mono {m n : Nat} {x : Int} (h : Bd m x) (l : m <= n) : Bd n x := zAS h (Nat.pow_le_pow_right (by decide) l)
theorem Bd.mul {m n : Nat} {x y : Int} (h : Bd m x) (h' : Bd n y) : Bd (m + n) (x * y) := by
 unfold Bd at *
 rw [Int.natAbs_mul, Nat.pow_add]
 exact Nat.mul_lt_mul'' h h'
theorem Bd.add {m : Nat} {x y : Int} (h : Bd m x) (h' : Bd m y) : Bd (m + 1) (x + y) := by
 unfold Bd at *
 rw [zA4]
 have := Int.natAbs_add_le x y
 omega
theorem Bd.sub {m : Nat} {x y : Int} (h : Bd m x) (h' : Bd m y) : Bd (m + 1) (x - y) := by
 unfold Bd at *
 rw [zA4]
 have := Int.natAbs_sub_le x y
 omega
theorem Bd.bits {n : Nat} {x : Int} (h : Bd n x) : Builtin.Int.intBits x <= n := by
 unfold Bd at h
 unfold Builtin.Int.intBits
 split
 ·exact zAi _
 ·rename_i hz
  have hp : x.natAbs ≠ 0 := by
   intro e
   apply hz
   have : x = 0 := Int.natAbs_eq_zero.mp e
   simp [this]
  have := (Nat.log2_lt hp).mpr h
  omega
def CM (i j : Int) : Prop := Bd 64 i ∨ Bd 64 j ∨ (Bd 100000 i /\ Bd 100000 j)
theorem CM.ok {i j : Int} (h : CM i j) : IntMulOk i j := by
 rcases h with h | h | ⟨h, h'⟩
 ·exact .of_left h.bits
 ·exact .of_right h.bits
 ·exact .of_bits (zAX h.bits (by decide)) (zAX h'.bits (by decide))
theorem zC : OpR X (binaryOp .Mult) (rI CM fun i j => .int (i * j)) := opI fun _ _ _ _ _ _ _ hc q => mul_int q hc.ok
theorem aN : OpD X (binaryOp .Mult) (rdI CM fun i j => .int (i * j)) := OpD.ofI zC
def CD (_ : Int) (j : Int) : Prop := j ≠ 0 /\ Bd 8000 j
theorem CD.noPy {i j : Int} (h : CD i j) : Builtin.divisionGoesByPylong i j = false := by
 refine PyProof.noPylong_of_log2 ?_
 have hz : j.natAbs ≠ 0 := fun e => h.1 (Int.natAbs_eq_zero.mp e)
 have := (Nat.log2_lt hz).mpr h.2
 omega
theorem xY : OpR X (binaryOp .FloorDiv) (rI CD fun i j => .int (i.fdiv j)) := opI fun _ _ _ _ _ _ _ hc q => floordiv_int hc.1 q (.inl hc.noPy)
theorem bX : OpD X (binaryOp .FloorDiv) (rdI CD fun i j => .int (i.fdiv j)) := OpD.ofI xY
theorem aH : OpD X (binaryOp .Mod) (rdI (fun _ j => j ≠ 0) fun i j => .int (i.fmod j)) := OpD.ofI zB
theorem mG : OpD X (binaryOp .Pow) (rdI pD fun i j => .int (i ^ j.toNat)) := OpD.ofI AO
def dB (t : DE) : DT := fun ρ Q => t ρ fun x => ∃ k, x = .bl k /\ Q k
theorem eX {op : CmpOp} {r : RD2} (ho : OpD X (compareOp op) r) (ha : PED X a ta) (hb : PED X b tb) (hm : behindInMarks op b = false := by first | exact qE _ (by decide) (by decide) | rfl) : PED X (.Compare a [op] [b] pos) (dOp r ta tb) := by
 intro pins s σ H W ρ Q I rr h
 refine wpAny_Compare1 (uc ha hb I rr h fun vv uu s2 v u x y H2 I2 e rv ru hx hy q => ?_) hm
 exact thn (ho pins s2 σ H2 W x y v u vv uu Q I2 (rr.same e).tracked rv ru hx hy q) fun _ _ z => z.up e
theorem aQ {op : CmpOp} {r : RD2} (ho : OpD X (compareOp op) r) (ha : PED X a ta) (hb : PED X b tb) (hm : behindInMarks op b = false := by first | exact qE _ (by decide) (by decide) | rfl) : PTD X (.Compare a [op] [b] pos) (dB (dOp r ta tb)) := by
 intro pins s σ H W ρ Q I rr h
 refine wpAny_isTrue_Compare1 (thn (ha pins s σ H W ρ _ I rr h) fun vv s1 ⟨v, H1, x, I1, rv, e1, hx, q1⟩ => thn (hb pins s1 σ H1 W ρ _ I1 (rr.same e1) q1) fun uu s2 ⟨u, H2, y, I2, ru, e2, hy, q2⟩ =>
  thn (ho pins s2 σ H2 W x y v u vv uu _ I2 ((rr.same e1).same e2).tracked rv ru (hx.same e2) hy q2) fun c s3 ⟨z, H3, d, I3, r3, e3, hd, k, ek, q3⟩ => ?_) hm
 subst ek
 have hz := hd.bl_
 subst hz
 cases r3
 exact wpAny_truthy_bool ⟨H3, I3, e1.trans (e2.trans e3), q3⟩
theorem cJ {e : Expr} {t : DE} (h : PED X e t) (he : ∀ whole, isTrue e X.env whole = (do let v ← whole; standAt e.pos; holding [v] (truthy v)) := by intro _; rfl) : PTD X e (dB t) := by
 intro pins s σ H W ρ Q I rr hw
 refine isTrue_plain (thn (h pins s σ H W ρ _ I rr hw) fun vv s1 ⟨v, H1, x, I1, rv, e1, hx, k, ek, q⟩ => ?_) (he _)
 subst ek
 have hz := hx.bl_
 subst hz
 cases rv
 exact wpAny_truthy_bool ⟨H1, I1, e1, q⟩
variable {tA tB' : DT} {rest : List Expr}
def xf (t u : DT) : DT := fun ρ Q => t ρ fun c => if c = true then u ρ Q else Q false
def dOr (t u : DT) : DT := fun ρ Q => t ρ fun c => if c = true then Q true else u ρ Q
def xm (t : DT) : DT := fun ρ Q => t ρ fun c => Q (!c)
theorem yZ (ha : PTD X a tA) : PWD X (.BoolOp .And [a] pos) tA := by
 intro wh pins s σ H W ρ Q I rr h
 refine isTrue_and (thn (ha pins s σ H W ρ Q I rr h) fun c s1 e => ?_)
 cases c with
 | true => exact isTrue_and_nil e
 | false => exact e
theorem mf (ha : PTD X a tA) : PWD X (.BoolOp .Or [a] pos) tA := by
 intro wh pins s σ H W ρ Q I rr h
 refine isTrue_or (thn (ha pins s σ H W ρ Q I rr h) fun c s1 e => ?_)
 cases c with
 | false => exact isTrue_or_nil e
 | true => exact e
theorem Al (ha : PTD X a tA) (hb : PWD X (.BoolOp .And (b :: rest) pos) tB') : PWD X (.BoolOp .And (a :: b :: rest) pos) (xf tA tB') := by
 intro wh pins s σ H W ρ Q I rr h
 refine isTrue_and (thn (ha pins s σ H W ρ _ I rr h) fun c s1 ⟨H1, I1, e1, q1⟩ => ?_)
 cases c with
 | true => exact thn (hb wh pins s1 σ H1 W ρ Q I1 (rr.same e1) q1) fun _ _ ⟨H2, I2, e2, q2⟩ => ⟨H2, I2, e1.trans e2, q2⟩
 | false => exact ⟨H1, I1, e1, q1⟩
theorem o7 (ha : PTD X a tA) (hb : PWD X (.BoolOp .Or (b :: rest) pos) tB') : PWD X (.BoolOp .Or (a :: b :: rest) pos) (dOr tA tB') := by
 intro wh pins s σ H W ρ Q I rr h
 refine isTrue_or (thn (ha pins s σ H W ρ _ I rr h) fun c s1 ⟨H1, I1, e1, q1⟩ => ?_)
 cases c with
 | true => exact ⟨H1, I1, e1, q1⟩
 | false => exact thn (hb wh pins s1 σ H1 W ρ Q I1 (rr.same e1) q1) fun _ _ ⟨H2, I2, e2, q2⟩ => ⟨H2, I2, e1.trans e2, q2⟩
theorem l8 (ha : PTD X a tA) : PTD X (.UnaryOp .Not a pos) (xm tA) := by
 intro pins s σ H W ρ Q I rr h
 exact isTrue_not (ha pins s σ H W ρ (fun c => Q (!c)) I rr h)
def ud (ta tb : DE) : DE := fun ρ Q => ta ρ fun x => ∃ c, x = .bl c /\ if c = true then tb ρ Q else Q (.bl false)
def uj (ta : DE) : DE := fun ρ Q => ta ρ fun x => ∃ c, x = .bl c /\ Q (.bl (!c))
theorem lW {op} {t : DE} (h : PED X a t) : PED X (.BoolOp op [a] pos) t := fun pins s σ H W ρ Q I rr hw => BoolOp_one (h pins s σ H W ρ Q I rr hw)
theorem iD (ha : PED X a ta) (hb : PED X (.BoolOp .And (b :: rest) pos) tb) : PED X (.BoolOp .And (a :: b :: rest) pos) (ud ta tb) := by
 intro pins s σ H W ρ Q I rr h
 refine BoolOp_and (thn (ha pins s σ H W ρ _ I rr h) fun vv s1 ⟨v, H1, x, I1, rv, e1, hx, c, ec, q1⟩ => ?_)
 subst ec
 have hz := hx.bl_
 subst hz
 cases rv
 refine wpAny_truthy_bool ?_
 cases c with
 | true => exact thn (hb pins s1 σ H1 W ρ Q I1 (rr.same e1) q1) fun _ _ z => z.up e1
 | false => exact ⟨.bl false, H1, _, I1, rfl, e1, Den.bl _, q1⟩
theorem Ah (ha : PED X a ta) : PED X (.UnaryOp .Not a pos) (uj ta) := by
 intro pins s σ H W ρ Q I rr h
 refine UnaryOp_ (thn (ha pins s σ H W ρ _ I rr h) fun vv s1 ⟨v, H1, x, I1, rv, e1, hx, c, ec, q1⟩ => ?_)
 subst ec
 have hz := hx.bl_
 subst hz
 cases rv
 exact not_of (wpAny_truthy_bool ⟨.bl (!c), H1, _, I1, rfl, e1, Den.bl _, q1⟩)
def dIf (t : DT) (ta tb : DE) : DE := fun ρ Q => t ρ fun c => if c = true then ta ρ Q else tb ρ Q
theorem lA (hc : PTD X c tA) (ha : PED X a ta) (hb : PED X b tb) : PED X (.IfExp c a b pos) (dIf tA ta tb) := by
 intro pins s σ H W ρ Q I rr h
 refine wpAny_IfExp (thn (hc pins s σ H W ρ _ I rr h) fun d s1 ⟨H1, I1, e1, q1⟩ => ?_)
 cases d with
 | true => exact thn (ha pins s1 σ H1 W ρ Q I1 (rr.same e1) q1) fun _ _ z => z.up e1
 | false => exact thn (hb pins s1 σ H1 W ρ Q I1 (rr.same e1) q1) fun _ _ z => z.up e1
def qU : RD2 := fun x y Q => ∃ ds i d, (x = .tup ds ∨ ∃ t, x = .lst t ds) /\ y = .int i /\ atI ds i = some d /\ Q d
theorem pO {K : PySem.W.Frag} {P : Bool -> Addr -> Prop} {H : Hp} {ds : List D} {vs : List V} {i : Int} {d : D} (h : af K P H ds vs) (e : atI ds i = some d) : ∃ v, atI vs i = some v /\ Den K P H d v := by
 unfold atI at e ⊢
 rw [h.len]
 cases q : ixN ds.length i with
 | none => rw [q] at e; cases e
 | some j =>
  rw [q] at e
  exact h.get e
theorem au (ha : PED X a ta) (hb : PED X b tb) (hs : yQ b := by intro _ _; rfl) : PED X (.Subscript a b pos) (dOp qU ta tb) := by
 intro pins s σ H W ρ Q I rr h
 refine Subscript_ (uc ha hb I rr h fun vv uu s2 v u x y H2 I2 e rv ru hx hy q => ?_)
 obtain ⟨ds, i, d, ex, ey, ei, q⟩ := q
 subst ey
 have hu := hy.int_
 subst hu
 have fin : ∀ (v' : V), Den X.K W.bad H2 d v' -> aj H2 H2 /\ ∃ d', Den X.K W.bad H2 d' v' /\ Q d' := fun v' hd => ⟨aj.refl _, d, hd, q⟩
 rcases ex with ex | ⟨tg, ex⟩
 ·subst ex
  obtain ⟨p, vs, ev, hq, hd⟩ := hx.tup_
  subst ev
  obtain ⟨v', e1, e2⟩ := pO hd ei
  exact thn (Aw a b pins s2 σ H2 _ _ vv uu (fun v' H' => aj H2 H' /\ ∃ d', Den X.K W.bad H' d' v' /\ Q d') I2 rv ru ⟨p, vs, i, v', rfl, rfl, hq, e1, fin v' e2⟩ (hs _ _))
   fun _ s3 ⟨w', H3, I3, r3, e3, d', hd', q'⟩ => ⟨w', H3, d', I3, r3, e.trans e3, hd', q'⟩
 ·subst ex
  obtain ⟨p, vs, ev, _, hq, hd⟩ := hx.lst_
  subst ev
  obtain ⟨v', e1, e2⟩ := pO hd ei
  exact thn (zc a b pins s2 σ H2 _ _ vv uu (fun v' H' => aj H2 H' /\ ∃ d', Den X.K W.bad H' d' v' /\ Q d') I2 rv ru ⟨p, vs, i, v', rfl, rfl, hq, e1, fin v' e2⟩ (hs _ _))
   fun _ s3 ⟨w', H3, I3, r3, e3, d', hd', q'⟩ => ⟨w', H3, d', I3, r3, e.trans e3, hd', q'⟩
end
section
variable {X : Cx} {e : Expr} {es : List Expr} {te : DE} {t : DA} {pos : Pos}
def pY : DA := fun _ Q => Q []
def kr (ta : DE) (tr : DA) : DA := fun ρ Q => ta ρ fun x => tr ρ fun xs => Q (x :: xs)
theorem ag : PAD X [] pY := fun _ _ _ _ H W ρ Q I _ h => Calls.spliced_nil ⟨[], H, [], I, .nil, aj.refl H, af.nil, h⟩
theorem aa (ha : PED X e te) (hr : PAD X es t) (hs : starEach (e :: es) X.env = (false, eval e X.env) :: starEach es X.env := by rfl) : PAD X (e :: es) (kr te t) := by
 intro pos pins s σ H W ρ Q I rr h
 rw [hs]
 show wpAny _ _ (spliced ((false, eval e X.env) :: backTo pos (starEach es X.env))) _ _ s
 refine Calls.spliced_cons (thn (ha pins s σ H W ρ _ I rr h) fun u s1 ⟨v, H1, x, I1, r1, e1, hx, q1⟩ => ?_)
 exact thn (hr pos pins s1 σ H1 W ρ _ I1 (rr.same e1) q1) fun us s2 ⟨vs, H2, xs, I2, r2, e2, hxs, q2⟩ => ⟨v :: vs, H2, x :: xs, I2, .cons r1 r2, e1.trans e2, af.cons (hx.same e2) hxs, q2⟩
theorem aj.upd {H : Hp} {p : Addr} {o : HO} (h : H p = none) (n : NT o := by exact True.intro) : aj H (upd H p o) := ⟨fun b u e _ => by rw [ay (bK e h)]; exact e, fun b ps e => ⟨#[], by rw [ay (bK e h), e]; simp⟩, c9.upd n (.inl h)⟩
def uv (t : DA) : DE := fun ρ Q => t ρ fun ds => ds.length <= sizeLine /\ Q (.tup ds)
def uh (t : DA) : DE := fun ρ Q => t ρ fun ds => ds.length <= sizeLine /\ Q (.lst true ds)
theorem aK {x1} (h : PAD X es t) : PED X (.Tuple es x1 pos) (uv t) := by
 intro pins s σ H W ρ Q I rr hq
 refine wpAny_Tuple_spliced (thn (h pos pins s σ H W ρ _ I rr hq) fun us s1 ⟨vs, H1, ds, I1, r, e1, hd, z, q⟩ => ?_)
 rw [<- hd.len] at z
 refine ⟨by rw [<- r.length]; exact z, ?_⟩
 have hf : H1 s1.heap.objs.size = none := I1.hok.fresh (zAE _)
 refine ⟨.ref s1.heap.objs.size, L2.upd H1 s1.heap.objs.size (.tup vs), _, I1.laid (t' := s1.toks) (fun b u e => zAB _ e) (zAE _) ⟨z, us, r, ⟨_, zAL _ rfl, rfl, _, rfl⟩⟩, rfl, e1.trans (aj.upd hf), Den.tup (SqT.of aC) (hd.same (aj.upd hf)), q⟩
theorem Inv.kfresh {pins : List (Addr × Obj)} {σ : St} {H : Hp} {s : Shared} (I : Inv X pins σ H s) : X.K.lookup s.heap.objs.size = none := by
 cases e : X.K.lookup s.heap.objs.size with
 | none => rfl
 | some o => exact absurd (zAJ (I.kIn _ _ e)) (zBG _)
theorem dG (h : PAD X es t) : PED X (.List es pos) (uh t) := by
 intro pins s σ H W ρ Q I rr hq
 refine wpAny_List_spliced (thn (h pos pins s σ H W ρ _ I rr hq) fun us s1 ⟨vs, H1, ds, I1, r, e1, hd, z, q⟩ => ?_)
 rw [<- hd.len] at z
 refine ⟨by rw [<- r.length]; exact z, ?_⟩
 have hf : H1 s1.heap.objs.size = none := I1.hok.fresh (zAE _)
 exact ⟨.ref s1.heap.objs.size, L2.upd H1 s1.heap.objs.size (.lst vs), _, I1.laid (t' := s1.toks) (fun b u e => zAB _ e) (zAE _) ⟨z, us, 0, r, zAL _ rfl⟩, rfl, e1.trans (aj.upd hf),
  Den.lst ((rr.same e1).fresh hf) (.new aC (Inv.kfresh I1)) (hd.same (aj.upd hf)), q⟩
end
abbrev DSp := List D -> (D -> Prop) -> (Value -> Prop) -> Prop
def aE (K : PySem.W.Frag) (sp : DSp) : Sp := fun vs H Q E => ∃ (P : Addr -> Prop) (ds : List D) (Qd : D -> Prop) (Ed : Value -> Prop), gZ K H /\ (∀ a, P a -> ∃ o, H a = some o) /\ af K (fun t a => t = true ∨ P a) H ds vs /\ sp ds Qd Ed ∧
 (∀ d v H', aj H H' -> Den K (fun t a => P a ∨ (t = true /\ ∃ o, H a = some o)) H' d v -> Qd d -> Q v H') /\ ∀ c a H', aj H H' -> Ed c -> E c a H'
mutual
def aI : D -> D
 | .tup ds => .tup (aV ds)
 | .lst _ ds => .lst false (aV ds)
 | .non => .non | .bl b => .bl b | .int i => .int i | .str x => .str x | .exc c => .exc c
def aV : List D -> List D
 | [] => []
 | d :: ds => aI d :: aV ds
end
section
variable {K : PySem.W.Frag} {P : Bool -> Addr -> Prop} {P' : Addr -> Prop} {H : Hp}
mutual
theorem Den.aI (h : ∀ t a, P' a -> P t a) : ∀ (d : D) (v : V), Den K P H d v -> Den K (fun t a => t = true ∨ P' a) H (PD.aI d) v
 | .non, _, q => by simpa only [Den, PD.aI] using q
 | .bl _, _, q => by simpa only [Den, PD.aI] using q
 | .int _, _, q => by simpa only [Den, PD.aI] using q
 | .str _, _, q => by simpa only [Den, PD.aI] using q
 | .exc _, _, q => by simpa only [Den, PD.aI] using q
 | .tup ds, _, q => by
  simp only [Den, PD.aI] at q ⊢
  obtain ⟨a, vs, e, q1, q2⟩ := q
  exact ⟨a, vs, e, q1, af.aI h ds vs q2⟩
 | .lst t ds, _, q => by
  simp only [Den, PD.aI] at q ⊢
  obtain ⟨a, vs, e, p, q1, q2⟩ := q
  exact ⟨a, vs, e, fun z => z.elim (fun z => by cases z) fun z => p (h t a z), .any q1.1, af.aI h ds vs q2⟩
theorem af.aI (h : ∀ t a, P' a -> P t a) : ∀ (ds : List D) (vs : List V), af K P H ds vs -> af K (fun t a => t = true ∨ P' a) H (PD.aV ds) vs
 | [], _, q => by simpa only [af, PD.aV] using q
 | d :: ds, _, q => by
  simp only [af, PD.aV] at q ⊢
  obtain ⟨v, r, e, h1, h2⟩ := q
  exact ⟨v, r, e, Den.aI h d v h1, af.aI h ds r h2⟩
end
end
theorem Den.back {K : PySem.W.Frag} {W : Own} {H H' : Hp} {d : D} {v : V} (tr : ∀ t a, W.bad t a -> ∃ o, H a = some o) (h : Den K (fun t a => W.bad false a ∨ (t = true /\ ∃ o, H a = some o)) H' d v) : Den K W.bad H' d v :=
 h.fewer fun t a z => by
  cases t with
  | false => exact .inl z
  | true => exact .inr ⟨rfl, tr true a z⟩
section
variable {X : Cx} {CX : CXT} {k : Nat} {f : Addr} {fd : FuncData} {ps : List Str} {sp : DSp} {x : Str} {p pos : Pos} {e : Expr} {es : List Expr} {t : DA}
def lU (sp : DSp) (dds : List D) (t : DA) : DE := fun ρ Q => t ρ fun ds => sp (aV ds ++ dds) Q fun _ => False
def xx : D -> V
 | .non => .non | .bl b => .bl b | .int i => .int i | .str x => .str x | _ => .non
def u5 : D -> Prop
 | .tup _ => False | .lst _ _ => False | .exc _ => False | _ => True
theorem af.rn {K : PySem.W.Frag} {P : Bool -> Addr -> Prop} {H : Hp} : ∀ {dds : List D}, (∀ d ∈ dds, u5 d) -> af K P H dds (dds.map xx)
 | [], _ => af.nil
 | d :: r, h => by
  refine af.cons ?_ (af.rn fun x hx => h x (zAI _ hx))
  have := h d zAK
  cases d with
  | non => exact Den.non
  | bl b => exact Den.bl b
  | int i => exact Den.int i
  | str x => exact Den.str x
  | tup _ => exact this.elim
  | lst _ _ => exact this.elim
  | exc _ => exact this.elim
theorem Bz {dds : List D} {dsv : List Value} (F : aD X.prog X.w X.K X.mg X.base CX k f fd ps (aE X.K sp)) (hr : bE k X.A) (hb : Binds X.K fd ps dsv) (hd : Vals (dds.map xx) dsv) (hs : ∀ d ∈ dds, u5 d) (hx : Passes CX X E0)
  {pins : List (Addr × Obj)} {σ : St} {H : Hp} {s : Shared} {W : Own} {ρ : Ro} {us : List Value} {vs : List V} {ds : List D} {Q : D -> Prop} (I : Inv X pins σ H s) (rr : Rel X W H σ ρ) (r : Vals vs us) (hds : af X.K W.bad H ds vs)
  (q : sp (aV ds ++ dds) Q fun _ => False) : wpAny (model X.prog X.w) X.A (call (.ref f) us) (DP X pins σ W H Q) X.xe s := by
 refine thn (AZ (Q := fun v H' => aj H H' /\ ∃ d, Den X.K W.bad H' d v /\ Q d) F hr hb hd hx I r ⟨W.bad false, aV ds ++ dds, Q, fun _ => False, rr.tab, rr.tracked false, (af.aI (fun _ _ => Own.bad_up) ds vs hds).append (af.rn hs), q, fun d v H' e h1 h2 => ⟨e, d, Den.back rr.tracked h1, h2⟩, fun _ _ _ _ z => z.elim⟩)
  fun u s2 ⟨v, H2, I2, r2, e2, d, h1, h2⟩ => ⟨v, H2, d, I2, r2, e2, h1, h2⟩
theorem p8 {dds : List D} {dsv : List Value} (F : aD X.prog X.w X.K X.mg X.base CX k f fd ps (aE X.K sp)) (hr : bE k X.A) (hg : Gl X x) (hm : X.mg x = some (.ref f)) (hk : PySem.W.keepIn X.K (.ref f) = true) (hb : Binds X.K fd ps dsv) (hd : Vals (dds.map xx) dsv) (hs : ∀ d ∈ dds, u5 d) (hx : Passes CX X E0)
  (ha : PAD X (e :: es) t) (hdb : (x == ("__debug__" : Str)) = false := by decide) (he : starEach (e :: es) X.env = (false, eval e X.env) :: starEach es X.env := by rfl) (hpl : (backTo pos (starEach es X.env)).any (·.1) = false := by rfl) :
  PED X (.Call (.Name x p) (e :: es) [] pos) (lU sp dds t) := by
 intro pins s σ H W ρ Q I rr h
 refine wpAny_Call_Name_kw (zf I hg hm ?_ hdb)
 refine PySem.W.callWith_K (h₀ := X.base) I.ok.mod.kin hk (thn (ha pos pins s σ H W ρ _ I rr h) fun us s1 ⟨vs, H1, ds, I1, r, e1, hds, q⟩ => ⟨I1.kIn, ?_⟩) he hpl
 exact thn (Bz F hr hb hd hs hx I1 (rr.same e1) r hds q) fun _ _ z => z.up e1
def dCB (r : List D -> (D -> Prop) -> Prop) (t : DA) : DE := fun ρ Q => t ρ fun ds => r ds Q
def cF (X : Cx) (f : Value) (r : List D -> (D -> Prop) -> Prop) : Prop :=
 ∀ (pins : List (Addr × Obj)) (s : Shared) (σ : St) (H : Hp) (W : Own) (ds : List D) (vs : List V) (us : List Value) (Q : D -> Prop), Inv X pins σ H s -> (∀ t a, W.bad t a -> ∃ o, H a = some o) -> Vals vs us -> af X.K W.bad H ds vs -> r ds Q →
  wpAny (model X.prog X.w) X.A (call f us) (DP X pins σ W H Q) X.xe s
theorem cF.of {f : Value} {r : List V -> Hp -> VK -> Prop} {rd : List D -> (D -> Prop) -> Prop} (h : iV X f r) (k : ∀ P H ds vs Q, (∀ t a, P t a -> ∃ o, H a = some o) -> af X.K P H ds vs -> rd ds Q -> r vs H fun v' H' => aj H H' /\ ∃ d', Den X.K P H' d' v' /\ Q d') : cF X f rd := by
 intro pins s σ H W ds vs us Q I tr r hd q
 exact thn (h pins s σ H vs us _ I r (k _ H ds vs Q tr hd q)) fun _ s2 ⟨w', H2, I2, r2, e2, d, hd, q2⟩ => ⟨w', H2, d, I2, r2, e2, hd, q2⟩
variable {id T : String} {r : List D -> (D -> Prop) -> Prop}
theorem bo (hc : cF X (.builtin id) r) (hg : Gl X x) (hm : X.mg x = none) (hv : bootBuiltins x = some (.builtin id)) (ha : PAD X (e :: es) t) (hn : x ≠ "__name__" := by decide) (hdb : (x == ("__debug__" : Str)) = false := by decide)
  (hst : starEach (e :: es) X.env = (false, eval e X.env) :: starEach es X.env := by rfl) (hpl : (backTo pos (starEach es X.env)).any (·.1) = false := by rfl) :
  PED X (.Call (.Name x p) (e :: es) [] pos) (dCB r t) := by
 intro pins s σ H W ρ Q I rr h
 refine wpAny_Call_Name_kw (dJ I hg hm hv ?_ hn hdb)
 exact PyProof.Rows.callWith_builtin1 (thn (ha pos pins s σ H W ρ _ I rr h) fun us s1 ⟨vs, H1, ds, I1, rv, e1, hd, q⟩ => thn (hc pins s1 σ H1 W ds vs us Q I1 (rr.same e1).tracked rv hd q) fun _ _ z => z.up e1) hst hpl
end
end PD
namespace PD
open PySem PySem.Spec PyProof.Rows L2 PX
mutual
def pyD : D -> PyData
 | .non => .none
 | .bl b => .bool b
 | .int i => .int i
 | .str x => .str x
 | .tup ds => .tuple (bP ds)
 | .lst _ ds => .list (bP ds)
 | .exc _ => .none
def bP : List D -> List PyData
 | [] => []
 | d :: ds => pyD d :: bP ds
end
mutual
def plD : D -> Bool
 | .tup ds => j4 ds
 | .lst _ ds => j4 ds
 | .exc _ => false
 | _ => true
def j4 : List D -> Bool
 | [] => true
 | d :: ds => plD d && j4 ds
end
def eqD (x y : D) : Bool := PyData.eqv (pyD x) (pyD y)
def okD (x : D) : Prop := plD x = true /\ SeqAt.shaped (pyD x) = true
section
variable {X : Cx} {pins : List (Addr × Obj)} {σ : St} {H : Hp} {s : Shared} {P : Bool -> Addr -> Prop}
mutual
theorem cH (I : Inv X pins σ H s) : ∀ (d : D) (v : V) (u : Value), Den X.K P H d v -> RelV v u -> plD d = true -> ∃ as, Reads s.heap u (pyD d) as
 | .non, _, _, h, r, _ => by have e := h.non_; subst e; cases r; rw [pyD]; exact ⟨_, .none⟩
 | .bl b, _, _, h, r, _ => by have e := h.bl_; subst e; cases r; rw [pyD]; exact ⟨_, .bool b⟩
 | .int i, _, _, h, r, _ => by have e := h.int_; subst e; obtain ⟨t, rfl⟩ := r; rw [pyD]; exact ⟨_, .int i t⟩
 | .str x, _, _, h, r, _ => by have e := h.str_; subst e; obtain ⟨t, rfl⟩ := r; rw [pyD]; exact ⟨_, .str x t⟩
 | .tup ds, _, _, h, r, pl => by
  rw [plD] at pl
  obtain ⟨a, vs, e, hq, hd⟩ := h.tup_
  subst e
  cases r
  obtain ⟨its, rv, ⟨o, h1, h2, n, h3⟩, _⟩ := I.tuple hq
  obtain ⟨as, q⟩ := iZ I ds vs its hd rv pl
  rw [pyD]
  exact ⟨as, reads_tuple_at h1 h2 h3 (by simpa using q)⟩
 | .lst _ ds, _, _, h, r, pl => by
  rw [plD] at pl
  obtain ⟨a, vs, e, _, hq, hd⟩ := h.lst_
  subst e
  cases r
  obtain ⟨its, rv, ⟨o, n, h1, h2, _, h3⟩, _⟩ := I.list hq
  obtain ⟨as, q⟩ := iZ I ds vs its hd rv pl
  rw [pyD]
  exact ⟨_, reads_list_at h1 h2 h3 (by simpa using q)⟩
 | .exc _, _, _, _, _, pl => by rw [plD] at pl; cases pl
theorem iZ (I : Inv X pins σ H s) : ∀ (ds : List D) (vs : List V) (us : List Value), af X.K P H ds vs -> Vals vs us -> j4 ds = true -> ∃ as, ReadsAll s.heap us (bP ds) as
 | [], _, _, h, r, _ => by simp only [af] at h; subst h; cases r; rw [bP]; exact ⟨_, .nil⟩
 | d :: ds, _, _, h, r, pl => by
  rw [j4, zAj] at pl
  simp only [af] at h
  obtain ⟨v, r', rfl, h1, h2⟩ := h
  cases r with
  | cons ra rb =>
   obtain ⟨as, q⟩ := cH I d v _ h1 ra pl.1
   obtain ⟨bs, q'⟩ := iZ I ds _ _ h2 rb pl.2
   rw [bP]
   exact ⟨_, .cons q q'⟩
end
def ya : RD2 := fun x y Q => okD x /\ okD y /\ Q (.bl (eqD x y))
def yb : RD2 := fun x y Q => okD x /\ okD y /\ Q (.bl (!eqD x y))
theorem yD (hu : X.A.units + 64 < cLine) : OpD X (compareOp .Eq) ya := by
 intro pins s σ H W x y v u vv uu Q I _ rv ru hx hy q
 obtain ⟨h1, h2, q⟩ := q
 obtain ⟨as, ra⟩ := cH I x v vv hx rv h1.1
 obtain ⟨bs, rb⟩ := cH I y u uu hy ru h2.1
 exact eq_dataH ra rb h1.2 h2.2 hu ⟨.bl _, H, _, I, rfl, aj.refl H, Den.bl _, q⟩
theorem o9 (hu : X.A.units + 64 < cLine) : OpD X (compareOp .NotEq) yb := by
 intro pins s σ H W x y v u vv uu Q I _ rv ru hx hy q
 obtain ⟨h1, h2, q⟩ := q
 obtain ⟨as, ra⟩ := cH I x v vv hx rv h1.1
 obtain ⟨bs, rb⟩ := cH I y u uu hy ru h2.1
 exact ne_dataH ra rb h1.2 h2.2 hu ⟨.bl _, H, _, I, rfl, aj.refl H, Den.bl _, q⟩
theorem cL : OpD X (compareOp .Eq) (hZ fun i j => .bl (decide (i = j))) := OpD.of Bm fun P H x y v u Q hx hy ⟨i, j, e1, e2, q⟩ => by
 subst e1 e2
 have a := hx.int_
 have b := hy.int_
 subst a b
 refine ⟨rfl, aj.refl H, _, Den.bl _, ?_⟩
 rw [show decide (V.int i = V.int j) = decide (i = j) from by rw [ku]; rfl]
 exact q
theorem qG : OpD X (compareOp .NotEq) (hZ fun i j => .bl (!decide (i = j))) := OpD.of Bq fun P H x y v u Q hx hy ⟨i, j, e1, e2, q⟩ => by
 subst e1 e2
 have a := hx.int_
 have b := hy.int_
 subst a b
 refine ⟨rfl, aj.refl H, _, Den.bl _, ?_⟩
 rw [show decide (V.int i = V.int j) = decide (i = j) from by rw [ku]; rfl]
 exact q
def jc : D -> Bool
 | .non => true
 | _ => false
theorem n8 {K : PySem.W.Frag} {d : D} {v : V} (h : Den K P H d v) : decide (v = .non) = jc d := by
 cases d with
 | non => have := h.non_; subst this; rfl
 | bl b => have := h.bl_; subst this; rfl
 | int b => have := h.int_; subst this; rfl
 | str b => have := h.str_; subst this; rfl
 | tup ds => obtain ⟨a, vs, e, _⟩ := h.tup_; subst e; rfl
 | lst _ ds => obtain ⟨a, vs, e, _⟩ := h.lst_; subst e; rfl
 | exc c => obtain ⟨a, e, _⟩ := h.exc_; subst e; rfl
theorem wF : OpD X (compareOp .Is) (fun x y Q => y = .non /\ Q (.bl (jc x))) := OpD.of AN fun P H x y v u Q hx hy ⟨e, q⟩ => by
 subst e
 refine ⟨hy.non_, aj.refl H, _, Den.bl _, ?_⟩
 rw [n8 hx]
 exact q
theorem zt : OpD X (compareOp .IsNot) (fun x y Q => y = .non /\ Q (.bl (!jc x))) := OpD.of zD fun P H x y v u Q hx hy ⟨e, q⟩ => by
 subst e
 refine ⟨hy.non_, aj.refl H, _, Den.bl _, ?_⟩
 rw [n8 hx]
 exact q
end
section
variable {X : Cx}
theorem vo : cF X (.builtin "abs") (fun ds Q => ∃ i : Int, ds = [.int i] /\ Q (.int (i.natAbs : Int))) := cF.of xb fun P H ds vs Q _ hd ⟨i, e, q⟩ => by
 subst e
 obtain ⟨v, r, rfl, h1, h2⟩ : ∃ v r, vs = v :: r /\ Den X.K P H (.int i) v /\ af X.K P H [] r := by simpa only [af] using hd
 have e1 := h1.int_
 have e2 : r = [] := by simpa only [af] using h2
 subst e1 e2
 refine ⟨i, rfl, aj.refl H, _, Den.int _, ?_⟩
 have : (if i < 0 then -i else i) = (i.natAbs : Int) := by split <;> omega
 rw [this]
 exact q
theorem uy {K : PySem.W.Frag} {P : Bool -> Addr -> Prop} {H : Hp} {x y : D} {vs : List V} (h : af K P H [x, y] vs) : ∃ v u, vs = [v, u] /\ Den K P H x v /\ Den K P H y u := by
 simp only [af] at h
 obtain ⟨v, r, e, h1, u, r', e', h2, e''⟩ := h
 subst e' e'' e
 exact ⟨v, u, rfl, h1, h2⟩
theorem kz {K : PySem.W.Frag} {P : Bool -> Addr -> Prop} {H : Hp} {x : D} {vs : List V} (h : af K P H [x] vs) : ∃ v, vs = [v] /\ Den K P H x v := by
 simp only [af] at h
 obtain ⟨v, r, e, h1, e'⟩ := h
 subst e' e
 exact ⟨v, rfl, h1⟩
theorem Ab (hc : X.calm = true) : cF X (.builtin "min") (fun ds Q => ∃ i j : Int, ds = [.int i, .int j] /\ Q (.int (min i j))) := cF.of (vm hc) fun P H ds vs Q _ hd ⟨i, j, e, q⟩ => by
 subst e
 obtain ⟨v, u, rfl, h1, h2⟩ := uy hd
 have e1 := h1.int_
 have e2 := h2.int_
 subst e1 e2
 refine ⟨i, j, rfl, aj.refl H, _, Den.int _, ?_⟩
 have : (if j < i then j else i) = min i j := by split <;> omega
 rw [this]
 exact q
theorem pS (hc : X.calm = true) : cF X (.builtin "max") (fun ds Q => ∃ i j : Int, ds = [.int i, .int j] /\ Q (.int (max i j))) := cF.of (vj hc) fun P H ds vs Q _ hd ⟨i, j, e, q⟩ => by
 subst e
 obtain ⟨v, u, rfl, h1, h2⟩ := uy hd
 have e1 := h1.int_
 have e2 := h2.int_
 subst e1 e2
 refine ⟨i, j, rfl, aj.refl H, _, Den.int _, ?_⟩
 have : (if j > i then j else i) = max i j := by split <;> omega
 rw [this]
 exact q
theorem jP : cF X (.builtin "len") (fun ds Q => ∃ xs, ((∃ t, ds = [.lst t xs]) ∨ ds = [.tup xs]) /\ Q (.int (xs.length : Int))) := cF.of pR fun P H ds vs Q _ hd ⟨xs, e, q⟩ => by
 rcases e with ⟨tg, e⟩ | e
 ·subst e
  obtain ⟨v, rfl, h1⟩ := kz hd
  obtain ⟨a, ws, e, _, hq, hw⟩ := h1.lst_
  subst e
  refine ⟨a, ws, rfl, .inl hq, aj.refl H, _, Den.int _, ?_⟩
  rw [hw.len]
  exact q
 ·subst e
  obtain ⟨v, rfl, h1⟩ := kz hd
  obtain ⟨a, ws, e, hq, hw⟩ := h1.tup_
  subst e
  refine ⟨a, ws, rfl, .inr hq, aj.refl H, _, Den.int _, ?_⟩
  rw [hw.len]
  exact q
def tyD : D -> String
 | .non => "NoneType" | .bl _ => "bool" | .int _ => "int" | .str _ => "str" | .tup _ => "tuple" | .lst _ _ => "list" | .exc _ => "object"
def tyV : D -> Value
 | .exc c => .ref c
 | d => .type (tyD d)
variable {e : Expr} {te : DE} {p p' pos : Pos} {T : String} {x : Str}
theorem xC {pins : List (Addr × Obj)} {σ : St} {H : Hp} {s : Shared} {P : Bool -> Addr -> Prop} {A : Around} {E : Value -> Shared -> Prop} {Q : Value -> Shared -> Prop} {c : Value} {b : Bool} {d : D} {v : V} {u : Value} (I : Inv X pins σ H s) (h : Den X.K P H d v) (r : RelV v u)
  (e : PySem.W.kitOne X.K (tyV d) c = some b) (q : ∀ tk, Q (.bool b) { s with toks := tk }) : wpAny (model X.prog X.w) A (call (.builtin "isinstance") [u, c]) Q E s := by
 cases d with
 | non => have z := h.non_; subst z; cases r; exact PySem.W.kia_one PySem.W.kitx_none I.kIn True.intro e (fun z => nomatch z) q
 | bl y => have z := h.bl_; subst z; cases r; exact PySem.W.kia_one PySem.W.kitx_bool I.kIn True.intro e (fun z => nomatch z) q
 | int i => have z := h.int_; subst z; obtain ⟨t, rfl⟩ := r; exact PySem.W.kia_one PySem.W.kitx_int I.kIn True.intro e (fun z => nomatch z) q
 | str y => have z := h.str_; subst z; obtain ⟨t, rfl⟩ := r; exact PySem.W.kia_one PySem.W.kitx_str I.kIn True.intro e (fun z => nomatch z) q
 | tup ds =>
  obtain ⟨a, vs, z, hq, _⟩ := h.tup_
  subst z
  cases r
  obtain ⟨its, rv, ⟨o, h1, h2, n, h3⟩, _⟩ := I.tuple hq
  exact PySem.W.kia_one PySem.W.kitx_tuple I.kIn ⟨o, h1, h2⟩ e (fun z => nomatch z) q
 | lst _ ds =>
  obtain ⟨a, vs, z, _, hq, _⟩ := h.lst_
  subst z
  cases r
  obtain ⟨its, rv, ⟨o, n, h1, h2, _, h3⟩, _⟩ := I.list hq
  exact PySem.W.kia_one PySem.W.kitx_list I.kIn ⟨o, h1, h2⟩ e (fun z => nomatch z) q
 | exc c' =>
  obtain ⟨a, z, hq, k⟩ := h.exc_
  subst z
  cases r
  exact PySem.W.kia_one (xG k) I.kIn (I.hok a _ hq).1 e (fun z => nomatch z) q
theorem rN (K : PySem.W.Frag) (S T : String) : PySem.W.kitOne K (.type S) (.type T) = if S = T then some true else if PySem.W.kitMeta T = true then (fastBuiltinMro S).map (·.contains (.type T)) else none := by
 unfold PySem.W.kitOne PySem.W.kitCls PySem.W.subIn
 by_cases h : S = T
 ·subst h; simp
 ·have : (Value.type S == Value.type T) = false := by
   rw [beq_eq_false_iff_ne]
   intro e
   injection e with e
   exact h e
  rw [this, if_neg zAQ, if_neg h]
def isT (T : String) (d : D) : Bool := tyD d == T || (tyD d == "bool" && T == "int")
theorem kit_ans (K : PySem.W.Frag) (d : D) (hk : ∀ c, d = .exc c -> gW K c) (hT : T = "int" ∨ T = "bool" ∨ T = "tuple" ∨ T = "list" ∨ T = "str") : PySem.W.kitOne K (tyV d) (.type T) = some (isT T d) := by
 by_cases hx : ∃ c, d = .exc c
 ·obtain ⟨c, rfl⟩ := hx
  show PySem.W.kitOne K (.ref c) (.type T) = _
  rw [(hk c rfl).not T hT]
  show _ = some ("object" == T || ("object" == "bool" && T == "int"))
  rcases hT with e | e | e | e | e <;> subst e <;> decide +kernel
 have hv : tyV d = .type (tyD d) := by cases d <;> first | rfl | exact absurd ⟨_, rfl⟩ hx
 rw [hv, rN]
 unfold isT
 have hS : tyD d = "NoneType" ∨ tyD d = "bool" ∨ tyD d = "int" ∨ tyD d = "str" ∨ tyD d = "tuple" ∨ tyD d = "list" := by cases d <;> first | exact absurd ⟨_, rfl⟩ hx | simp [tyD]
 generalize tyD d = S at hS ⊢
 rcases hT with e | e | e | e | e <;> subst e <;> rcases hS with e | e | e | e | e | e <;> subst e <;> decide +kernel
def dIs (T : String) (te : DE) : DE := fun ρ Q => te ρ fun d => Q (.bl (isT T d))
theorem jS (hg : Gl X "isinstance") (hm : X.mg "isinstance" = none) (hgT : Gl X x) (hmT : X.mg x = none) (hv : bootBuiltins x = some (.type T)) (hT : T = "int" ∨ T = "bool" ∨ T = "tuple" ∨ T = "list" ∨ T = "str") (he : PED X e te)
  (hn : x ≠ "__name__" := by decide) (hdb : (x == ("__debug__" : Str)) = false := by decide)
  (hst : starEach [e, .Name x p'] X.env = (false, eval e X.env) :: starEach [.Name x p'] X.env := by rfl) (hst2 : starEach [.Name x p'] X.env = (false, eval (.Name x p') X.env) :: starEach [] X.env := by rfl) (hst3 : (backTo pos (starEach [.Name x p'] X.env)).any (·.1) = false := by rfl) :
  PED X (.Call (.Name "isinstance" p) [e, .Name x p'] [] pos) (dIs T te) := by
 intro pins s σ H W ρ Q I rr h
 have hpa : PA X [e, .Name x p'] (va (yC X te) (va (tC (.ty T)) A6)) := iI he.pe (iI (zG hgT hmT hv rfl hn hdb) mJ hst2) hst
 refine wpAny_Call_Name_kw (dJ I hg hm boot_isinstance ?_ (by decide) (by decide))
 refine PyProof.Rows.callWith_builtin1 (thn (hpa pos pins s σ H (fun vs H1 => ∃ v d, vs = [v, .ty T] /\ aj H H1 /\ Den X.K W.bad H1 d v /\ Q (.bl (isT T d))) I ⟨W, ρ, _, rr, h, fun v H1 d e1 hd q1 => ⟨v, d, rfl, e1, hd, q1⟩⟩) fun us s1 ⟨vs, H1, I1, rv, v, d, ev, e1, hd, q1⟩ => ?_) hst hst3
 subst ev
 cases rv with
 | cons r1 rr =>
  cases rr with
  | cons r2 rr =>
   cases rr
   cases (show _ = Value.type T from r2)
   exact xC I1 hd r1 (kit_ans X.K d (fun c z => by subst z; exact hd.exc_.choose_spec.2.2) hT) fun tk => ⟨.bl _, H1, _, I1.tok tk, rfl, e1, Den.bl _, q1⟩
end
section
variable {X : Cx} {pos : Pos}
theorem SPD.up {pins : List (Addr × Obj)} {W0 W : Own} {H0 H : Hp} {E : fJ} {f : Flow} {s' : Shared} (g : Fwd W0 H0 W H) (h : SPD X pins W H E f s') : SPD X pins W0 H0 E f s' := by
 obtain ⟨W', σ', H', I, fw, q⟩ := h
 exact ⟨W', σ', H', I, g.trans fw, q⟩
variable {st : Stmt} {rest : List Stmt} {t u : DS} {e : Expr} {te : DE}
def ui : DS := fun E ρ => E.nx ρ
def uo (t u : DS) : DS := fun E ρ => t { E with nx := u E } ρ
theorem aM : b5 X [] ui := fun _ _ σ H W ρ E I r h => wpAny_execs_nil ⟨W, σ, H, I, Fwd.refl W H, ρ, r, h⟩
theorem ah (h1 : PSD X st t) (h2 : b5 X rest u) : b5 X (st :: rest) (uo t u) := by
 intro pins s σ H W ρ E I r h
 refine wpAny_execs_cons (thn (h1 pins s σ H W ρ { E with nx := u E } I r h) fun f s1 ⟨W', σ', H', I', fw, q⟩ => ?_)
 cases f with
 | next =>
  obtain ⟨ρ', r', q⟩ := q
  exact thn (h2 pins s1 σ' H' W' ρ' E I' r' q) fun _ _ z => z.up fw
 | ret v => exact ⟨W', σ', H', I', fw, q⟩
 | brk => exact ⟨W', σ', H', I', fw, q⟩
 | cont => exact ⟨W', σ', H', I', fw, q⟩
theorem ao (h1 : PSD X st t) : b5 X [st] t := by
 intro pins s σ H W ρ E I r h
 refine wpAny_execs_cons (thn (h1 pins s σ H W ρ E I r h) fun f s1 q => ?_)
 cases f with
 | next => exact wpAny_execs_nil q
 | ret v => exact q
 | brk => exact q
 | cont => exact q
def xo (te : DE) : DS := fun E ρ => te ρ E.rt
theorem aw (he : PED X e te) : PSD X (.Return (some e) pos) (xo te) := by
 intro pins s σ H W ρ E I r h
 exact wpAny_Return_some (thn (he pins s σ H W ρ _ I r h) fun u s1 ⟨v, H1, d, I1, r1, e1, hd, q1⟩ => ⟨W, σ, H1, I1, Fwd.same e1, v, d, r1, hd, q1⟩)
def xi (c : DT) (t u : DS) : DS := fun E ρ => c ρ fun b => if b = true then t E ρ else u E ρ
theorem aY {c : Expr} {a b : List Stmt} {tc : DT} (hc : PTD X c tc) (ha : b5 X a t) (hb : b5 X b u) : PSD X (.If c a b pos) (xi tc t u) := by
 intro pins s σ H W ρ E I r h
 refine wpAny_If (thn (hc pins s σ H W ρ _ I r h) fun d s1 ⟨H1, I1, e1, q1⟩ => ?_)
 cases d with
 | true => exact thn (ha pins s1 σ H1 W ρ E I1 (r.same e1) q1) fun _ _ z => z.up (Fwd.same e1)
 | false => exact thn (hb pins s1 σ H1 W ρ E I1 (r.same e1) q1) fun _ _ z => z.up (Fwd.same e1)
theorem Rel.put {X : Cx} {W : Own} {H : Hp} {σ : St} {ρ : Ro} {i : Nat} {d : D} {v : V} (r : Rel X W H σ ρ) (hi : i < σ.length) (hd : Den X.K W.bad H d v) : Rel X (W.drop i) H (σ.set i (some v)) (ρ.set i (some (.val d))) where
 val := fun j x h => by
  by_cases hj : j = i
  ·subst hj
   refine ⟨v, by simp [hi], ?_⟩
   by_cases hl : j < ρ.length
   ·rw [zAt hl] at h
    cases h
    exact hd.fewer fun _ _ => Own.drop_bad
   ·rw [List.getElem?_eq_none (by simpa using hl)] at h
    cases h
  ·rw [zAe (Ne.symm hj)] at h
   obtain ⟨w, h1, h2⟩ := r.val j x h
   exact ⟨w, by rw [zAe (Ne.symm hj)]; exact h1, h2.fewer fun _ _ => Own.drop_bad⟩
 own := fun j x h => by
  by_cases hj : j = i
  ·subst hj
   by_cases hl : j < ρ.length
   ·rw [zAt hl] at h; cases h
   ·rw [List.getElem?_eq_none (by simpa using hl)] at h; cases h
  ·rw [zAe (Ne.symm hj)] at h
   obtain ⟨a, vs, h1, h2, h3, h4⟩ := r.own j x h
   exact ⟨a, vs, by show (if j = i then none else W.O j) = _; rw [if_neg hj]; exact h1, by rw [zAe (Ne.symm hj)]; exact h2, h3, by rw [List.length_set]; exact h4.fewer (fun _ _ => Own.drop_bad) (Own.drop_sub hi)⟩
 inj := fun j k a h1 h2 => by
  have h1' : (if j = i then none else W.O j) = some a := h1
  have h2' : (if k = i then none else W.O k) = some a := h2
  by_cases e1 : j = i
  ·rw [if_pos e1] at h1'; cases h1'
  ·by_cases e2 : k = i
   ·rw [if_pos e2] at h2'; cases h2'
   ·rw [if_neg e1] at h1'
    rw [if_neg e2] at h2'
    exact r.inj j k a h1' h2'
 kn := fun j a h1 => by
  have h1' : (if j = i then none else W.O j) = some a := h1
  by_cases e1 : j = i
  ·rw [if_pos e1] at h1'; cases h1'
  ·rw [if_neg e1] at h1'
   exact r.kn j a h1'
 ke := fun j a h1 => by
  have h1' : (if j = i then none else W.O j) = some a := h1
  by_cases e1 : j = i
  ·rw [if_pos e1] at h1'; cases h1'
  ·rw [if_neg e1] at h1'
   exact r.ke j a h1'
 bt := r.bt
 st := r.st
 ent := r.ent
 tab := r.tab
theorem Fwd.drop (W : Own) (H : Hp) (i : Nat) : Fwd W H (W.drop i) H := ⟨rfl, rfl, fun _ _ _ h _ => h, fun j a h => by
 have h' : (if j = i then none else W.O j) = some a := h
 by_cases e1 : j = i
 ·rw [if_pos e1] at h'; cases h'
 ·rw [if_neg e1] at h'; exact .inl ⟨j, h'⟩, fun _ ps h => ⟨#[], by rw [h]; simp⟩, id⟩
theorem Inv.ilt {pins : List (Addr × Obj)} {σ : St} {H : Hp} {s : Shared} {i : Nat} {x : Str} (I : Inv X pins σ H s) (hi : X.N[i]? = some x) : i < σ.length := by
 rw [I.len]
 exact (zAF.mp hi).1
def uq (i : Nat) (te : DE) : DS := fun E ρ => te ρ fun d => E.nx (ρ.set i (some (.val d)))
theorem aB {x : Str} {pos' : Pos} (i : Nat) (hN : X.N.Nodup) (he : PED X e te) (hi : X.N[i]? = some x := by rfl) (hx : Loc X.env.scope x := by first | exact Or.inl rfl | exact Or.inr rfl) (hs : swapsWith e (some (.Name x pos')) pos.line X.env = pure false := by rfl)
  (hf : X.fn x = true ∨ X.env.scope.names.lookup x = some .local := by first | exact .inl rfl | exact .inr rfl | assumption) : PSD X (.Assign [.Name x pos'] e pos) (uq i te) := by
 intro pins s σ H W ρ E I r h
 refine wpAny_Assign_Name (thn (he pins s σ H W ρ _ I r h) fun u s1 ⟨v, H1, d, I1, r1, e1, hd, q1⟩ => ?_) hs
 exact gG I1 hN hi hx r1 (fun s2 I2 => ⟨W.drop i, _, H1, I2, (Fwd.same e1).trans (Fwd.drop W H1 i), _, (r.same e1).put (Inv.ilt I1 hi) hd, q1⟩) hf
theorem PSD.of {ts : TS} {t : DS} (h : PS X st ts) (k : ∀ σ H W ρ E, Rel X W H σ ρ -> σ.length = X.N.length -> t E ρ -> ts ⟨(fun σ' H' => ∃ W' ρ', Fwd W H W' H' /\ Rel X W' H' σ' ρ' /\ E.nx ρ'), (fun v H' => ∃ W' d, Fwd W H W' H' /\ Den X.K W'.bad H' d v /\ E.rt d),
   (fun σ' H' => ∃ W' ρ', Fwd W H W' H' /\ Rel X W' H' σ' ρ' /\ E.bk ρ'), (fun σ' H' => ∃ W' ρ', Fwd W H W' H' /\ Rel X W' H' σ' ρ' /\ E.ct ρ')⟩ σ H) : PSD X st t := by
 intro pins s σ H W ρ E I r ht
 refine thn (h pins s σ H _ I (k σ H W ρ E r I.len ht)) fun f s1 q => ?_
 cases f with
 | next => obtain ⟨σ', H', I', W', ρ', fw, r', q⟩ := q; exact ⟨W', σ', H', I', fw, ρ', r', q⟩
 | brk => obtain ⟨σ', H', I', W', ρ', fw, r', q⟩ := q; exact ⟨W', σ', H', I', fw, ρ', r', q⟩
 | cont => obtain ⟨σ', H', I', W', ρ', fw, r', q⟩ := q; exact ⟨W', σ', H', I', fw, ρ', r', q⟩
 | ret u => obtain ⟨v, σ', H', I', rv, W', d, fw, hd, q⟩ := q; exact ⟨W', σ', H', I', fw, v, d, rv, hd, q⟩
def Ag (c : DT) (tb : DS) : DS := fun E ρ => ∃ W : Nat -> Ro -> Prop, (∃ m, W m ρ) /\ ∀ m ρ, W m ρ -> c ρ fun b => if b = true then tb { E with nx := fun ρ' => ∃ m', m' < m /\ W m' ρ', ct := fun ρ' => ∃ m', m' < m /\ W m' ρ', bk := E.nx } ρ else E.nx ρ
theorem xv {c : Expr} {body : List Stmt} {tc : DT} {tb : DS} (hp : PassesOwn (model X.prog X.w) X.A X.env X.xe) (hc : PTD X c tc) (hb : b5 X body tb) : PSD X (.While c body [] pos) (Ag tc tb) := by
 intro pins s σ H W ρ E I r h
 obtain ⟨Wd, ⟨m0, w0⟩, turn⟩ := h
 refine wpAny_While (codeAny_whileLoop (fun n s' => ∃ W' σ' H' ρ', Inv X pins σ' H' s' /\ Fwd W H W' H' /\ Rel X W' H' σ' ρ' /\ Wd n ρ') ?_ m0 ⟨W, σ, H, ρ, I, Fwd.refl W H, r, w0⟩)
 rintro n s1 ⟨W1, σ1, H1, ρ1, I1, fw1, r1, w1⟩
 refine wpAny_passesOwn hp (thn (hc pins s1 σ1 H1 W1 ρ1 _ I1 r1 (turn n ρ1 w1)) fun b s2 ⟨H2, I2, e2, q2⟩ => ?_)
 have fw2 := fw1.trans (Fwd.same (W := W1) e2)
 cases b with
 | true =>
  rw [if_pos rfl] at q2
  rw [if_pos rfl]
  refine wpAny_passesOwn hp (thn (hb pins s2 σ1 H2 W1 ρ1 _ I2 (r1.same e2) q2) fun f s3 q3 => ?_)
  obtain ⟨W3, σ3, H3, I3, fw3, q3⟩ := q3
  cases f with
  | next =>
   obtain ⟨ρ3, r3, m', hm, w3⟩ := q3
   exact ⟨m', hm, W3, σ3, H3, ρ3, I3, fw2.trans fw3, r3, w3⟩
  | cont =>
   obtain ⟨ρ3, r3, m', hm, w3⟩ := q3
   exact ⟨m', hm, W3, σ3, H3, ρ3, I3, fw2.trans fw3, r3, w3⟩
  | brk => exact ⟨W3, σ3, H3, I3, fw2.trans fw3, q3⟩
  | ret v => exact ⟨W3, σ3, H3, I3, fw2.trans fw3, q3⟩
 | false =>
  rw [if_neg zAQ] at q2
  rw [if_neg zAQ]
  exact wpAny_execs_nil ⟨W1, σ1, H2, I2, fw2, ρ1, r1.same e2, q2⟩
end
section
variable {X : Cx} {pos : Pos}
theorem As {X : Cx} {W W' : Own} {H H' : Hp} {σ : St} {ρ : Ro} (r : Rel X W H σ ρ) (f : Fwd W H W' H') (a : Addr) (φ : Heap -> Prop) (q : H a = some (.ext φ)) : H' a = some (.ext φ) :=
 f.keep a _ (fun i z => by obtain ⟨_, _, o, q', m⟩ := r.kn i a z; rw [q] at q'; cases q'; exact m) q
theorem Ar {X : Cx} {W W' : Own} {H H' : Hp} {σ : St} {ρ : Ro} (r : Rel X W H σ ρ) (f : Fwd W H W' H') (a : Addr) (vs : List V) (q : SqT X.K H a vs) : SqT X.K H' a vs := by
 have noT : ∀ a xs, (H a = some (.tup xs) ∨ ∃ o, H a = some (.frz o (.tup xs))) -> ∀ i, W.O i ≠ some a := fun a xs z i e => by
  obtain ⟨_, _, o', q, m⟩ := r.kn i a e
  rcases z with z | ⟨o, z⟩
  ·rw [q] at z; cases z; exact m
  ·rw [q] at z; cases z; exact m
 rcases q with q | q
 ·rcases q with q' | ⟨o, q'⟩
  ·exact .inl (.inl (f.keep a _ (noT a vs (.inl q')) q'))
  ·exact .inl (.inr ⟨o, f.keep a _ (noT a vs (.inr ⟨o, q'⟩)) q'⟩)
 ·exact .inr q
theorem Aq {X : Cx} {W W' : Own} {H H' : Hp} {σ' : St} {ρ' : Ro} (r' : Rel X W' H' σ' ρ') (f : Fwd W H W' H') (t : Bool) (a : Addr) (vs : List V) (p : ¬ W.bad t a) (q : SqG X.K H t a vs) : ¬ W'.bad t a /\ SqG X.K H' t a vs := by
 have no : ∀ i, W.O i ≠ some a := fun i e => p (.inr (.inl ⟨i, e⟩))
 refine ⟨fun b => ?_, ?_, fun z => ⟨f.keep a _ no (q.2 z).1, (q.2 z).2⟩⟩
 ·rcases b with b | ⟨i, b⟩ | ⟨e, b⟩
  ·rw [f.B] at b; exact p (.inl b)
  ·rcases f.new i a b with ⟨j, z⟩ | z
   ·exact no j z
   ·rcases q.1 with (q | ⟨o, q⟩) | ⟨o, its, n, q, _⟩
    ·rw [z] at q; cases q
    ·rw [z] at q; cases q
    ·rw [(r'.kn i a b).1] at q; cases q
  ·rw [f.S] at b; exact p (.inr (.inr ⟨e, b⟩))
 ·rcases q.1 with (q | ⟨o, q⟩) | q
  ·exact .inl (.inl (f.keep a _ no q))
  ·exact .inl (.inr ⟨o, f.keep a _ no q⟩)
  ·exact .inr q
theorem Den.fwd {X : Cx} {W W' : Own} {H H' : Hp} {σ σ' : St} {ρ ρ' : Ro} {d : D} {v : V} (r : Rel X W H σ ρ) (r' : Rel X W' H' σ' ρ') (f : Fwd W H W' H') (h : Den X.K W.bad H d v) : Den X.K W'.bad H' d v :=
 Den.map (Ar r f) (Aq r' f) (As r f) d v h
abbrev DG := D -> Ro -> (Ro -> Prop) -> Prop
def PGD (X : Cx) (target : Expr) (g : DG) : Prop :=
 ∀ (pins : List (Addr × Obj)) (s : Shared) (σ : St) (H : Hp) (W : Own) (ρ : Ro) (d : D) (v : V) (u : Value) (Q : Ro -> Prop), Inv X pins σ H s -> Rel X W H σ ρ -> RelV v u -> Den X.K W.bad H d v -> g d ρ Q →
  wpAny (model X.prog X.w) X.A (assign target X.env u) (fun _ s' => ∃ W' σ' H' ρ', Inv X pins σ' H' s' /\ Fwd W H W' H' /\ Rel X W' H' σ' ρ' /\ Q ρ') X.xe s
abbrev DGs := List D -> Ro -> (Ro -> Prop) -> Prop
def pG (X : Cx) (ts : List Expr) (t : DGs) : Prop :=
 ∀ (pins : List (Addr × Obj)) (s : Shared) (σ : St) (H : Hp) (W : Own) (ρ : Ro) (ds : List D) (vs : List V) (us : List Value) (Q : Ro -> Prop), Inv X pins σ H s -> Rel X W H σ ρ -> Vals vs us -> af X.K W.bad H ds vs -> t ds ρ Q →
  wpAny (model X.prog X.w) X.A (assignInOrder ((assignEach ts X.env).map (·.2)) us) (fun _ s' => ∃ W' σ' H' ρ', Inv X pins σ' H' s' /\ Fwd W H W' H' /\ Rel X W' H' σ' ρ' /\ Q ρ') X.xe s
theorem af.fwd {X : Cx} {W W' : Own} {H H' : Hp} {σ σ' : St} {ρ ρ' : Ro} (r : Rel X W H σ ρ) (r' : Rel X W' H' σ' ρ') (f : Fwd W H W' H') : ∀ {ds : List D} {vs : List V}, af X.K W.bad H ds vs -> af X.K W'.bad H' ds vs
 | [], _, h => by simpa only [af] using h
 | d :: ds, _, h => by
  simp only [af] at h ⊢
  obtain ⟨v, q, e, h1, h2⟩ := h
  exact ⟨v, q, e, Den.fwd r r' f h1, af.fwd r r' f h2⟩
def jX (i : Nat) : DG := fun d ρ Q => Q (ρ.set i (some (.val d)))
theorem aJ {x : Str} (i : Nat) (hN : X.N.Nodup) (hi : X.N[i]? = some x := by rfl) (hx : Loc X.env.scope x := by first | exact Or.inl rfl | exact Or.inr rfl)
  (hf : X.fn x = true ∨ X.env.scope.names.lookup x = some .local := by first | exact .inl rfl | exact .inr rfl | assumption) : PGD X (.Name x pos) (jX i) := by
 intro pins s σ H W ρ d v u Q I r rv hd h
 exact wpAny_assign_Name (gG I hN hi hx rv (fun s' I' => ⟨W.drop i, _, H, _, I', Fwd.drop W H i, r.put (Inv.ilt I hi) hd, h⟩) hf)
def i8 : DGs := fun ds ρ Q => ds = [] /\ Q ρ
def bA (g : DG) (u : DGs) : DGs := fun ds ρ Q => ∃ d r, ds = d :: r /\ g d ρ fun ρ' => u r ρ' Q
theorem nF : pG X [] i8 := by
 intro pins s σ H W ρ ds vs us Q I r rv hd h
 obtain ⟨e, h⟩ := h
 subst e
 simp only [af] at hd
 subst hd
 cases rv
 exact assignInOrder_nil ⟨W, σ, H, ρ, I, Fwd.refl W H, r, h⟩
theorem bF {e : Expr} {es : List Expr} {g : DG} {u : DGs} (h1 : PGD X e g) (h2 : pG X es u) (hs : (assignEach (e :: es) X.env).map (·.2) = assign e X.env :: (assignEach es X.env).map (·.2) := by rfl) : pG X (e :: es) (bA g u) := by
 intro pins s σ H W ρ ds vs us Q I r rv hd h
 obtain ⟨d, dr, e1, h⟩ := h
 subst e1
 simp only [af] at hd
 obtain ⟨v, vr, e2, hd1, hd2⟩ := hd
 subst e2
 cases rv with
 | cons ra rb =>
  rw [hs]
  refine assignInOrder_cons (thn (h1 pins s σ H W ρ d v _ _ I r ra hd1 h) fun _ s1 ⟨W1, σ1, H1, ρ1, I1, f1, r1, q1⟩ => ?_)
  exact thn (h2 pins s1 σ1 H1 W1 ρ1 dr vr _ Q I1 r1 rb (af.fwd r r1 f1 hd2) q1) fun _ s2 ⟨W2, σ2, H2, ρ2, I2, f2, r2, q2⟩ => ⟨W2, σ2, H2, ρ2, I2, f1.trans f2, r2, q2⟩
theorem qv {h h' : Heap} {it l : Addr} {items : Array Value} (hl : h.IsList l items) (hs : Heap.SameBut it h h') (hne : l ≠ it) : h'.IsList l items := by
 obtain ⟨o, ho, r⟩ := hl
 exact ⟨o, (hs.2 l hne).trans ho, r⟩
theorem og {prog : Program} {w : World} {A : Around} {E : Value -> Shared -> Prop} {it l : Addr} {items : Array Value} (hne : l ≠ it) : ∀ (n i : Nat) (s : Shared) (Q : List Value -> Shared -> Prop), s.heap.IsListIter it l i -> s.heap.IsList l items -> i + n <= items.size →
  (∀ h', h'.IsListIter it l (i + n) -> Heap.SameBut it s.heap h' -> Q ((items.toList.drop i).take n) { s with heap := h' }) -> wpAny (model prog w) A (draw (.ref it) n) Q E s
 | 0, i, s, Q, hit, _, _, hQ => by
  show wpAny _ _ (pure []) Q E s
  exact wpAny_pure (by simpa using hQ s.heap hit (Heap.SameBut.refl ..))
 | n + 1, i, s, Q, hit, hl, hle, hQ => by
  have hlt : i < items.size := by omega
  show wpAny _ _ (pyNext (.ref it) >>= _) Q E s
  refine wpAny_bind (wpAny_pyNext_list_item hit hl (x := items[i]) (by simp [hlt]) fun h₁ hit₁ hs₁ => ?_)
  refine wpAny_bind (wpAny_holding (og hne n (i + 1) _ _ hit₁ (qv hl hs₁ hne) (by omega) fun h₂ hit₂ hs₂ => wpAny_pure ?_))
  have hd : items.toList.drop i = items[i] :: items.toList.drop (i + 1) := by simp [zBi, hlt]
  have := hQ h₂ (by rw [show i + (n + 1) = i + 1 + n by omega]; exact hit₂) (hs₁.trans hs₂)
  rw [hd, List.take_succ_cons] at this
  exact this
theorem lK {prog : Program} {w : World} {A : Around} {E : Value -> Shared -> Prop} {s : Shared} {l : Addr} {items : Array Value} {Q : List Value -> Shared -> Prop} (hh : A.handled = none) (hl : s.heap.IsList l items)
  (hQ : ∀ h', Heap.ExtBut s.heap.objs.size s.heap h' -> Q items.toList { s with heap := h' }) : wpAny (model prog w) A (unpackItems (.ref l) items.size none) Q E s := by
 have hlt : l ≠ s.heap.objs.size := by obtain ⟨o, ho, _⟩ := hl; exact zAk (zAJ ho)
 unfold unpackItems
 refine wpAny_bind ?_
 ·unfold notIterableAtAll
  refine wpAny_bind (wpAny_specialOf hl.typeIs F.slot_list_iter.lookup ?_)
  refine wpAny_pure ?_
  simp only [zAY, if_false]
  refine wpAny_bind (wpAny_holding (wpAny_pyIter_list hl ?_))
  have hl0 : (s.heap.push { cls := .type "list_iterator", data := .fields #[.ref l, rawInt 0] }).IsList l items := by
   obtain ⟨o, ho, r⟩ := hl
   exact ⟨o, zAB _ ho, r⟩
  refine wpAny_bind (wpAny_holding (og hlt items.size 0 _ _ ⟨_, zAL _ rfl, rfl, rfl⟩ hl0 (by omega) fun h₁ hit₁ hs₁ => ?_))
  have hall : List.take items.size (List.drop 0 items.toList) = items.toList := by
   rw [List.drop_zero]; exact zAh (by simp)
  rw [hall]
  rw [if_neg (by simp)]
  have hl₁ : h₁.IsList l items := qv hl0 hs₁ hlt
  refine wpAny_bind (wpAny_holding (wpAny_pyNext_list_end hh hit₁ hl₁ (by simp) fun h₂ he₂ => ?_))
  simp only [Option.isSome_none, zAY, if_false]
  refine wpAny_pure (hQ h₂ fun b o hb e => he₂ b o hb (hs₁.extBut b o hb (zAB _ e)))
def fM (n : Nat) (t : DGs) : DG := fun d ρ Q => ∃ ds, (d = .tup ds ∨ ∃ t, d = .lst t ds) /\ ds.length = n /\ t ds ρ Q
theorem qu {es : List Expr} {k : Nat} {t : DGs} {n : Nat} (hc : X.calm = true) (h : pG X es t) (hn : (assignEach es X.env).length = n := by rfl) (hst : (assignEach es X.env).findIdx? (·.1) = none := by rfl) : PGD X (.Tuple es k pos) (fM n t) := by
 intro pins s σ H W ρ d v u Q I r rv hd hw
 obtain ⟨ds, ed, hl, hw⟩ := hw
 rcases ed with ed | ⟨tg, ed⟩
 ·subst ed
  obtain ⟨a, vs, e1, hq, hds⟩ := hd.tup_
  subst e1
  cases rv
  obtain ⟨its, rvs, ht, hz⟩ := I.tuple hq
  refine assign_Tuple_tuple (I.ok.hd hc) ht (by simp [hn, <- hl, <- rvs.length, hds.len]) hst fun h' hx => ?_
  have I1 : Inv X pins σ H { s with heap := h' } := I.kept (t' := s.toks) fun b o e => hx b o (zAk (zAJ e)) e
  exact h pins _ σ H W ρ ds vs _ Q I1 r (by simpa using rvs) hds hw
 ·subst ed
  obtain ⟨a, vs, e1, _, hq, hds⟩ := hd.lst_
  subst e1
  cases rv
  obtain ⟨its, rvs, ht, hz⟩ := I.list hq
  rw [assign_Tuple]
  refine wpAny_bind (wpAny_standAt ?_)
  unfold unpack
  rw [hst, show (assignEach es X.env).length = its.toArray.size by simp [hn, <- hl, <- rvs.length, hds.len]]
  refine wpAny_bind (wpAny_holding (lK (I.ok.hd hc) ht.isList fun h' hx => ?_))
  have I1 : Inv X pins σ H { s with heap := h' } := I.kept (t' := s.toks) fun b o e => hx b o (zAk (zAJ e)) e
  exact h pins _ σ H W ρ ds vs _ Q I1 r (by simpa using rvs) hds hw
def xg (te : DE) (g : DG) : DS := fun E ρ => te ρ fun d => g d ρ E.nx
theorem vG {tg e : Expr} {te : DE} {g : DG} (he : PED X e te) (hg : PGD X tg g) (hs : swapsWithSole [tg] e pos.line X.env = pure false := by rfl) (hw : swappedStores [tg] e X.env = pure none := by rfl)
  (h1 : (assignEach [tg] X.env).map (·.2) = [assign tg X.env] := by rfl) : PSD X (.Assign [tg] e pos) (xg te g) := by
 intro pins s σ H W ρ E I r h
 refine wpAny_Assign_stores (thn (he pins s σ H W ρ _ I r h) fun u s1 ⟨v, H1, d, I1, r1, e1, hd, q1⟩ => ?_) hs hw
 rw [h1]
 exact thn (hg pins s1 σ H1 W ρ d v u _ I1 (r.same e1) r1 hd q1) fun _ s2 ⟨W2, σ2, H2, ρ2, I2, f2, r2, q2⟩ => ⟨W2, σ2, H2, I2, (Fwd.same e1).trans f2, ρ2, r2, q2⟩
def YD (K : PySem.W.Frag) (W : Own) (H : Hp) (J : It) (ds : List D) : Prop := ∀ (P' : Bool -> Addr -> Prop) (H' : Hp), (∀ a vs, SqT K H a vs -> SqT K H' a vs) -> (∀ t a vs, ¬ W.bad t a -> SqG K H t a vs -> ¬ P' t a /\ SqG K H' t a vs) -> (∀ a φ, H a = some (.ext φ) -> H' a = some (.ext φ)) -> ∀ i, (i < ds.length -> J.go i H') /\ (∀ x H3, J.yld i H' x H3 -> i < ds.length -> aj H' H3 /\ ∃ d, ds[i]? = some d /\ Den K P' H3 d x) /\ (ds.length <= i -> J.stop i H')
def PID (X : Cx) (tg iter : Expr) (wi : DA) : Prop :=
 ∀ (pins : List (Addr × Obj)) (s : Shared) (σ : St) (H : Hp) (W : Own) (ρ : Ro) (R : List D -> Prop), Inv X pins σ H s -> Rel X W H σ ρ -> wi ρ R →
  wpAny (model X.prog X.w) X.A (eval iter X.env) (fun v s1 => wpAny (model X.prog X.w) X.A (pyIter v) (fun itv s2 => ∃ (it : Addr) (fp : List Addr) (tn : Nat -> Heap -> Prop) (J : It) (H' : Hp) (ds : List D), itv = .ref it /\ Inv X pins σ H' s2 /\ aj H H' ∧
   Turn X.prog X.w X.K tg J fp it tn /\ tn 0 s2.heap /\ (∀ b ∈ fp, dF X pins H' b) /\ YD X.K W H' J ds /\ R ds) X.xe s1) X.xe s
theorem PID.of {tg iter : Expr} {wi : TI} {wd : DA} (h : PI X tg iter wi) (k : ∀ σ H W ρ R, Rel X W H σ ρ -> wd ρ R -> wi σ H fun J H' => aj H H' /\ ∃ ds, YD X.K W H' J ds /\ R ds) : PID X tg iter wd := by
 intro pins s σ H W ρ R I r hw
 refine thn (h pins s σ H _ I (k σ H W ρ R r hw)) fun v s1 h1 => thn h1 fun itv s2 h2 => ?_
 obtain ⟨it, fp, tn, J, H', e, I2, T, st, f2, e2, ds, y, q⟩ := h2
 exact ⟨it, fp, tn, J, H', ds, e, I2, e2, T, st, f2, y, q⟩
def o5 (ti : DE) : DA := fun ρ R => ti ρ fun d => ∃ t ds, d = .lst t ds /\ R ds
theorem aX {tg iter : Expr} {ti : DE} (h : PED X iter ti) : PID X tg iter (o5 ti) := by
 refine PID.of (zI h.pe) fun σ H W ρ R r hw => ⟨W, ρ, _, r, hw, fun v H1 d e1 hd q => ?_⟩
 obtain ⟨tg', ds, rfl, q⟩ := q
 obtain ⟨a, vs, rfl, na, hq, hds⟩ := hd.lstG_
 refine ⟨a, rfl, ⟨vs, hq.1⟩, e1, ds, ?_, q⟩
 intro P' H' hT hL hX i
 have hq' : SqL X.K H' a vs := (hL _ a vs na hq).2.1
 have hl := hds.len
 refine ⟨fun hi => ?_, fun x H3 y hi => ?_, fun hi => ⟨vs, hq', by omega⟩⟩
 ·obtain ⟨v, hv, _⟩ := hds.get (i := i) (d := ds[i]) (by simp [hi])
  exact ⟨vs, v, hq', hv⟩
 ·obtain ⟨e3, y⟩ := y
  subst e3
  obtain ⟨d, h1, h2⟩ := hds.bG (y vs hq')
  exact ⟨aj.refl _, d, h1, Den.map hT hL hX d _ h2⟩
def gh (lo step : Int) (n : Nat) : List D := (List.range n).map fun (i : Nat) => D.int (lo + i * step)
theorem yh (lo step : Int) (n : Nat) : (gh lo step n).length = n := by simp [gh]
theorem yf {lo step : Int} {n i : Nat} (h : i < n) : (gh lo step n)[i]? = some (D.int (lo + i * step)) := by simp [gh, h]
def z9 (lo c : Int) (n : Nat) : It := ⟨fun i _ => i < n, fun i H x H' => H' = H /\ x = .int (lo + i * c), fun i _ => n <= i⟩
theorem yu (K : PySem.W.Frag) (W : Own) (H : Hp) (lo c : Int) (n : Nat) : YD K W H (z9 lo c n) (gh lo c n) := fun P' H' _ _ _ i => by
 rw [yh]
 refine ⟨fun h => h, fun x H3 y hi => ?_, fun h => h⟩
 obtain ⟨e, ex⟩ := y
 subst e ex
 exact ⟨aj.refl _, _, yf hi, Den.int _⟩
theorem sD {P : Program} {w : World} {K : PySem.W.Frag} {tg : Expr} (it : Addr) (lo c : Int) (n : Nat) : Turn P w K tg (z9 lo c n) [it] it (fun i h => IsRangeIter h it (lo + (i : Nat) * c) ((n : Int) - (i : Nat)) c) where
 mem := by simp
 obj := fun i h st b hb => by
  have e : b = it := by simpa using hb
  subst e
  exact ⟨_, st, fun v z => by
   have z' : Data.fields _ = Data.cell v := z
   cases z'⟩
 keep := fun i h h' st k => k it (by simp) _ st
 item := by
  intro X hP hw hK hc i pins s σ H E I hf st hg
  subst hP hw hK
  obtain ⟨f0, f1, f2, f3, f4, f5⟩ := hf it (by simp)
  have W := Walks.range (prog := X.prog) (w := X.w) (I.ok.hd hc) it lo c n
  refine W.item i s _ _ hg st fun v h' tk hv st' kk => ?_
  obtain ⟨t, rfl⟩ := hv
  have I1 : Inv X pins σ H { s with heap := h', toks := tk } := I.turned (fun b o hb e => kk b o (by simpa using hb) e) f0 f1 f3 f4 f5
  exact ⟨_, rfl, uI (s := { s with heap := h', toks := tk }) (n := "range_iterator") st' rfl rfl (by decide) ⟨.int (lo + i * c), H, I1, ⟨t, rfl⟩, ⟨rfl, rfl⟩, st', fun b hb => (hf b hb).1⟩⟩
 done := by
  intro X hP hw hK hc i pins s σ H E I hf st hg
  subst hP hw hK
  obtain ⟨f0, f1, f2, f3, f4, f5⟩ := hf it (by simp)
  exact wpAny_pyNext_range_end (I.ok.hd hc) st (by have : n <= i := hg; omega) fun h' eb => ⟨rfl, I.turned (t' := s.toks) (fun b o hb e => eb b o hb e) f0 f1 f3 f4 f5⟩
 self := fun _ _ _ _ _ st h => wpAny_pyIter_rangeiter st h
def gk (lo hi c : Int) : Nat := (Builtin.Range.rangeSize lo hi c).toNat
theorem wV {a b c : Int} (ha : -(2 ^ 40) <= a) (ha' : a < 2 ^ 40) (hb : -(2 ^ 40) <= b) (hb' : b < 2 ^ 40) (hc : 0 < c) (hc' : c < 2 ^ 20) : Builtin.Range.small a b c = true /\ 0 <= Builtin.Range.rangeSize a b c := by
 have hd : a < b -> 0 <= (b - a - 1) / c /\ (b - a - 1) / c <= b - a - 1 := fun h => ⟨Int.ediv_nonneg (by omega) (by omega), Int.ediv_le_self _ (by omega)⟩
 have hm : a < b -> (b - a - 1) / c * c <= b - a - 1 := fun h => Int.ediv_mul_le _ (by omega)
 unfold Builtin.Range.small Builtin.Range.rangeSize
 rw [if_pos (show c > 0 from hc)]
 by_cases h : a < b
 ·obtain ⟨h1, h2⟩ := hd h
  have h3 := hm h
  rw [if_pos h]
  generalize (b - a - 1) / c = q at h1 h2 h3 ⊢
  have h4 : 0 <= q * c := zA9 h1 (by omega)
  simp only [Builtin.Range.rangeFitsLong, zAj, Bool.or_eq_true, decide_eq_true_eq, beq_iff_eq]
  have e : (q + 1 - 1) * c = q * c := by rw [Int.add_sub_cancel]
  have e' : (q + 1) * c = q * c + c := by rw [Int.add_mul, Int.one_mul]
  constructor
  ·rw [if_pos (show c > 0 from hc)]
   simp only [zAj, decide_eq_true_eq]
   omega
  ·omega
 ·rw [if_neg h]
  simp only [Builtin.Range.rangeFitsLong, zAj, Bool.or_eq_true, decide_eq_true_eq, beq_iff_eq]
  constructor
  ·simp; omega
  ·exact Int.le_refl _
theorem oD {pins : List (Addr × Obj)} {σ : St} {H : Hp} {s : Shared} {W : Own} {R : List D -> Prop} {E : Value -> Shared -> Prop} {tg : Expr} {lo hi c : Int} {t u v : Tok} {tk : Nat} (I : Inv X pins σ H s) (h1 : -(2 ^ 40) <= lo) (h2 : lo < 2 ^ 40) (h3 : -(2 ^ 40) <= hi) (h4 : hi < 2 ^ 40) (h5 : 0 < c) (h6 : c < 2 ^ 20)
  (q : R (gh lo c (gk lo hi c))) : wpAny (model X.prog X.w) X.A (pyIter (.ref s.heap.objs.size)) (fun itv s2 => ∃ (it : Addr) (fp : List Addr) (tn : Nat -> Heap -> Prop) (J : It) (H' : Hp) (ds : List D), itv = .ref it /\ Inv X pins σ H' s2 /\ aj H H' ∧
   Turn X.prog X.w X.K tg J fp it tn /\ tn 0 s2.heap /\ (∀ b ∈ fp, dF X pins H' b) /\ YD X.K W H' J ds /\ R ds) E { s with heap := s.heap.push { cls := .type "range", data := .fields #[.int lo t, .int hi u, .int c v] }, toks := tk } := by
 obtain ⟨sm, nn⟩ := wV h1 h2 h3 h4 h5 h6
 refine wpAny_pyIter_range (IsRange.new ..) sm ?_
 have I1 : Inv X pins σ H { s with heap := s.heap.push { cls := .type "range", data := .fields #[.int lo t, .int hi u, .int c v] }, toks := tk } := I.kept fun b o e => zAB _ e
 refine ⟨(s.heap.push { cls := .type "range", data := .fields #[.int lo t, .int hi u, .int c v] }).objs.size, [(s.heap.push { cls := .type "range", data := .fields #[.int lo t, .int hi u, .int c v] }).objs.size], _, _, H, _, rfl,
  I1.kept (t' := tk) fun b o e => zAB _ e, aj.refl H, sD _ lo c (gk lo hi c), ?_, fun b hb => ?_, yu _ _ _ _ _ _, q⟩
 ·have e1 : lo + ((0 : Nat) : Int) * c = lo := by simp
  have e2 : ((gk lo hi c : Nat) : Int) - ((0 : Nat) : Int) = Builtin.Range.rangeSize lo hi c := by unfold gk; omega
  show IsRangeIter _ _ (lo + ((0 : Nat) : Int) * c) (((gk lo hi c : Nat) : Int) - ((0 : Nat) : Int)) c
  rw [e1, e2]
  exact zAL _ rfl
 ·have e : b = (s.heap.push { cls := .type "range", data := .fields #[.int lo t, .int hi u, .int c v] }).objs.size := by simpa using hb
  subst e
  exact I1.fpOk (zAE _) (I1.hok.fresh (zAE _))
def CR3 (i : Int) : Prop := -(2 ^ 40) <= i /\ i < 2 ^ 40
def o6 (ta : DA) : DA := fun ρ R => ta ρ fun ds => ∃ i j : Int, ds = [.int i, .int j] /\ CR3 i /\ CR3 j /\ R (gh i 1 (gk i j 1))
def um (ta : DA) : DA := fun ρ R => ta ρ fun ds => ∃ j : Int, ds = [.int j] /\ CR3 j /\ R (gh 0 1 (gk 0 j 1))
theorem vY {tg a b : Expr} {ta : DA} {p pos : Pos} (hg : Gl X "range") (hm : X.mg "range" = none) (ha : PAD X [a, b] ta) (hs : starEach [a, b] X.env = (false, eval a X.env) :: starEach [b] X.env := by rfl) (hs2 : (backTo pos (starEach [b] X.env)).any (·.1) = false := by rfl) :
  PID X tg (.Call (.Name "range" p) [a, b] [] pos) (o6 ta) := by
 intro pins s σ H W ρ R I r h
 refine Call_ (dJ I hg hm boot_range (PyProof.Rows.callWith_type1 (thn (ha pos pins s σ H W ρ _ I r h) fun us s1 ⟨vs, H1, ds, I1, r1, e1, hd, q1⟩ => ?_) hs hs2))
 obtain ⟨i, j, e, ⟨a1, a2⟩, ⟨b1, b2⟩, q⟩ := q1
 subst e
 obtain ⟨v1, u1, rfl, d1, d2⟩ := uy hd
 have z1 := d1.int_
 have z2 := d2.int_
 subst z1 z2
 cases r1 with
 | cons ra rr =>
  cases rr with
  | cons rb rr =>
   cases rr
   obtain ⟨t, rfl⟩ := ra
   obtain ⟨t', rfl⟩ := rb
   refine call_range_2 ?_
   exact thn (oD (W := W) (R := R) I1 a1 a2 b1 b2 (by decide) (by decide) q) fun itv s2 ⟨it, fp, tn, J, H', ds, x1, x2, x3, x4, x5, x6, x7, x8⟩ => ⟨it, fp, tn, J, H', ds, x1, x2, e1.trans x3, x4, x5, x6, x7, x8⟩
theorem gM {tg a : Expr} {ta : DA} {p pos : Pos} (hg : Gl X "range") (hm : X.mg "range" = none) (ha : PAD X [a] ta) (hs : starEach [a] X.env = (false, eval a X.env) :: starEach [] X.env := by rfl) (hs2 : (backTo pos (starEach [] X.env)).any (·.1) = false := by rfl) :
  PID X tg (.Call (.Name "range" p) [a] [] pos) (um ta) := by
 intro pins s σ H W ρ R I r h
 refine Call_ (dJ I hg hm boot_range (PyProof.Rows.callWith_type1 (thn (ha pos pins s σ H W ρ _ I r h) fun us s1 ⟨vs, H1, ds, I1, r1, e1, hd, q1⟩ => ?_) hs hs2))
 obtain ⟨j, e, ⟨b1, b2⟩, q⟩ := q1
 subst e
 obtain ⟨v1, rfl, d1⟩ := kz hd
 have z1 := d1.int_
 subst z1
 cases r1 with
 | cons ra rr =>
  cases rr
  obtain ⟨t, rfl⟩ := ra
  refine call_range_1 ?_
  exact thn (oD (W := W) (R := R) I1 (by decide) (by decide) b1 b2 (by decide) (by decide) q) fun itv s2 ⟨it, fp, tn, J, H', ds, x1, x2, x3, x4, x5, x6, x7, x8⟩ => ⟨it, fp, tn, J, H', ds, x1, x2, e1.trans x3, x4, x5, x6, x7, x8⟩
def ug (wi : DA) (g : DG) (tb : DS) : DS := fun E ρ => wi ρ fun ds => ∃ Pv : Nat -> Ro -> Prop, Pv 0 ρ ∧
 (∀ j x ρ', ds[j]? = some x -> Pv j ρ' -> g x ρ' fun ρ2 => tb { E with nx := Pv (j + 1), ct := Pv (j + 1), bk := E.nx } ρ2) /\ ∀ ρ', Pv ds.length ρ' -> E.nx ρ'
theorem bW {tg iter : Expr} {body : List Stmt} {wi : DA} {g : DG} {tb : DS} (hp : PassesOwn (model X.prog X.w) X.A X.env X.xe) (hc : X.calm = true) (hi : PID X tg iter wi) (hg : PGD X tg g) (hb : b5 X body tb)
  (hs : ∀ x, foldedSetIterable iter X.env x = pure x := by intro _; rfl) : PSD X (.For tg iter body [] pos) (ug wi g tb) := by
 intro pins s σ H W ρ E I r h
 refine wpAny_For (thn (hi pins s σ H W ρ _ I r h) fun v s1 h1 => thn h1 fun itv s2 h2 => ?_) hs
 obtain ⟨it, fp, tn, J, H2, ds, e, I2, e2, T, st2, f2, yd, Pv, p0, turn, pd⟩ := h2
 subst e
 have r2 := r.same e2
 have stat : ∀ {H' : Hp}, (∀ b ∈ fp, H' b = none) -> ∀ b ∈ fp, dF X pins H' b := fun hn b hb => ⟨hn b hb, (f2 b hb).2⟩
 refine codeAny_forLoop_any (fun n s' => ∃ i W' σ' H' ρ', n = ds.length - i /\ i <= ds.length /\ Inv X pins σ' H' s' /\ tn i s'.heap /\ (∀ b ∈ fp, H' b = none) /\ Fwd W H2 W' H' /\ Rel X W' H' σ' ρ' /\ Pv i ρ') ?_ ds.length ⟨0, W, σ, H2, ρ, by simp, zAi _, I2, st2, fun b hb => (f2 b hb).1, Fwd.refl W H2, r2, p0⟩
 rintro n s3 ⟨i, W3, σ3, H3, ρ3, en, hle, I3, st3, fr3, fw3, r3, p3⟩
 obtain ⟨yg, yy, ys⟩ := yd W3.bad H3 (Ar r2 fw3) (Aq r3 fw3) (As r2 fw3) i
 by_cases hlt : i < ds.length
 ·refine wpAny_passesOwn hp (thn (T.item X rfl rfl rfl hc i pins s3 σ3 H3 X.xe I3 (stat fr3) st3 (yg hlt)) fun rr s4 ⟨u, hr, h4⟩ => ?_)
  subst hr
  refine wpAny_passesOwn hp (thn h4 fun _ s5 ⟨x, H5, I5, r5, y5, st5, fr5⟩ => ?_)
  obtain ⟨e5, d, hd, hden⟩ := yy x H5 y5 hlt
  have I5' := I5.pinned (stat fr5) (T.obj _ _ st5)
  have rl5 := r3.same e5
  refine wpAny_passesOwn hp (thn (hg _ s5 σ3 H5 W3 ρ3 d x u _ I5' rl5 r5 hden (turn i d ρ3 hd p3)) fun _ s6 ⟨W6, σ6, H6, ρ6, I6, f6, r6, q6⟩ => ?_)
  refine wpAny_passesOwn hp (thn (hb _ s6 σ6 H6 W6 ρ6 _ I6 r6 q6) fun f s7 q7 => ?_)
  obtain ⟨W7, σ7, H7, I7, f7, q7⟩ := q7
  have fw7 : Fwd W H2 W7 H7 := fw3.trans ((Fwd.same e5).trans (f6.trans f7))
  have fw70 : Fwd W H W7 H7 := (Fwd.same e2).trans fw7
  have again : ∀ {ρ7 : Ro}, Rel X W7 H7 σ7 ρ7 -> Pv (i + 1) ρ7 -> ∃ m, m < n /\ ∃ i W' σ' H' ρ', m = ds.length - i /\ i <= ds.length /\ Inv X pins σ' H' s7 /\ tn i s7.heap /\ (∀ b ∈ fp, H' b = none) /\ Fwd W H2 W' H' /\ Rel X W' H' σ' ρ' /\ Pv i ρ' := fun {ρ7} r7 p7 => by
   refine ⟨ds.length - (i + 1), by omega, i + 1, W7, σ7, H7, ρ7, rfl, hlt, I7.unpinned, T.keep _ _ _ st5 fun b hb o e => (I7.pin (b, o) (zAm _ (zAm _ (fN hb e)))).1, fun b hb => ?_, fw7, r7, p7⟩
   obtain ⟨o, e, d⟩ := T.obj _ _ st5 b hb
   exact (I7.pin (b, o) (zAm _ (zAm _ (fN hb e)))).2.1
  cases f with
  | next => obtain ⟨ρ7, r7, n7⟩ := q7; exact again r7 n7
  | cont => obtain ⟨ρ7, r7, n7⟩ := q7; exact again r7 n7
  | brk => obtain ⟨ρ7, r7, q7⟩ := q7; exact ⟨W7, σ7, H7, I7.unpinned, fw70, ρ7, r7, q7⟩
  | ret v => obtain ⟨x7, d7, r7, h7, q7⟩ := q7; exact ⟨W7, σ7, H7, I7.unpinned, fw70, x7, d7, r7, h7, q7⟩
 ·have e : i = ds.length := by omega
  refine wpAny_passesOwn hp (thn (T.done X rfl rfl rfl hc i pins s3 σ3 H3 X.xe I3 (stat fr3) st3 (ys (by omega))) fun rr s4 ⟨hr, I4⟩ => ?_)
  subst hr
  subst e
  exact wpAny_execs_nil ⟨W3, σ3, H3, I4, (Fwd.same e2).trans fw3, ρ3, r3, pd ρ3 p3⟩
end
def aA (N : List Str) (ds : List D) : Ro := ds.map (fun d => some (.val d)) ++ List.replicate (N.length - ds.length) none
theorem Rel.start {X : Cx} {P : Addr -> Prop} {H : Hp} {N : List Str} {ds : List D} {vs : List V} (hP : ∀ a, P a -> ∃ o, H a = some o) (h : af X.K (fun t a => t = true ∨ P a) H ds vs) (hH : X.H₀ = H) (hT : gZ X.K H) : Rel X ⟨P, fun _ => none, fun a => ∃ o, H a = some o⟩ H (start N vs) (aA N ds) where
 val := fun i d e => by
  unfold aA at e
  have hl := h.len
  by_cases hi : i < ds.length
  ·rw [zAa (by simpa using hi), zAO] at e
   cases q : ds[i]? with
   | none => rw [q] at e; cases e
   | some d' =>
    rw [q] at e
    have e' : d' = d := by simpa using e
    subst e'
    obtain ⟨v, h1, h2⟩ := h.get q
    refine ⟨v, ?_, h2.fewer fun tg a z => ?_⟩
    ·unfold L2.start
     rw [zAa (by simpa [hl] using hi), zAO, h1]
     rfl
    ·rcases z with z | ⟨j, z⟩ | ⟨z, _⟩
     ·exact .inr z
     ·cases z
     ·exact .inl z
  ·rw [zAM (by simpa using hi), zBX] at e
   split at e <;> cases e
 own := fun i d e => by
  unfold aA at e
  by_cases hi : i < ds.length
  ·rw [zAa (by simpa using hi), zAO] at e
   cases q : ds[i]? with
   | none => rw [q] at e; cases e
   | some d' => rw [q] at e; cases e
  ·rw [zAM (by simpa using hi), zBX] at e
   split at e <;> cases e
 inj := fun i j a h _ => by cases h
 kn := fun i a h => by cases h
 ke := fun i a h => by cases h
 bt := hP
 st := fun _ z => z
 ent := by rw [hH]; exact aj.refl H
 tab := hT
end PD
namespace PD
open PySem PySem.Spec PyProof.Rows L2 PX
theorem aT.there {P : Program} {w : World} {H : Hp} {h : Heap} {a : Addr} {o : HO} (x : aT P w H h a o) : ∃ u, h.get? a = some u := by
 cases o with
 | lst xs => obtain ⟨_, _, _, _, e⟩ := x; exact ⟨_, e⟩
 | tup xs => obtain ⟨_, _, _, ob, e, _⟩ := x; exact ⟨ob, e⟩
 | dK kvs => obtain ⟨_, _, _, _, ob, _, _, e, _⟩ := x; exact ⟨ob, e⟩
 | dT kvs => obtain ⟨_, _, _, _, ob, _, _, e, _⟩ := x; exact ⟨ob, e⟩
 | set S n => obtain ⟨ob, _, _, _, e, _⟩ := x; exact ⟨ob, e⟩
 | ins C dx fs => obtain ⟨_, _, _, e, _⟩ := x; exact ⟨_, e⟩
 | own y => exact x
 | xd fs => obtain ⟨_, ⟨ob, _, _, e, _⟩, _⟩ := x; exact ⟨ob, e⟩
 | rng lo hi => obtain ⟨_, _, _, e⟩ := x; exact ⟨_, e⟩
 | frz ob u => obtain ⟨e, _⟩ := x; exact ⟨ob, e⟩
 | tbl ps => exact ⟨_, x⟩
 | met f y => exact ⟨_, x⟩
 | ext φ => obtain ⟨_, e, _⟩ := x; exact e
theorem HOk.keptT {P : Program} {w : World} {H : Hp} {h h' : Heap} (x : HOk P w H h) (k : ∀ b u, (∃ o, H b = some o) -> h.get? b = some u -> h'.get? b = some u) : HOk P w H h' := fun a o e =>
 (x a o e).stay (fun b u hb q => k b u (by
  rcases hb with z | z
  ·subst z; exact ⟨o, e⟩
  ·exact ⟨_, z⟩) q) (fun _ q => q) fun _ _ q => q
structure Fl (P : Program) (w : World) (l : List Env) (h₀ : Heap) (H₀ H : Hp) (B h : Heap) : Prop where
 un : Un (frs l) [] H₀ H h₀ h
 hok : HOk P w H h
 fr : ∀ b ∈ frs l, H₀ b = none /\ ∃ o, h₀.get? b = some o /\ ∀ vs, o.data ≠ .fields vs
 cov : ∀ b o, h.get? b = some o -> ((∃ u, H b = some u) ∨ ∃ o', h₀.get? b = some o') -> b ∉ frs l -> B.get? b = some o
section
variable {P : Program} {w : World} {l : List Env} {h₀ : Heap} {H₀ H : Hp} {B h h' : Heap}
theorem Fl.free (F : Fl P w l h₀ H₀ H B h) {b : Addr} (hb : b ∈ frs l) : H b = none := by
 obtain ⟨n, o, e, _⟩ := F.fr b hb
 exact F.un.free b o e n (by simp)
theorem Fl.step (F : Fl P w l h₀ H₀ H B h) (st : B.StaysIn h') (sl : h.UpToSlots h') : Fl P w l h₀ H₀ H B h' := by
 have fr1 : ∀ b o, b ∈ frs l -> h₀.get? b = some o -> ∃ s', h'.get? b = some { o with slots := s' } := fun b o hb e => by
  obtain ⟨n, o', e', hd⟩ := F.fr b hb
  rw [e] at e'
  cases e'
  obtain ⟨s1, e1⟩ := F.un.slot b o e n hb (by simp)
  obtain ⟨s2, e2⟩ := sl b _ e1 hd
  exact ⟨s2, e2⟩
 have kp : ∀ b o, h.get? b = some o -> ((∃ u, H b = some u) ∨ ∃ o', h₀.get? b = some o') -> b ∉ frs l -> h'.get? b = some o := fun b o e c n => st b o (F.cov b o e c n)
 refine ⟨⟨fun b o e n hb hx => kp b o (F.un.keep b o e n hb hx) (.inr ⟨o, e⟩) hb, fun b o e n hb hx => fr1 b o hb e, F.un.free, fun b o e hx => ?_, F.un.tups, F.un.frzs, F.un.tbls⟩, PD.HOk.keptT F.hok (fun b u hu e => kp b u e (.inl hu) fun z => ?_), F.fr, fun b o e c n => ?_⟩
 ·by_cases hb : b ∈ frs l
  ·obtain ⟨s2, e2⟩ := fr1 b o hb e
   exact ⟨_, e2⟩
  ·obtain ⟨o', e1⟩ := F.un.there b o e hx
   exact ⟨o', kp b o' e1 (.inr ⟨o, e⟩) hb⟩
 ·obtain ⟨o, q⟩ := hu
  rw [F.free z] at q
  cases q
 ·have : ∃ o1, h.get? b = some o1 := by
   rcases c with ⟨u, c⟩ | ⟨o', c⟩
   ·exact PD.aT.there (F.hok b u c)
   ·exact F.un.there b o' c (by simp)
  obtain ⟨o1, e1⟩ := this
  have q := kp b o1 e1 c n
  rw [e] at q
  cases q
  exact F.cov b o e1 c n
end
def CX1 (P : Program) (w : World) : CXT := fun outer H s E e s' => ∃ (ea c : Addr) (H' : Hp) (B : Heap) (a0 : Value), e = .ref ea /\ s'.os = s.os /\ AllBare s'.gens /\ Fl P w outer s.heap H H' B s'.heap /\ aj H H' /\ H' ea = none /\ s.heap.get? ea = none ∧
 Heap.FlyingW B outer ea (.ref c) a0 s'.heap /\ E (.ref c) none H'
theorem yG {P : Program} {w : World} {X : Cx} : Passes (CX1 P w) X E0 := fun _ _ _ _ _ _ _ h => by
 obtain ⟨_, _, _, _, _, _, _, _, _, _, _, _, _, z⟩ := h
 exact z.elim
def MadeX (X : Cx) (Ed : Value -> Prop) : Prop := ∀ (pins : List (Addr × Obj)) (σ : St) (H : Hp) (W : Own) (ρ : Ro) (s : Shared) (e c : Addr) (vs : List Value) (h' : Heap), Inv X pins σ H s -> Rel X W H σ ρ -> Heap.MadeExcOf s.heap h' e (.ref c) vs -> Ed (.ref c) -> X.xe (.ref e) { s with heap := h' }
def eO (X : Cx) (Ed : Value -> Prop) : Prop := ∀ (pins : List (Addr × Obj)) (σ : St) (H : Hp) (W : Own) (ρ : Ro) (s : Shared) (e : Value) (s' : Shared), Inv X pins σ H s -> Rel X W H σ ρ -> CX1 X.prog X.w X.stack H s (fun c _ _ => Ed c) e s' -> X.xe e s'
section
variable {P : Program} {w : World} {K : PySem.W.Frag} {mg : Str -> Option Value} {base : Heap} {N : List Str} {qual : Str} {sc : Scope} {f : Addr} {cd : Value} {A : Around} {outer : List Env} {s₀ : Shared} {H₀ : Hp} {E : XK}
theorem pU {pins : List (Addr × Obj)} {σ : St} {H : Hp} {s : Shared} {B h' : Heap} {e c : Addr} {a0 : Value} (I : Inv (cC (CX1 P w) P w K mg base N qual sc f cd A outer s₀ H₀ E) pins σ H s) (hS : aj H₀ H) (hn : H e = none) (hn0 : s₀.heap.get? e = none)
  (cov : ∀ b o, s.heap.get? b = some o -> ((∃ u, H b = some u) ∨ ∃ o', s₀.heap.get? b = some o') -> b ∉ frs (envOfC qual sc s₀.heap.objs.size f cd :: outer) -> B.get? b = some o)
  (fl : Heap.FlyingW B outer e (.ref c) a0 h') (sl : s.heap.UpToSlots h') (hE : E (.ref c) none H) : CX1 P w outer H₀ s₀ E (.ref e) { s with heap := h' } := by
 have nf : ∀ b, ((∃ u, H b = some u) ∨ ∃ o', s₀.heap.get? b = some o') -> b ∉ frs outer -> b ∉ frs (envOfC qual sc s₀.heap.objs.size f cd :: outer) := fun b c n z => by
  rcases c with ⟨u, c⟩ | ⟨o', c⟩
  ·have := I.stkFree b z
   rw [c] at this
   cases this
  ·rcases zAN.mp (I.stkSub b z) with q | q
   ·have h1 := zAJ c
    have h2 : s₀.heap.objs.size <= b := by rw [q]; exact I.ok.above
    exact absurd (zAS h1 h2) (zBG _)
   ·exact n q
 have F : Fl P w outer s₀.heap H₀ H B s.heap := ⟨I.base, I.hok, fun b hb => ⟨I.ok.frf b hb, by
  obtain ⟨_, o, e, d⟩ := I.ok.funs.mem hb
  exact ⟨o, e, d⟩⟩, fun b o e c n => cov b o e c (nf b c n)⟩
 exact ⟨e, c, H, B, a0, rfl, I.os, I.bare, F.step fl.1 sl, hS, hn, hn0, fl, hE⟩
theorem Bl {Ed : Value -> Prop} (hE : ∀ c a H', aj H₀ H' -> Ed c -> E c a H') : MadeX (cC (CX1 P w) P w K mg base N qual sc f cd A outer s₀ H₀ E) Ed := by
 intro pins σ H W ρ s e c vs h' I r hx hd
 show wpAny (model P w) (A.deeper (envOfC qual sc s₀.heap.objs.size f cd)) (leaving (envOfC qual sc s₀.heap.objs.size f cd) (.ref e)) _ _ _
 refine wpAny_leaves_madeW (base := PySem.W.hideAll s.heap (frs (envOfC qual sc s₀.heap.objs.size f cd :: outer))) (h := s.heap) (outer := outer) I.ok.frames rfl (fun b o q => PySem.W.of_hideAll _ q)
  (PySem.W.funFrames_hide I.stack fun env he b hb => zBu.mpr ⟨env, he, hb⟩) hx fun h'' t x1 _ _ x4 => ?_
 have ne : ∀ {h1 : Heap}, (∀ b o, h1.get? b = some o -> ∃ o', s.heap.get? b = some o') -> h1.get? e = none := fun {h1} k => by
  cases q : h1.get? e with
  | none => rfl
  | some o =>
   obtain ⟨o', q'⟩ := k e o q
   rw [hx.new] at q'
   cases q'
 refine pU (s := s) (h' := h'') I r.ent ?_ (ne fun b o q => I.base.there b o q (by intro z; cases z)) (fun b o q _ n => PySem.W.hideAll_get _ q n) x1 (fun b o q d => ?_) (hE _ _ _ r.ent hd)
 ·cases q : H e with
  | none => rfl
  | some u =>
   obtain ⟨o, z⟩ := PD.aT.there (I.hok e u q)
   rw [hx.new] at z
   cases z
 ·exact x4 b o (hx.keeps b o q) d
theorem zF {Ed : Value -> Prop} (hE : ∀ c a H', aj H₀ H' -> Ed c -> E c a H') : eO (cC (CX1 P w) P w K mg base N qual sc f cd A outer s₀ H₀ E) Ed := by
 intro pins σ H W ρ s e s' I r hx
 obtain ⟨ea, c, H', B, a0, rfl, os, bare, F, sm, hn, hn0, fl, hd⟩ := hx
 show wpAny (model P w) (A.deeper (envOfC qual sc s₀.heap.objs.size f cd)) (leaving (envOfC qual sc s₀.heap.objs.size f cd) (.ref ea)) _ _ _
 refine wpAny_leaves_onW (outer := outer) I.ok.frames rfl fl fun h'' x1 x2 => ?_
 have I' := I.call' os F.un F.hok bare (by intro b z; cases z)
 refine pU (s := s') (h' := h'') I' (r.ent.trans sm) hn ?_ (fun b o q z n => F.cov b o q (z.elim .inl fun ⟨o', z⟩ => .inr (I.base.there b o' z (by intro q; cases q))) n) x1 x2 (hE _ _ _ (r.ent.trans sm) hd)
 cases q : s₀.heap.get? ea with
 | none => rfl
 | some o =>
  obtain ⟨o', q'⟩ := I.base.there ea o q (by intro z; cases z)
  rw [hn0] at q'
  cases q'
end
section
variable {X : Cx} {k : Nat} {f : Addr} {fd : FuncData} {ps : List Str} {sp : DSp} {x : Str} {p pos : Pos} {e : Expr} {es : List Expr} {t : DA}
end
section
variable {X : Cx} {pos : Pos}
theorem qh {st : Stmt} : PSD X st (fun _ _ => False) := fun _ _ _ _ _ _ _ _ _ h => h.elim
theorem Rel.wish {W : Own} {H : Hp} {σ : St} {ρ : Ro} (r : Rel X W H σ ρ) (E : Value -> Shared -> Prop) : Rel (X.wish E) W H σ ρ := ⟨r.val, r.own, r.inj, r.kn, r.ke, r.bt, r.st, r.ent, r.tab⟩
theorem Rel.unwish {W : Own} {H : Hp} {σ : St} {ρ : Ro} {E : Value -> Shared -> Prop} (r : Rel (X.wish E) W H σ ρ) : Rel X W H σ ρ := ⟨r.val, r.own, r.inj, r.kn, r.ke, r.bt, r.st, r.ent, r.tab⟩
theorem SPD.unwish {pins : List (Addr × Obj)} {W : Own} {H : Hp} {E : fJ} {f : Flow} {s' : Shared} {XE : Value -> Shared -> Prop} (h : SPD (X.wish XE) pins W H E f s') : SPD X pins W H E f s' := by
 obtain ⟨W', σ', H', I, fw, q⟩ := h
 refine ⟨W', σ', H', I.unwish, fw, ?_⟩
 cases f with
 | next => obtain ⟨ρ', r, q⟩ := q; exact ⟨ρ', r.unwish, q⟩
 | brk => obtain ⟨ρ', r, q⟩ := q; exact ⟨ρ', r.unwish, q⟩
 | cont => obtain ⟨ρ', r, q⟩ := q; exact ⟨ρ', r.unwish, q⟩
 | ret u => exact q
theorem b5.nox {st : List Stmt} {t : DS} (h : b5 X.nox st t) : b5 X st t := fun pins s σ H W ρ E I r hw =>
 wpAny_mono (h pins s σ H W ρ E (I.wish _) (r.wish _) hw) (fun _ _ q => q.unwish) fun _ _ z => False.elim z
end
def tX (base : Heap) (l : List Env) (e : Addr) (cls a0 : Value) (h : Heap) : Prop := base.StaysIn h /\ base.get? e = none /\ h.FunFrames base l /\ ∃ fl, h.TracedAtW base e cls a0 fl
section
variable {M : Model} {A : Around} {E : Value -> Shared -> Prop} {s : Shared} {base : Heap} {l outer : List Env} {env : Env} {e L : Addr} {cls a0 : Value}
theorem zq {Q : Unit -> Shared -> Prop} (hfr : A.frames = some (env :: outer)) (hf : env.frame = some L) (R : tX base (env :: outer) e cls a0 s.heap)
  (h : ∀ h', tX base (env :: outer) e cls a0 h' -> s.heap.UpToSlots h' -> Q () { s with heap := h' }) : wpAny M A (noteFrame (.ref e) env) Q E s := by
 obtain ⟨k1, k2, k3, fl, oe, vs, T, oT, ts, g1, g2, g3, g4, g5, g6, g7, g8, g9⟩ := id R
 by_cases hfl : (fl == rawInt L) = true
 ·have efl : fl = rawInt L := by simpa using hfl
  subst efl
  exact wpAny_noteFrame_againW (base := base) (cls := cls) (a0 := a0) hf ⟨oe, vs, T, oT, ts, g1, g2, g3, g4, g5, g6, g7, g8, g9⟩ (h _ R (Heap.UpToSlots.refl _))
 ·obtain ⟨ec, g0⟩ := g2
  subst ec
  unfold noteFrame
  simp only [hf]
  refine wpAny_bind (wpAny_field g1 g3 g4 ?_)
  rw [if_pos (by simp)]
  refine wpAny_bind (wpAny_field g7 g8 g9 ?_)
  rw [if_neg hfl]
  refine wpAny_bind (wpAny_setField g7 g8 (zAv.mp g9).1 ?_)
  have oth : ∀ b, b ≠ T -> (s.heap.update T (Obj.mapFields (·.setIfInBounds 3 Value.none))).get? b = s.heap.get? b := fun b hb => zA5 _ _ (Ne.symm hb)
  have nrec : ∀ b o, s.heap.get? b = some o -> (∀ vs, o.data ≠ .fields vs) -> b ≠ T := fun b o hb hn q => by
   rw [q, g7] at hb
   cases hb
   exact hn ts g8
  refine wpAny_entryW (base := base) hfr (k3.of_keeps fun b o hb hn => ⟨o, (oth b (nrec b o hb hn)).trans hb, rfl⟩) hf ((oth e (Ne.symm g6)).trans g1) (fun b o hb => (oth b fun q => by rw [q, g5] at hb; cases hb).trans (k1 b o hb)) k2 g3 (zAv.mp g4).1 g0 fun h' hN => ?_
  obtain ⟨n1, n2, n3, n4⟩ := hN
  exact h h' ⟨n1, k2, n2, _, n3⟩ fun b o hb hn => n4 b o ((oth b (nrec b o hb hn)).trans hb) hn
theorem xI {Q : Unit -> Shared -> Prop} (hfr : A.frames = some (env :: outer)) (hf : env.frame = some L) (R : tX base (env :: outer) e cls a0 s.heap)
  (h : ∀ h', Heap.FlyingW base outer e cls a0 h' -> s.heap.UpToSlots h' -> Q () { s with heap := h' }) : wpAny M A (leaving env (.ref e)) Q E s := by
 unfold leaving
 refine wpAny_bind (zq hfr hf R fun h1 R1 s1 => ?_)
 obtain ⟨k1, k2, k3, fl, k4⟩ := R1
 refine wpAny_setFlight_noneW (base := base) k1 k3 k4 fun h2 m1 m2 m3 m4 => ?_
 obtain ⟨_, _, m2⟩ := m2
 exact h h2 ⟨m1, k2, m2, m3⟩ (s1.trans fun b o hb hn => ⟨o.slots, m4 b o hb hn⟩)
end
def t4 (X : Cx) (Ed : Value -> Prop) : Prop := ∀ (pins : List (Addr × Obj)) (σ : St) (H : Hp) (W : Own) (ρ : Ro) (s s' : Shared) (ea c : Addr) (H' : Hp) (B : Heap) (a0 : Value), Inv X pins σ H s -> Rel X W H σ ρ -> s'.os = s.os -> AllBare s'.gens -> Fl X.prog X.w X.stack s.heap H H' B s'.heap -> aj H H' -> H' ea = none -> s.heap.get? ea = none →
 tX B X.stack ea (.ref c) a0 s'.heap -> Ed (.ref c) -> X.xe (.ref ea) s'
section
variable {P : Program} {w : World} {K : PySem.W.Frag} {mg : Str -> Option Value} {base : Heap} {N : List Str} {qual : Str} {sc : Scope} {f : Addr} {cd : Value} {A : Around} {outer : List Env} {s₀ : Shared} {H₀ : Hp} {E : XK}
theorem Bh {Ed : Value -> Prop} (hE : ∀ c a H', aj H₀ H' -> Ed c -> E c a H') : t4 (cC (CX1 P w) P w K mg base N qual sc f cd A outer s₀ H₀ E) Ed := by
 intro pins σ H W ρ s s' ea c H' B a0 I r os bare F sm hn hn0 R hd
 show wpAny (model P w) (A.deeper (envOfC qual sc s₀.heap.objs.size f cd)) (leaving (envOfC qual sc s₀.heap.objs.size f cd) (.ref ea)) _ _ _
 refine xI (outer := outer) I.ok.frames rfl R fun h'' x1 x2 => ?_
 have I' := I.call' os F.un F.hok bare (by intro b z; cases z)
 refine pU (s := s') (h' := h'') I' (r.ent.trans sm) hn ?_ (fun b o q z n => F.cov b o q (z.elim .inl fun ⟨o', z⟩ => .inr (I.base.there b o' z (by intro q; cases q))) n) x1 x2 (hE _ _ _ (r.ent.trans sm) hd)
 cases q : s₀.heap.get? ea with
 | none => rfl
 | some o =>
  obtain ⟨o', q'⟩ := I.base.there ea o q (by intro z; cases z)
  rw [hn0] at q'
  cases q'
end
section
variable {P : Program} {w : World} {K : PySem.W.Frag} {mg : Str -> Option Value} {base : Heap}
structure av (K : PySem.W.Frag) (x qual : Str) (st : Stmt) (f : Addr) (fd : FuncData) : Prop where
 ex : ∃ (oc : Value) (od : Option Addr) (dV kV doc pm : Value) (an : Option Addr) (cdv ct : Value) (osl : Array (Option Value)),
  fd = PySem.W.fnOf x qual (bV st) (bC st) (ai st) dV kV doc pm an cdv ct /\ K.lookup f = some ⟨oc, od, .func fd, osl⟩ /\ PySem.W.codeIn K cdv qual = true
 kp : PySem.W.keepIn K (.ref f) = true
theorem av.okC {x qual : Str} {st : Stmt} {f : Addr} {fd : FuncData} {N ps : List Str} {k : Nat} {sp : DSp} (F : av K x qual st f fd) (S : ax N ps (ai st)) (len : ∀ ds Q E, sp ds Q E -> ds.length = ps.length)
  (hbody : ∀ (cdv : Value), fd.code = cdv -> ∀ (A : Around) (outer : List Env) (s : Shared) (H : Hp) (E : XK) (Ed : Value -> Prop), bE k (A.deeper (envOfC qual (ai st) s.heap.objs.size f cdv)) -> MadeX (cC (CX1 P w) P w K mg base N qual (ai st) f cdv A outer s H E) Ed -> eO (cC (CX1 P w) P w K mg base N qual (ai st) f cdv A outer s H E) Ed -> t4 (cC (CX1 P w) P w K mg base N qual (ai st) f cdv A outer s H E) Ed →
   ∃ t, b5 (cC (CX1 P w) P w K mg base N qual (ai st) f cdv A outer s H E) (bC st) t /\ ∀ ds Q, sp ds Q Ed -> t { nx := fun _ => Q .non, rt := Q } (aA N ds)) : aD P w K mg base (CX1 P w) (k + 1) f fd ps (aE K sp) := by
 obtain ⟨oc, od, dV, kV, doc, pm, an, cdv, ct, osl, rfl, lk, hcd⟩ := F.ex
 refine Bf lk hcd S (fun vs H Q E h => ?_) fun A outer s H vs Q E hr h => ?_
 ·obtain ⟨_, ds, _, _, _, _, hd, hs, _⟩ := h
  rw [hd.len]
  exact len ds _ _ hs
 ·obtain ⟨Pb, ds, Qd, Ed, hT, hP, hd, hs, kq, ke⟩ := h
  obtain ⟨t, ht, k⟩ := hbody cdv rfl A outer s H E Ed hr (Bl ke) (zF ke) (Bh ke)
  refine ⟨_, ht.ps, ⟨Pb, fun _ => none, fun a => ∃ o, H a = some o⟩, _, _, Rel.start hP hd rfl hT, k ds Qd hs, fun W' σ' H' ρ' f r q => ?_, fun W' H' v d f hd' q => ?_, fun _ _ _ _ _ _ q => q, fun _ _ _ _ _ _ q => q⟩
  ·exact kq .non .non H' ⟨fun b o e n => f.kp b o (fun i z => by cases z) e n, f.tb, f.ok⟩ Den.non q
  ·refine kq d v H' ⟨fun b o e n => f.kp b o (fun i z => by cases z) e n, f.tb, f.ok⟩ (hd'.fewer fun t a z => ?_) q
   rcases z with z | z
   ·exact .inl (by rw [f.B]; exact z)
   ·exact .inr (.inr ⟨z.1, by rw [f.S]; exact z.2⟩)
theorem av.okX {x qual : Str} {st : Stmt} {f : Addr} {fd : FuncData} {N ps : List Str} {k : Nat} {sp : DSp} (F : av K x qual st f fd) (S : ax N ps (ai st)) (len : ∀ ds Q E, sp ds Q E -> ds.length = ps.length)
  (hbody : ∀ (cdv : Value) (A : Around) (outer : List Env) (s : Shared) (H : Hp) (E : XK) (Ed : Value -> Prop), bE k (A.deeper (envOfC qual (ai st) s.heap.objs.size f cdv)) -> MadeX (cC (CX1 P w) P w K mg base N qual (ai st) f cdv A outer s H E) Ed -> eO (cC (CX1 P w) P w K mg base N qual (ai st) f cdv A outer s H E) Ed -> t4 (cC (CX1 P w) P w K mg base N qual (ai st) f cdv A outer s H E) Ed →
   ∃ t, b5 (cC (CX1 P w) P w K mg base N qual (ai st) f cdv A outer s H E) (bC st) t /\ ∀ ds Q, sp ds Q Ed -> t { nx := fun _ => Q .non, rt := Q } (aA N ds)) : aD P w K mg base (CX1 P w) (k + 1) f fd ps (aE K sp) := av.okC F S len fun cdv _ => hbody cdv
theorem av.okN {x qual : Str} {st : Stmt} {f : Addr} {fd : FuncData} {N ps : List Str} {k : Nat} {sp : DSp} (F : av K x qual st f fd) (S : ax N ps (ai st)) (len : ∀ ds Q E, sp ds Q E -> ds.length = ps.length)
  (hbody : ∀ (cdv : Value) (A : Around) (outer : List Env) (s : Shared) (H : Hp) (E : XK), bE k (A.deeper (envOfC qual (ai st) s.heap.objs.size f cdv)) →
   ∃ t, b5 (cC (CX1 P w) P w K mg base N qual (ai st) f cdv A outer s H E).nox (bC st) t /\ ∀ ds Q Ed, sp ds Q Ed -> t { nx := fun _ => Q .non, rt := Q } (aA N ds)) : aD P w K mg base (CX1 P w) (k + 1) f fd ps (aE K sp) :=
 av.okX F S len fun cdv A outer s H E Ed hr _ _ _ => by
  obtain ⟨t, ht, k⟩ := hbody cdv A outer s H E hr
  exact ⟨t, ht.nox, fun ds Q h => k ds Q Ed h⟩
theorem kD {x qual : Str} {st : Stmt} {f : Addr} {oc : Value} {od an : Option Addr} {osl : Array (Option Value)} {dV kV doc pm cdv ct : Value} (l : K.lookup f = some ⟨oc, od, .func (PySem.W.fnOf x qual (bV st) (bC st) (ai st) dV kV doc pm an cdv ct), osl⟩)
  (c : PySem.W.codeIn K cdv qual = true) (k : PySem.W.keepIn K (.ref f) = true) : av K x qual st f (PySem.W.fnOf x qual (bV st) (bC st) (ai st) dV kV doc pm an cdv ct) := ⟨⟨oc, od, dV, kV, doc, pm, an, cdv, ct, osl, rfl, l, c⟩, k⟩
end
end PD
namespace PD
open PySem PySem.Spec PyProof.Rows L2
def Has (P : Program) (w : World) (K : PySem.W.Frag) (mg : Str -> Option Value) (base : Heap) (x : Str) (k : Nat) (ps : List Str) (sp : DSp) : Prop :=
 ∃ f fd, aD P w K mg base (CX1 P w) k f fd ps (aE K sp) /\ mg x = some (.ref f) /\ PySem.W.keepIn K (.ref f) = true /\ Binds K fd ps []
section
variable {X : Cx} {k : Nat} {ps : List Str} {sp : DSp} {x : Str} {p pos : Pos} {e : Expr} {es : List Expr} {t : DA}
theorem ak (h : Has X.prog X.w X.K X.mg X.base x k ps sp) (hr : bE k X.A) (ha : PAD X (e :: es) t) (hg : Gl X x := by rfl) (hdb : (x == ("__debug__" : Str)) = false := by decide)
  (he : starEach (e :: es) X.env = (false, eval e X.env) :: starEach es X.env := by rfl) (hpl : (backTo pos (starEach es X.env)).any (·.1) = false := by rfl) : PED X (.Call (.Name x p) (e :: es) [] pos) (lU sp [] t) := by
 obtain ⟨f, fd, F, hm, hk, hb⟩ := h
 exact p8 (dds := []) (dsv := []) F hr hg hm hk hb .nil (by simp) yG ha hdb he hpl
end
def sp2 (R : D -> D -> (D -> Prop) -> Prop) : DSp := fun ds Q _ => ∃ a b, ds = [a, b] /\ R a b Q
def mR : DSp := fun ds Q _ => ∃ ns : List Int, ds = [.lst false (ns.map .int)] /\ ns.length <= 63 /\ Q (.bl true)
theorem n9 {K : PySem.W.Frag} {P : Bool -> Addr -> Prop} {H : Hp} : ∀ ns : List Int, af K P H (ns.map D.int) (ns.map V.int)
 | [] => af.nil
 | n :: r => af.cons (Den.int n) (n9 r)
theorem AB {K : PySem.W.Frag} {H : Hp} {a : Addr} {ns : List Int} (hl : ns.length <= 63) (hS : SqL K H a (ns.map V.int)) (hT : gZ K H) : aE K mR [.ref a] H (fun v _ => v = .bl true) fun _ _ _ => False :=
 ⟨fun _ => False, [.lst false (ns.map D.int)], fun d => d = .bl true, fun _ => False, hT, fun _ z => z.elim, af.one (Den.lst (fun z => z.elim (fun z => by cases z) id) (.any hS) (n9 ns)), ⟨ns, rfl, hl, rfl⟩, fun d v H' _ hd e => by subst e; exact hd.bl_, fun _ _ _ _ z => z.elim⟩
theorem walk {l : PySem.W.OpenLaw} {q : Program} {loose : List Str} {XP : (Str -> Option Value) -> Heap -> Prop} {YP : World -> Heap -> Prop} {d : DefRec} {K : Params -> PySem.W.Frag} {k : Nat} {x : Str} (hn : l.most = some 63) (hdf : d.params.defaults = []) (hr : bE k callerA)
  (hY : ∀ (w : World) (h : Heap), YP w h -> (K w.params).In h) (hT : ∀ w : World, tabOf (K w.params) = none)
  (F : ∀ (w : World) (mg : Str -> Option Value) (fa : Addr) (h : Heap), (K w.params).In h -> h.Ns mainGlobals mg -> mg d.name = some (.ref fa) →
   ∃ fd : FuncData, (∀ (s : Shared) (u : Value), BindsTo s fd ⟨[u], []⟩ [(x, u)]) /\ ∀ base : Heap, (K w.params).In base -> base.Ns mainGlobals mg -> aD l.prog w (K w.params) mg base (CX1 l.prog w) k fa fd [x] (aE (K w.params) mR)) :
  PySem.W.WalkO q loose XP YP l.row.toRowW d [] (fun f vs => PySem.call f vs) :=
 L2.zX (n := 63) (k := k) (x := x) (CX := fun w => CX1 l.prog w) (sp := fun w => aE (K w.params) mR) hn (by decide) hdf hr hY F (fun w _ a ns hl hO hS => AB hl hS ⟨fun P ps e => (by rcases hO P with z | ⟨o, xs, z⟩ <;> rw [z] at e <;> cases e), fun P e => (by rw [hT w] at e; cases e)⟩) fun _ _ _ _ _ z => by obtain ⟨_, _, _, _, _, _, _, _, _, _, _, _, _, q⟩ := z; exact q.elim
theorem at0 {α : Type} (a : α) (r : List α) : atI (a :: r) 0 = some a := fU (j := 0) rfl
theorem at1 {α : Type} (a b : α) (r : List α) : atI (a :: b :: r) 1 = some b := fU (j := 1) rfl
theorem at2 {α : Type} (a b c : α) (r : List α) : atI (a :: b :: c :: r) 2 = some c := fU (j := 2) rfl
theorem at3 {α : Type} (a b c d : α) (r : List α) : atI (a :: b :: c :: d :: r) 3 = some d := fU (j := 3) rfl
theorem qV (ds : List D) (i : Int) (Q : D -> Prop) : qU (.tup ds) (.int i) Q = ∃ d, atI ds i = some d /\ Q d := by
 apply propext
 constructor
 ·rintro ⟨ds', i', d, e1, e2, h, q⟩
  rcases e1 with e1 | ⟨_, e1⟩
  ·cases e1; cases e2; exact ⟨d, h, q⟩
  ·cases e1
 ·rintro ⟨d, h, q⟩
  exact ⟨ds, i, d, .inl rfl, rfl, h, q⟩
theorem lE (t : Bool) (ds : List D) (i : Int) (Q : D -> Prop) : qU (.lst t ds) (.int i) Q = ∃ d, atI ds i = some d /\ Q d := by
 apply propext
 constructor
 ·rintro ⟨ds', i', d, e1, e2, h, q⟩
  rcases e1 with e1 | ⟨_, e1⟩
  ·cases e1
  ·cases e1; cases e2; exact ⟨d, h, q⟩
 ·rintro ⟨d, h, q⟩
  exact ⟨ds, i, d, .inr ⟨t, rfl⟩, rfl, h, q⟩
theorem bN (i : Int) : aI (.int i) = .int i := by rw [aI]
theorem rE (b : Bool) : aI (.bl b) = .bl b := by rw [aI]
theorem gT : aI .non = .non := by rw [aI]
theorem oM (x : Str) : aI (.str x) = .str x := by rw [aI]
theorem dE (ds : List D) : aI (.tup ds) = .tup (aV ds) := by rw [aI]
theorem oI (t : Bool) (ds : List D) : aI (.lst t ds) = .lst false (aV ds) := by rw [aI]
theorem cg : aV [] = [] := by rw [aV]
theorem bQ (d : D) (ds : List D) : aV (d :: ds) = aI d :: aV ds := by rw [aV]
theorem fT {α : Type} (f : α -> D) (h : ∀ x, aI (f x) = f x) : ∀ xs : List α, aV (xs.map f) = xs.map f
 | [] => by rw [zA8, aV]
 | x :: r => by rw [zAG, aV, h, fT f h r]
theorem iy (ns : List Int) : aV (ns.map D.int) = ns.map D.int := fT _ bN ns
theorem tM (C : Int -> Int -> Prop) (g : Int -> Int -> D) (i j : Int) (Q : D -> Prop) : rdI C g (.int i) (.int j) Q = (C i j /\ Q (g i j)) := by
 apply propext
 constructor
 ·rintro ⟨i', j', e1, e2, h, q⟩
  cases e1; cases e2; exact ⟨h, q⟩
 ·rintro ⟨h, q⟩
  exact ⟨i, j, rfl, rfl, h, q⟩
theorem qT (g : Int -> Int -> D) (i j : Int) (Q : D -> Prop) : hZ g (.int i) (.int j) Q = Q (g i j) := by
 apply propext
 constructor
 ·rintro ⟨i', j', e1, e2, q⟩
  cases e1; cases e2; exact q
 ·intro q
  exact ⟨i, j, rfl, rfl, q⟩
theorem vz (d : D) (r : Ro) (Q : D -> Prop) : jQ 0 (some (.val d) :: r) Q = Q d := by
 apply propext
 constructor
 ·rintro ⟨d', e, q⟩
  cases e; exact q
 ·intro q; exact ⟨d, rfl, q⟩
theorem vA (n : Nat) (x : Option Sl) (r : Ro) (Q : D -> Prop) : jQ (n + 1) (x :: r) Q = jQ n r Q := rfl
theorem yL (x y : Option Sl) (r : Ro) : List.set (x :: r) 0 y = y :: r := rfl
theorem yM (n : Nat) (x y : Option Sl) (r : Ro) : List.set (x :: r) (n + 1) y = x :: List.set r n y := rfl
theorem yz (k : Bool) (R : Bool -> Prop) : (∃ c, (D.bl k) = .bl c /\ R c) = R k := by
 apply propext
 constructor
 ·rintro ⟨c, e, q⟩; cases e; exact q
 ·intro q; exact ⟨k, rfl, q⟩
theorem vJ (k : Int) (R : Int -> Prop) : (∃ c, (D.int k) = .int c /\ R c) = R k := by
 apply propext
 constructor
 ·rintro ⟨c, e, q⟩; cases e; exact q
 ·intro q; exact ⟨k, rfl, q⟩
theorem sO {α : Type} (k : α) (R : α -> Prop) : (∃ c, some k = some c /\ R c) = R k := by
 apply propext
 constructor
 ·rintro ⟨c, e, q⟩; cases e; exact q
 ·intro q; exact ⟨k, rfl, q⟩
theorem sz3 (a b c : D) : ([a, b, c] : List D).length <= sizeLine := by rw [sizeLine_eq]; show 3 <= 16777216; decide
theorem sz2 (a b : D) : ([a, b] : List D).length <= sizeLine := by rw [sizeLine_eq]; show 2 <= 16777216; decide
theorem sz1 (a : D) : ([a] : List D).length <= sizeLine := by rw [sizeLine_eq]; show 1 <= 16777216; decide
theorem sz4 (a b c d : D) : ([a, b, c, d] : List D).length <= sizeLine := by rw [sizeLine_eq]; show 4 <= 16777216; decide
theorem tm (t : Bool) (xs : List D) (R : List D -> Prop) : (∃ ys, ((∃ t', [D.lst t xs] = [.lst t' ys]) ∨ [D.lst t xs] = [.tup ys]) /\ R ys) = R xs := by
 apply propext
 constructor
 ·rintro ⟨c, e, q⟩
  rcases e with ⟨_, e⟩ | e
  ·cases e; exact q
  ·cases e
 ·intro q; exact ⟨xs, .inl ⟨t, rfl⟩, q⟩
theorem tu (xs : List D) (R : List D -> Prop) : (∃ ys, ((∃ t', [D.tup xs] = [.lst t' ys]) ∨ [D.tup xs] = [.tup ys]) /\ R ys) = R xs := by
 apply propext
 constructor
 ·rintro ⟨c, e, q⟩
  rcases e with ⟨_, e⟩ | e
  ·cases e
  ·cases e; exact q
 ·intro q; exact ⟨xs, .inr rfl, q⟩
theorem wI (a b : D) (R : D -> D -> Prop) : (∃ d e, [a, b] = [d, e] /\ R d e) = R a b := by
 apply propext
 constructor
 ·rintro ⟨_, _, e, q⟩; cases e; exact q
 ·intro q; exact ⟨a, b, rfl, q⟩
theorem sW (ds : List D) : isT "tuple" (.tup ds) = true := by
 show (("tuple" : String) == "tuple" || (("tuple" : String) == "bool" && ("tuple" : String) == "int")) = true
 decide
theorem sV (t : Bool) (ds : List D) : isT "list" (.lst t ds) = true := by
 show (("list" : String) == "list" || (("list" : String) == "bool" && ("list" : String) == "int")) = true
 decide
theorem ox (ds : List D) : isT "list" (.tup ds) = false := by
 show (("tuple" : String) == "list" || (("tuple" : String) == "bool" && ("list" : String) == "int")) = false
 decide
theorem sU (i : Int) : isT "int" (.int i) = true := by
 show (("int" : String) == "int" || (("int" : String) == "bool" && ("int" : String) == "int")) = true
 decide
theorem mz (i : Int) : isT "bool" (.int i) = false := by
 show (("int" : String) == "bool" || (("int" : String) == "bool" && ("bool" : String) == "int")) = false
 decide
theorem ou : jc .non = true := rfl
theorem ow (ds : List D) : jc (.tup ds) = false := rfl
theorem ot (t : Bool) (ds : List D) : jc (.lst t ds) = false := rfl
theorem oq (i : Int) : jc (.int i) = false := rfl
theorem tG (i : Int) : okD (.int i) := by unfold okD; rw [pyD, plD] <;> first | exact ⟨rfl, rfl⟩ | (intros; contradiction)
theorem zv : okD .non := by unfold okD; rw [pyD, plD] <;> first | exact ⟨rfl, rfl⟩ | (intros; contradiction)
abbrev T3 (a b c : Int) : D := .tup [.int a, .int b, .int c]
theorem CD.lit {i n : Int} (h : n ≠ 0 /\ n.natAbs < 2 ^ 64 := by decide) : CD i n := ⟨h.1, zAS h.2 (Nat.pow_le_pow_right (by decide) (by decide))⟩
theorem tP (a b : Int) (R : Int -> Int -> Prop) : (∃ i j : Int, [D.int a, D.int b] = [.int i, .int j] /\ R i j) = R a b := by
 apply propext
 constructor
 ·rintro ⟨_, _, e, q⟩; cases e; exact q
 ·intro q; exact ⟨a, b, rfl, q⟩
theorem tO (a : Int) (R : Int -> Prop) : (∃ i : Int, [D.int a] = [.int i] /\ R i) = R a := by
 apply propext
 constructor
 ·rintro ⟨_, e, q⟩; cases e; exact q
 ·intro q; exact ⟨a, rfl, q⟩
theorem w9 {ns : List Int} {k : Int} (h0 : 0 <= k) (h1 : k < ns.length) : atI (ns.map D.int) k = some (.int (ns.getD k.toNat 0)) := by
 have e : k = ((k.toNat : Nat) : Int) := by omega
 have hl : k.toNat < ns.length := by omega
 have q : atI (ns.map D.int) ((k.toNat : Nat) : Int) = some (.int (ns.getD k.toNat 0)) := fU (by simp [zAO, zAH hl, zBN])
 rw [<- e] at q
 exact q
theorem eR {xs ys : List Int} (h : xs.map D.int = ys.map D.int) : xs = ys := by
 induction xs generalizing ys with
 | nil => cases ys with
  | nil => rfl
  | cons y r => simp at h
 | cons x r ih => cases ys with
  | nil => simp at h
  | cons y q =>
   simp only [zAG, zAD, D.int.injEq] at h
   rw [h.1, ih h.2]
theorem gdN (n : Nat) (t : DGs) (tg : Bool) (ds : List D) (h : ds.length = n) (ρ : Ro) (Q : Ro -> Prop) : fM n t (.lst tg ds) ρ Q = t ds ρ Q := by
 apply propext
 unfold fM
 constructor
 ·rintro ⟨ds', e, _, h⟩
  rcases e with e | ⟨_, e⟩
  ·cases e
  ·cases e; exact h
 ·intro q; exact ⟨ds, .inr ⟨tg, rfl⟩, h, q⟩
theorem uH (n : Nat) (t : DGs) (ds : List D) (h : ds.length = n) (ρ : Ro) (Q : Ro -> Prop) : fM n t (.tup ds) ρ Q = t ds ρ Q := by
 apply propext
 unfold fM
 constructor
 ·rintro ⟨ds', e, _, h⟩
  rcases e with e | ⟨_, e⟩
  ·cases e; exact h
  ·cases e
 ·intro q; exact ⟨ds, .inl rfl, h, q⟩
theorem gdc (g : DG) (u : DGs) (x : D) (r : List D) (ρ : Ro) (Q : Ro -> Prop) : bA g u (x :: r) ρ Q = g x ρ fun ρ' => u r ρ' Q := by
 apply propext
 unfold bA
 constructor
 ·rintro ⟨d, r', e, h⟩; cases e; exact h
 ·intro h; exact ⟨x, r, rfl, h⟩
theorem gdn (ρ : Ro) (Q : Ro -> Prop) : i8 [] ρ Q = Q ρ := by apply propext; unfold i8; simp
theorem gd2 (g1 g2 : DG) (tg : Bool) (a b : D) (ρ : Ro) (Q : Ro -> Prop) : fM 2 (bA g1 (bA g2 i8)) (.lst tg [a, b]) ρ Q = g1 a ρ fun ρ1 => g2 b ρ1 Q := by
 (first | rw [gdN 2 _ _ _ rfl] | rw [gdN 3 _ _ _ rfl]); simp only [gdc, gdn]
theorem Au (g1 g2 : DG) (a b : D) (ρ : Ro) (Q : Ro -> Prop) : fM 2 (bA g1 (bA g2 i8)) (.tup [a, b]) ρ Q = g1 a ρ fun ρ1 => g2 b ρ1 Q := by
 (first | rw [uH 2 _ _ rfl] | rw [uH 4 _ _ rfl]); simp only [gdc, gdn]
theorem uG (g1 g2 g3 g4 : DG) (a b c d : D) (ρ : Ro) (Q : Ro -> Prop) : fM 4 (bA g1 (bA g2 (bA g3 (bA g4 i8)))) (.tup [a, b, c, d]) ρ Q = g1 a ρ fun ρ1 => g2 b ρ1 fun ρ2 => g3 c ρ2 fun ρ3 => g4 d ρ3 Q := by
 (first | rw [uH 2 _ _ rfl] | rw [uH 4 _ _ rfl]); simp only [gdc, gdn]
end PD
namespace PD
open PySem PySem.Spec PyProof.Rows L2
section
variable {X : Cx} {pos : Pos}
theorem Rel.putG {W : Own} {H H' : Hp} {σ : St} {ρ : Ro} {i : Nat} {p : Addr} {x : OS} {o : HO} (r : Rel X W H σ ρ) (hi : i < σ.length) (sm : aj H H') (hp : H p = none) (hk : X.K.lookup p = none) (h' : H' p = some o) (hd : bS X.K (fun t b => W.bad t b ∨ b = p) H' (W.sub σ.length i) x o) :
  Rel X ((W.drop i).put i p) H' (σ.set i (some (.ref p))) (ρ.set i (some (.ob x))) /\ Fwd W H ((W.drop i).put i p) H' := by
 have hO : ∀ j a, ((W.drop i).put i p).O j = some a -> (j = i /\ a = p) ∨ (j ≠ i /\ W.O j = some a) := fun j a h => by
  have h1 : (if j = i then some p else (if j = i then none else W.O j)) = some a := h
  by_cases e : j = i
  ·rw [if_pos e] at h1; cases h1; exact .inl ⟨e, rfl⟩
  ·rw [if_neg e, if_neg e] at h1; exact .inr ⟨e, h1⟩
 have hOi : ((W.drop i).put i p).O i = some p := by show (if i = i then some p else _) = _; rw [if_pos rfl]
 have hOj : ∀ j, j ≠ i -> ((W.drop i).put i p).O j = W.O j := fun j n => by show (if j = i then some p else (if j = i then none else W.O j)) = _; rw [if_neg n, if_neg n]
 have hS : ∀ j k b, W.sub σ.length j k = some b -> ((W.drop i).put i p).sub σ.length j k = some b := fun j k b e => (hOj _ (m5 hi)).trans e
 have bad' : ∀ t a, ((W.drop i).put i p).bad t a -> W.bad t a ∨ a = p := fun t a z => by
  rcases z with z | ⟨j, z⟩ | z
  ·exact .inl (.inl z)
  ·rcases hO j a z with ⟨_, q⟩ | ⟨_, q⟩
   ·exact .inr q
   ·exact .inl (.inr (.inl ⟨j, q⟩))
  ·exact .inl (.inr (.inr z))
 have nb : ∀ {t : Bool} {a : Addr} {ws : List V}, SqG X.K H t a ws -> a ≠ p := fun {t a ws} q z => by
  subst z
  rcases q.1 with (q | ⟨o, q⟩) | ⟨o, its, n, q, _⟩
  ·rw [hp] at q; cases q
  ·rw [hp] at q; cases q
  ·rw [hk] at q; cases q
 have up : ∀ (d : D) (v : V), Den X.K W.bad H d v -> Den X.K ((W.drop i).put i p).bad H' d v := Den.map (fun _ _ q => SqT.same sm q) (fun t a ws n q => ⟨fun z => (bad' t a z).elim n (nb q), q.same sm⟩) (fun a _ q => sm a _ q)
 have ups : ∀ (ds : List D) (vs' : List V), af X.K W.bad H ds vs' -> af X.K ((W.drop i).put i p).bad H' ds vs' := af.map (fun _ _ q => SqT.same sm q) (fun t a ws n q => ⟨fun z => (bad' t a z).elim n (nb q), q.same sm⟩) (fun a _ q => sm a _ q)
 refine ⟨⟨fun j d h => ?_, fun j x h => ?_, fun j k a h1 h2 => ?_, fun j a h1 => ?_, fun j a h1 => ?_, fun a h => let ⟨_, q⟩ := r.bt a h; sm.ex q, fun a h => let ⟨_, q⟩ := r.st a h; sm.ex q, r.ent.trans sm, r.tab.same sm⟩, rfl, rfl, fun b o _ q n => sm.kp b o q n, fun j a h => ?_, sm.tb, sm.ok⟩
 ·by_cases hj : j = i
  ·subst hj
   rw [List.getElem?_set] at h
   split at h
   ·split at h <;> cases h
   ·omega
  ·rw [zAe (Ne.symm hj)] at h
   obtain ⟨w, h1, h2⟩ := r.val j d h
   exact ⟨w, by rw [zAe (Ne.symm hj)]; exact h1, up d w h2⟩
 ·by_cases hj : j = i
  ·subst hj
   rw [List.getElem?_set] at h
   split at h
   ·split at h
    ·cases h
     exact ⟨p, _, hOi, by simp [hi], h', by rw [List.length_set]; exact hd.fewer (fun t a z => bad' t a z) (hS _)⟩
    ·cases h
   ·omega
  ·rw [zAe (Ne.symm hj)] at h
   obtain ⟨a, ws, h1, h2, h3, h4⟩ := r.own j x h
   exact ⟨a, ws, (hOj j hj).trans h1, by rw [zAe (Ne.symm hj)]; exact h2, sm.kp _ _ h3 h4.mut.nt, by rw [List.length_set]; exact h4.map ups fun k b q => ⟨hS j k b q, fun _ z => sm _ _ z⟩⟩
 ·rcases hO j a h1 with ⟨e1, q1⟩ | ⟨e1, q1⟩ <;> rcases hO k a h2 with ⟨e2, q2⟩ | ⟨e2, q2⟩
  ·rw [e1, e2]
  ·subst q1
   obtain ⟨_, _, ws, q, _⟩ := r.kn k _ q2
   rw [hp] at q; cases q
  ·subst q2
   obtain ⟨_, _, ws, q, _⟩ := r.kn j _ q1
   rw [hp] at q; cases q
  ·exact r.inj j k a q1 q2
 ·rcases hO j a h1 with ⟨e1, q1⟩ | ⟨e1, q1⟩
  ·subst q1
   exact ⟨hk, ⟨fun z => (by obtain ⟨o, q⟩ := r.bt _ z; rw [hp] at q; cases q), fun z => (by obtain ⟨o, q⟩ := r.st _ z; rw [hp] at q; cases q)⟩, _, h', hd.mut⟩
  ·obtain ⟨a1, a2, ws, a3, a4⟩ := r.kn j a q1
   exact ⟨a1, a2, ws, sm.kp _ _ a3 a4.nt, a4⟩
 ·rcases hO j a h1 with ⟨e1, q1⟩ | ⟨e1, q1⟩
  ·subst q1; exact r.ent.free hp
  ·exact r.ke j a q1
 ·rcases hO j a h with ⟨e1, q1⟩ | ⟨e1, q1⟩
  ·subst q1; exact .inr hp
  ·exact .inl ⟨j, q1⟩
theorem Rel.putOwn2 {W : Own} {H H' : Hp} {σ : St} {ρ : Ro} {i : Nat} {p : Addr} {ds : List D} {vs : List V} (r : Rel X W H σ ρ) (hi : i < σ.length) (sm : aj H H') (hp : H p = none) (hk : X.K.lookup p = none) (h' : H' p = some (.lst vs)) (hd : af X.K (fun t b => W.bad t b ∨ b = p) H' ds vs) :
  Rel X ((W.drop i).put i p) H' (σ.set i (some (.ref p))) (ρ.set i (some (.own ds))) /\ Fwd W H ((W.drop i).put i p) H' := r.putG hi sm hp hk h' (.lst hd)
theorem af.apart {K : PySem.W.Frag} {P : Bool -> Addr -> Prop} {H : Hp} {a : Addr} {o : HO} {ds : List D} {us : List V} (n : H a = none) (k : K.lookup a = none) (h : af K P H ds us) (nt : NT o := by exact True.intro) : af K (fun t b => P t b ∨ b = a) (L2.upd H a o) ds us :=
 af.map (fun _ _ q => SqT.same (aj.upd n nt) q) (fun t b ws p q => ⟨(fun z => z.elim p fun z => by
  subst z
  rcases q.1 with (q | ⟨o, q⟩) | ⟨o, its, m, q, _⟩
  ·rw [n] at q; cases q
  ·rw [n] at q; cases q
  ·rw [k] at q; cases q), q.same (aj.upd n nt)⟩) (fun b _ q => (aj.upd n nt) b _ q) ds us h
theorem Rel.mutG {W : Own} {H : Hp} {σ : St} {ρ : Ro} {i : Nat} {a : Addr} {x x' : OS} {o o' : HO} (r : Rel X W H σ ρ) (eo : ρ[i]? = some (some (.ob x))) (oa : W.O i = some a) (sa : σ[i]? = some (some (.ref a))) (ha : H a = some o) (hm : iW o) (hd : bS X.K W.bad H (W.sub σ.length i) x' o') :
  Rel X W (L2.upd H a o') σ (ρ.set i (some (.ob x'))) /\ Fwd W H W (L2.upd H a o') := by
 have badA : ∀ t, W.bad t a := fun _ => .inr (.inl ⟨i, oa⟩)
 have noT : ∀ b ws, SqT X.K H b ws -> SqT X.K (L2.upd H a o') b ws := fun b ws q => by
  rcases q with (q | ⟨u, q⟩) | q
  ·exact .inl (.inl (by rw [ay (cR q ha (by intro z; subst z; exact hm))]; exact q))
  ·exact .inl (.inr ⟨u, by rw [ay (cR q ha (by intro z; subst z; exact hm))]; exact q⟩)
  ·exact .inr q
 have noL : ∀ t b ws, ¬ W.bad t b -> SqG X.K H t b ws -> ¬ W.bad t b /\ SqG X.K (L2.upd H a o') t b ws := fun t b ws n q => by
  have hne : b ≠ a := fun e => n (e ▸ badA t)
  refine ⟨n, ?_, fun z => ⟨by rw [ay hne]; exact (q.2 z).1, (q.2 z).2⟩⟩
  rcases q.1 with (q | ⟨u, q⟩) | q
  ·exact .inl (.inl (by rw [ay hne]; exact q))
  ·exact .inl (.inr ⟨u, by rw [ay hne]; exact q⟩)
  ·exact .inr q
 have noX : ∀ b φ, H b = some (.ext φ) -> L2.upd H a o' b = some (.ext φ) := fun b φ q => by rw [ay (cR q ha (by intro z; subst z; exact hm))]; exact q
 have hl' : i < ρ.length := (zAF.mp eo).1
 have il : i < σ.length := (zAF.mp sa).1
 have hSb : ∀ j k b, W.sub σ.length j k = some b -> W.sub σ.length j k = some b /\ ∀ us, H b = some (.lst us) -> L2.upd H a o' b = some (.lst us) := fun j k b q => ⟨q, fun us z => by rw [ay (fun e => m5 il (r.inj _ _ a (by rw [<- e]; exact q) oa))]; exact z⟩
 have tr : ∀ b u, H b = some u -> ∃ u', L2.upd H a o' b = some u' := fun b u q => by
  by_cases hba : b = a
  ·subst hba; exact ⟨_, aC⟩
  ·exact ⟨u, by rw [ay hba]; exact q⟩
 refine ⟨⟨fun j d h => ?_, fun j y h => ?_, r.inj, fun j b hb => ?_, r.ke, fun b hb => let ⟨u, q⟩ := r.bt b hb; tr b u q, fun b hb => let ⟨u, q⟩ := r.st b hb; tr b u q, r.ent.ins (r.ke i a oa) ha hm hd.mut.nt, r.tab.upd hd.mut.nt (.inr ⟨o, ha, hm.ne, hm.nt⟩)⟩, Fwd.upd oa ha hm hd.mut.nt⟩
 ·by_cases hj : j = i
  ·subst hj
   rw [zAt hl'] at h; cases h
  ·rw [zAe (Ne.symm hj)] at h
   obtain ⟨w, h1, h2⟩ := r.val j d h
   exact ⟨w, h1, Den.map noT noL noX d w h2⟩
 ·by_cases hj : j = i
  ·subst hj
   rw [zAt hl'] at h
   cases h
   exact ⟨a, o', oa, sa, aC, hd.map (af.map noT noL noX) (hSb _)⟩
  ·rw [zAe (Ne.symm hj)] at h
   obtain ⟨b, ws, h1, h2, h3, h4⟩ := r.own j y h
   have hne : b ≠ a := fun e => hj (r.inj j i a (by rw [<- e]; exact h1) oa)
   exact ⟨b, ws, h1, h2, by rw [ay hne]; exact h3, h4.map (af.map noT noL noX) (hSb _)⟩
 ·obtain ⟨k1, k2, ws, k3, k4⟩ := r.kn j b hb
  refine ⟨k1, k2, ?_⟩
  by_cases hba : b = a
  ·subst hba; exact ⟨_, aC, hd.mut⟩
  ·exact ⟨ws, by rw [ay hba]; exact k3, k4⟩
theorem Rel.mut {W : Own} {H : Hp} {σ : St} {ρ : Ro} {i : Nat} {a : Addr} {ds ds' : List D} {vs vs' : List V} (r : Rel X W H σ ρ) (eo : ρ[i]? = some (some (.own ds))) (oa : W.O i = some a) (sa : σ[i]? = some (some (.ref a))) (ha : H a = some (.lst vs)) (hd : af X.K W.bad H ds' vs') :
  Rel X W (L2.upd H a (.lst vs')) σ (ρ.set i (some (.own ds'))) /\ Fwd W H W (L2.upd H a (.lst vs')) := r.mutG eo oa sa ha True.intro (.lst hd)
variable {es : List Expr} {t : DA}
def xn (i : Nat) (t : DA) : DS := fun E ρ => t ρ fun ds => ds.length <= sizeLine /\ E.nx (ρ.set i (some (.own ds)))
theorem gg {x : Str} {pos' lpos : Pos} (i : Nat) (hN : X.N.Nodup) (h : PAD X es t) (hi : X.N[i]? = some x := by rfl) (hx : Loc X.env.scope x := by first | exact Or.inl rfl | exact Or.inr rfl)
  (hs : swapsWith (.List es lpos) (some (.Name x pos')) pos.line X.env = pure false := by rfl) (hf : X.fn x = true ∨ X.env.scope.names.lookup x = some .local := by first | exact .inl rfl | exact .inr rfl | assumption) :
  PSD X (.Assign [.Name x pos'] (.List es lpos) pos) (xn i t) := by
 intro pins s σ H W ρ E I r hq
 refine wpAny_Assign_Name (wpAny_List_spliced (thn (h lpos pins s σ H W ρ _ I r hq) fun us s1 ⟨vs, H1, ds, I1, rv, e1, hd, z, q⟩ => ?_)) hs
 rw [<- hd.len] at z
 refine ⟨by rw [<- rv.length]; exact z, ?_⟩
 have hf1 : H1 s1.heap.objs.size = none := I1.hok.fresh (zAE _)
 have I2 := I1.laid (o := .lst vs) (t' := s1.toks) (fun b u e => zAB _ e) (zAE _) ⟨z, us, 0, rv, zAL _ rfl⟩
 have rp := (r.same e1).putOwn2 (Inv.ilt I1 hi) (aj.upd (o := .lst vs) hf1) hf1 (Inv.kfresh I1) aC (af.apart hf1 (Inv.kfresh I1) hd)
 exact gG (v := .ref s1.heap.objs.size) I2 hN hi hx rfl (fun s2 I3 => ⟨_, _, _, I3, (Fwd.same e1).trans rp.2, _, rp.1, q⟩) hf
def ng (i : Nat) (te : DE) : DS := fun E ρ => ∃ ds, ρ[i]? = some (some (.own ds)) /\ te ρ fun d => ds.length < sizeLine /\ E.nx (ρ.set i (some (.own (ds ++ [d]))))
theorem dw {x : Str} {e : Expr} {te : DE} {px apos cpos : Pos} (i : Nat) (he : PED X e te) (hi : X.N[i]? = some x := by rfl) (hv : Vis X.env.scope x := by first | exact Or.inl rfl | exact Or.inr (Or.inl rfl) | exact Or.inr (Or.inr rfl))
  (hd : (x == ("__debug__" : Str)) = false := by decide) (hcd : (x == ("__classdict__" : Str)) = false := by decide)
  (hbase : attributeBase (.Name x px) "append" X.env (eval (.Name x px) X.env) = eval (.Name x px) X.env := by rfl)
  (hfew : ((backTo cpos (starEach [e] X.env)).all (fun x => !x.1) && (backToKw cpos (keywordEach [] X.env)).all (fun x => x.1.isSome) && decide ([e].length + ([] : List Keyword).length + (if ([] : List Keyword).isEmpty then 0 else 1) < 30)) = true := by rfl)
  (hline : (apos.endLine == cpos.line) = true := by rfl) (hst : starEach [e] X.env = (false, eval e X.env) :: starEach [] X.env := by rfl) (hplain : (backTo cpos (starEach [] X.env)).any (·.1) = false := by rfl)
  (hs : swapsWith (.Call (.Attribute (.Name x px) "append" apos) [e] [] cpos) none pos.line X.env = pure false := by rfl) :
  PSD X (.Expr (.Call (.Attribute (.Name x px) "append" apos) [e] [] cpos) pos) (ng i te) := by
 have P0 := tJ (pos := pos) (yH PySem.F.plainAttrs_list PySem.F.slot_list_append PySem.F.type_list_append oB (cX hi hv hd hcd) (iI he.pe mJ hst) hbase hfew hline hst hplain) hs
 refine PSD.of P0 fun σ H W ρ E r hl h => ?_
 obtain ⟨ds, eo, h⟩ := h
 obtain ⟨a, vs, oa, sa, ha, hds⟩ := r.ownL i ds eo
 refine ⟨.ref a, sa, .inl ⟨rfl, _, SqL.of ha⟩, W, ρ, _, r, h, fun v H' d e1 hd' q => ?_⟩
 obtain ⟨z, q⟩ := q
 have ha' := e1 _ _ ha
 have r' := r.same e1
 have hds' := hds.same e1
 refine ⟨a, vs, v, rfl, rfl, ha', by rw [hds'.len]; exact z, ?_⟩
 obtain ⟨r2, f2⟩ := r'.mut (vs' := vs ++ [v]) eo oa sa ha' (hds'.append (af.one hd'))
 exact ⟨W, _, (Fwd.same e1).trans f2, r2, q⟩
theorem Rel.freeze {X : Cx} {W : Own} {H : Hp} {σ : St} {ρ : Ro} {i : Nat} {ds : List D} (r : Rel X W H σ ρ) (e : ρ[i]? = some (some (.own ds))) : Rel X (W.drop i) H σ (ρ.set i (some (.val (.lst true ds)))) := by
 obtain ⟨a, vs, oa, sa, ha, hds⟩ := r.ownL i ds e
 have il : i < σ.length := (zAF.mp sa).1
 have hl' : i < ρ.length := (zAF.mp e).1
 have nb : ¬ (W.drop i).bad true a := fun z => by
  rcases z with z | ⟨j, z⟩ | ⟨_, z⟩
  rotate_right
  ·exact (r.kn i a oa).2.1.2 z
  ·exact (r.kn i a oa).2.1.1 z
  ·have z' : (if j = i then none else W.O j) = some a := z
   by_cases ej : j = i
   ·rw [if_pos ej] at z'; cases z'
   ·rw [if_neg ej] at z'; exact ej (r.inj j i a z' oa)
 have hd : Den X.K (W.drop i).bad H (.lst true ds) (.ref a) := Den.lst nb (.new ha (r.kn i a oa).1) (hds.fewer fun _ _ => Own.drop_bad)
 refine ⟨fun j x h => ?_, fun j x h => ?_, fun j k b h1 h2 => ?_, fun j b h1 => ?_, fun j b h1 => ?_, r.bt, r.st, r.ent, r.tab⟩
 ·by_cases hj : j = i
  ·subst hj
   rw [zAt hl'] at h
   cases h
   exact ⟨.ref a, sa, hd⟩
  ·rw [zAe (Ne.symm hj)] at h
   obtain ⟨w, h1, h2⟩ := r.val j x h
   exact ⟨w, h1, h2.fewer fun _ _ => Own.drop_bad⟩
 ·by_cases hj : j = i
  ·subst hj
   rw [zAt hl'] at h; cases h
  ·rw [zAe (Ne.symm hj)] at h
   obtain ⟨b, ws, h1, h2, h3, h4⟩ := r.own j x h
   exact ⟨b, ws, by show (if j = i then none else W.O j) = _; rw [if_neg hj]; exact h1, h2, h3, h4.fewer (fun _ _ => Own.drop_bad) (Own.drop_sub il)⟩
 ·have h1' : (if j = i then none else W.O j) = some b := h1
  have h2' : (if k = i then none else W.O k) = some b := h2
  by_cases e1 : j = i
  ·rw [if_pos e1] at h1'; cases h1'
  ·by_cases e2 : k = i
   ·rw [if_pos e2] at h2'; cases h2'
   ·rw [if_neg e1] at h1'
    rw [if_neg e2] at h2'
    exact r.inj j k b h1' h2'
 ·have h1' : (if j = i then none else W.O j) = some b := h1
  by_cases e1 : j = i
  ·rw [if_pos e1] at h1'; cases h1'
  ·rw [if_neg e1] at h1'
   exact r.kn j b h1'
 ·have h1' : (if j = i then none else W.O j) = some b := h1
  by_cases e1 : j = i
  ·rw [if_pos e1] at h1'; cases h1'
  ·rw [if_neg e1] at h1'
   exact r.ke j b h1'
def ni (i : Nat) (t : DS) : DS := fun E ρ => ∃ ds, ρ[i]? = some (some (.own ds)) /\ t E (ρ.set i (some (.val (.lst true ds))))
theorem b9 {sts : List Stmt} {t : DS} (i : Nat) (h : b5 X sts t) : b5 X sts (ni i t) := by
 intro pins s σ H W ρ E I r hq
 obtain ⟨ds, e, hq⟩ := hq
 exact thn (h pins s σ H (W.drop i) _ E I (r.freeze e) hq) fun _ _ z => z.up (Fwd.drop W H i)
end
def dg (env : Env) (ns : List Str) : List (Str × Addr) := ns.filterMap fun n => (env.cells.lookup n).map fun c => (n, c)
theorem iX {env : Env} : ∀ {ns : List Str} {x : Str} {c : Addr}, (dg env ns).lookup x = some c -> env.cells.lookup x = some c
 | [], _, _, h => by cases h
 | n :: r, x, c, h => by
  unfold dg at h
  rw [zBo] at h
  cases e : env.cells.lookup n with
  | none =>
   rw [e] at h
   exact iX (ns := r) h
  | some c' =>
   rw [e] at h
   have h' : List.lookup x ((n, c') :: dg env r) = some c := h
   rw [zA6] at h'
   cases q : x == n with
   | true =>
    rw [q] at h'
    have ex : x = n := by simpa using q
    subst ex
    rw [e]
    exact h'
   | false =>
    rw [q] at h'
    exact iX (ns := r) h'
theorem ly {env : Env} : ∀ {ns : List Str} {x : Str} {c : Addr}, x ∈ ns -> env.cells.lookup x = some c -> (dg env ns).lookup x = some c
 | [], _, _, h, _ => by cases h
 | n :: r, x, c, h, e => by
  unfold dg
  rw [zBo]
  by_cases ex : x = n
  ·subst ex
   rw [e]
   show List.lookup x ((x, c) :: _) = some c
   simp [zA6]
  ·have h' : x ∈ r := by
    rcases zAN.mp h with z | z
    ·exact absurd z ex
    ·exact z
   have ih := ly (ns := r) h' e
   cases q : env.cells.lookup n with
   | none => exact ih
   | some c' =>
    show List.lookup x ((n, c') :: dg env r) = some c
    rw [zA6]
    have : (x == n) = false := by simpa using ex
    rw [this]
    exact ih
structure CSc (osc sc : Scope) (xs ns : List Str) : Prop where
 kind : sc.kind = .function
 nocell : ∀ y ∈ sc.names, y.2 ≠ .cell
 names : ∀ y ∈ sc.names, y.2 = .local -> sc.names.lookup y.1 = some .local
 tgt : ∀ x ∈ xs, sc.names.lookup x = some .local
 free : ∀ y ∈ sc.names, y.2 = .free -> y.1 ∈ ns /\ osc.names.lookup y.1 = some .cell
 cells : ∀ n ∈ ns, sc.names.lookup n = some .free /\ osc.names.lookup n = some .cell
 nd : (xs ++ ns).Nodup
def aU (X : Cx) (sc : Scope) (ns xs : List Str) (C : Addr) (s₂ : Shared) (H₂ : Hp) (fp : List Addr) (XE : Value -> Shared -> Prop) : Cx :=
 { X with N := xs ++ ns, s₀ := s₂, H₀ := H₂, env := compEnvC sc (dg X.env ns) C X.env, outer := X.stack, stack := X.stack, ex := fp, fn := fun _ => false, pn := [], xe := XE }
theorem iK {env : Env} (hk : env.scope.kind = .function) : ∀ {names : List (Str × NameKind)} {n : Str}, names.lookup n = some .free -> env.kindOf n = some .cell →
  (names.map fun (n, k) => if (k == NameKind.free && env.scope.kind == .function && env.kindOf n == some .cell) then (n, NameKind.cell) else (n, k)).lookup n = some .cell
 | [], _, h, _ => by simp at h
 | (m, k) :: r, n, h, hc => by
  have ih := @iK env hk r n
  show List.lookup n ((if (k == NameKind.free && env.scope.kind == .function && env.kindOf m == some .cell) = true then (m, NameKind.cell) else (m, k)) :: _) = _
  cases hx : n == m with
  | true =>
   simp only [zA6, hx] at h
   cases h
   have e : n = m := by simpa using hx
   subst e
   rw [hk, hc]
   simp [zA6]
  | false =>
   simp only [zA6, hx] at h
   by_cases hcc : (k == NameKind.free && env.scope.kind == .function && env.kindOf m == some .cell) = true
   ·rw [if_pos hcc]; simp only [zA6, hx]; exact ih h hc
   ·rw [if_neg hcc]; simp only [zA6, hx]; exact ih h hc
theorem h8 {env : Env} : ∀ {names : List (Str × NameKind)} {n : Str} {k : NameKind},
  (names.map fun (n, k) => if (k == NameKind.free && env.scope.kind == .function && env.kindOf n == some .cell) then (n, NameKind.cell) else (n, k)).lookup n = some k -> (k = .cell ∨ k = .free) →
  (∃ y ∈ names, y.1 = n /\ y.2 = .free) ∨ ∃ y ∈ names, y.1 = n /\ y.2 = .cell
 | [], _, _, h, _ => by simp at h
 | (m, j) :: r, n, k, h, hk => by
  have h' : List.lookup n ((if (j == NameKind.free && env.scope.kind == .function && env.kindOf m == some .cell) = true then (m, NameKind.cell) else (m, j)) :: (r.map fun (n, k) => if (k == NameKind.free && env.scope.kind == .function && env.kindOf n == some .cell) then (n, NameKind.cell) else (n, k))) = some k := h
  have up : ((∃ y ∈ r, y.1 = n /\ y.2 = .free) ∨ ∃ y ∈ r, y.1 = n /\ y.2 = .cell) -> ((∃ y ∈ (m, j) :: r, y.1 = n /\ y.2 = .free) ∨ ∃ y ∈ (m, j) :: r, y.1 = n /\ y.2 = .cell) := fun z => by
   rcases z with ⟨y, hy, q⟩ | ⟨y, hy, q⟩
   ·exact .inl ⟨y, zAI _ hy, q⟩
   ·exact .inr ⟨y, zAI _ hy, q⟩
  cases hx : n == m with
  | true =>
   have e : n = m := by simpa using hx
   subst e
   by_cases hcc : (j == NameKind.free && env.scope.kind == .function && env.kindOf n == some .cell) = true
   ·have : j = .free := by
     simp only [zAj] at hcc
     exact beq_iff_eq.mp hcc.1.1
    exact .inl ⟨(n, j), zAK, rfl, this⟩
   ·rw [if_neg hcc] at h'
    simp only [zA6, hx] at h'
    cases h'
    rcases hk with hk | hk
    ·exact .inr ⟨(n, j), zAK, rfl, hk⟩
    ·exact .inl ⟨(n, j), zAK, rfl, hk⟩
  | false =>
   by_cases hcc : (j == NameKind.free && env.scope.kind == .function && env.kindOf m == some .cell) = true
   ·rw [if_pos hcc] at h'; simp only [zA6, hx] at h'
    exact up (h8 h' hk)
   ·rw [if_neg hcc] at h'; simp only [zA6, hx] at h'
    exact up (h8 h' hk)
end PD
namespace PD
open PySem PySem.Spec PyProof.Rows L2
def bG (ρ : Ro) (j : Nat) : Option Sl := match ρ[j]? with
 | some (some (.val d)) => some (.val d)
 | _ => none
def hU (σ : St) (j : Nat) : Option V := match σ[j]? with
 | some (some v) => some v
 | _ => none
section
variable {X : Cx} {pins : List (Addr × Obj)} {σ : St} {H : Hp} {s : Shared} {sc : Scope} {ns : List Str} {js : List Nat} {xs : List Str} {fp : List Addr}
theorem Inv.comp {XE : Value -> Shared -> Prop} {s₁ : Shared} {H₁ : Hp} {C : Addr} (I : Inv X pins σ H s) (S : CSc X.env.scope sc xs ns) (hj : js.length = ns.length /\ ∀ (i : Nat) (j : Nat) (n : Str), js[i]? = some j -> ns[i]? = some n -> X.N[j]? = some n) (hfp : ∀ b ∈ fp, dF X pins H b) (hfo : ∀ b ∈ fp, ∃ o, s.heap.get? b = some o) (hC : s.heap.objs.size <= C)
  (hos : s₁.os = s.os) (hg : AllBare s₁.gens) (hk : ∀ b o, s.heap.get? b = some o -> s₁.heap.get? b = some o) (hns : s₁.heap.Ns C fun _ => none) (hCn : H₁ C = none) (hs : aj H H₁) (hnew : ∀ b o, s.heap.get? b = some o -> H b = none -> H₁ b = none) (hok : HOk X.prog X.w H₁ s₁.heap) :
  Inv (aU X sc ns xs C s H fp XE) [] (List.replicate xs.length none ++ js.map (hU σ)) H₁ s₁ := by
 have kd : X.env.scope.kind = .function := I.ok.kind
 have cab : ∀ y c, (dg X.env ns).lookup y = some c -> X.env.cells.lookup y = some c := fun y c e => iX e
 have cold : ∀ y c, (dg X.env ns).lookup y = some c -> ∃ v, s.heap.IsCell c v := fun y c e => I.cell y c (cab y c e)
 refine ⟨⟨I.ok.mod, S.kind, I.ok.glob, I.ok.blt, hC, fun y z c h1 h2 => I.ok.inj y z c (cab y c h1) (cab z c h2), fun y hy => ?_, fun y c h _ => (by cases h), I.ok.hd, I.ok.frames, .inl rfl, fun b hb => ?_, I.bs, zAX I.ok.bsz I.sz, fun b o e hb => ?_, fun b hb z => ?_, I.stack, I.stkFree⟩,
  hos, hg, ⟨fun b o e n _ _ => hk b o e, fun b o e n _ _ => ⟨o.slots, hk b o e⟩, fun b o e n _ => hnew b o e n, fun b o e _ => ⟨o, hk b o e⟩, fun b xs e => hs b _ e, fun b o u e => hs b _ e, fun b ps e => hs.tb b ps e⟩, ⟨_, hns, fun i y v h1 h2 h3 => ?_⟩, fun y c e => ?_, hCn, fun y c e => ?_, fun p hp => absurd (show p ∈ ([] : List (Addr × Obj)) from hp) (by simp), hok, ?_⟩
 ·-- every cell of the block is one of the body's
  have hy' : ∃ k, ((relabel sc X.env).names.lookup y = some k) /\ (k = .cell ∨ k = .free) := by
   rcases hy with hy | hy
   ·exact ⟨_, hy, .inl rfl⟩
   ·exact ⟨_, hy, .inr rfl⟩
  obtain ⟨k, h1, h2⟩ := hy'
  rcases h8 (env := X.env) h1 h2 with ⟨z, hz, e1, e2⟩ | ⟨z, hz, e1, e2⟩
  ·obtain ⟨m1, m2⟩ := S.free z hz e2
   subst e1
   obtain ⟨c, hc⟩ := I.ok.has z.1 (.inl m2)
   exact ⟨c, ly m1 hc⟩
  ·exact absurd e2 (S.nocell z hz)
 ·refine ⟨fun z => ?_, fun y c e z => ?_⟩
  ·have z' : b = C := z
   obtain ⟨o, ho⟩ := hfo b hb
   have hlt := zAJ ho
   rw [z'] at hlt
   exact absurd (zAS hlt hC) (zBG _)
  ·exact (hfp b hb).2.2.2.2.1 y c (cab y c e) z
 ·obtain ⟨f0, f1, f2, f3, f4, f5⟩ := hfp b hb
  rcases f3 with f3 | f3
  ·exact I.ok.noex b o e f3
  ·exact absurd (zAS (zAJ (I.ok.bs b o e).1) f3) (zBG _)
 ·obtain ⟨f0, f1, f2, f3, f4, f5⟩ := hfp b hb
  rcases zAN.mp (I.stkSub b z) with e | e
  ·exact f1 e
  ·exact f2 e
 ·by_cases hi : i < xs.length
  ·rw [zAa (by simpa using hi), zBX, if_pos hi] at h2
   cases h2
  ·have h1' : ns[i - xs.length]? = some y := by
    have h1 : (xs ++ ns)[i]? = some y := h1
    rw [zAM (by omega)] at h1
    exact h1
   have h2' : (js.map (hU σ))[i - xs.length]? = some (some v) := by
    rw [zAM (by simpa using hi)] at h2
    simpa using h2
   generalize i - xs.length = i at h1' h2'
   rw [zAO] at h2'
   cases e : js[i]? with
   | none => rw [e] at h2'; cases h2'
   | some j =>
    rw [e] at h2'
    have h4 : hU σ j = some v := zAd h2'
    have h5 : σ[j]? = some (some v) := by
     unfold hU at h4
     split at h4
     ·rename_i u q
      cases h4
      exact q
     ·cases h4
    have hN := hj.2 i j y e h1'
    have mem : y ∈ ns := zAV h1'
    obtain ⟨c1, c2⟩ := S.cells y mem
    obtain ⟨m, hm, hl⟩ := I.loc
    obtain ⟨u, ru, lk⟩ := hl j y v hN h5 (.inr (.inl c2))
    refine ⟨u, ru, ?_⟩
    rcases lk with ⟨k1, _⟩ | ⟨_, c, e1, o, ho, hd⟩
    ·have k1' : X.env.scope.names.lookup y = some .local := k1
     rw [c2] at k1'; cases k1'
    ·exact .inr ⟨.inl (iK kd c1 c2), c, ly mem e1, o, hk c o ho, hd⟩
 ·obtain ⟨v, z⟩ := cold y c e
  obtain ⟨o, ho, hd⟩ := z
  exact ⟨v, o, hk c o ho, hd⟩
 ·obtain ⟨v, o, ho, hd⟩ := cold y c e
  exact hnew c o ho (I.freeC y c (cab y c e))
 ·show (List.replicate xs.length none ++ js.map (hU σ)).length = (xs ++ ns).length
  simp [hj.1]
def TsD (X : Cx) (ifs : List Expr) (t : DT) : Prop :=
 ∀ (pins : List (Addr × Obj)) (s : Shared) (σ : St) (H : Hp) (W : Own) (ρ : Ro) (Q : Bool -> Prop), Inv X pins σ H s -> Rel X W H σ ρ -> t ρ Q →
  wpAny (model X.prog X.w) X.A (forIn ifs true fun c r => if r = true then do let ok ← isTrue c X.env (eval c X.env); pure (ForInStep.yield ok) else pure (ForInStep.yield r)) (DTP X pins σ H Q) X.xe s
def nc : DT := fun _ Q => Q true
theorem gH {X : Cx} : TsD X [] nc := fun _ s σ H W ρ Q I r h => wpAny_tests_nil ⟨H, I, aj.refl H, h⟩
theorem mV {X : Cx} {c : Expr} {t : DT} (h : PTD X c t) : TsD X [c] t := fun pins s σ H W ρ Q I r q => wpAny_tests_one (h pins s σ H W ρ Q I r q)
def pE (n : Nat) (cap ρ : Ro) : Prop := ∃ r0 : Ro, r0.length = n /\ ρ = r0 ++ cap
theorem vt {prog : Program} {w : World} {A : Around} {s : Shared} {R : Result -> Shared -> Prop} {elt target iter : Expr} {ifs : List Expr} {scope : Scope} {pos : Pos} {it acc : Value} {env : Env} (I : Nat -> Shared -> Prop)
  (turn : ∀ n s, I n s -> wpAny (model prog w) A (pyNext it) (fun r s₁ => match r with
   | none => R (.ok .next) s₁
   | some v => wpAny (model prog w) A (letOwnedTupleGo target it v) (fun _ z₁ => wpAny (model prog w) A (assign target env v) (fun _ s₂ =>
     wpAny (model prog w) A (forIn ifs true fun c r => if r = true then do let ok ← isTrue c env (eval c env); pure (ForInStep.yield ok) else pure (ForInStep.yield r)) (fun ok s₃ => if ok = true then wpAny (model prog w) A (eval elt env) (fun x s₄ =>
       wpAny (model prog w) A (call (.builtin "list.append") [acc, x]) (fun _ s₅ => ∃ m, m < n /\ I m s₅) (notedBy (model prog w) A env fun e z => R (.error e) z) s₄) (notedBy (model prog w) A env fun e z => R (.error e) z) s₃
      else ∃ m, m < n /\ I m s₃) (notedBy (model prog w) A env fun e z => R (.error e) z) s₂) (notedBy (model prog w) A env fun e z => R (.error e) z) z₁) (notedBy (model prog w) A env fun e z => R (.error e) z) s₁) (notedBy (model prog w) A env fun e z => R (.error e) z) s)
  (n : Nat) (h : I n s) : codeAny (model prog w) A (.compLoop (.ListComp elt [⟨target, iter, ifs, 0⟩] scope pos) 0 it acc env) R s := by
 refine codeAny_loop rfl I (fun m z hI => ?_) n h
 show wpAny _ A ((compTurn (.ListComp elt [⟨target, iter, ifs, 0⟩] scope pos) 0 it acc env).onRaise (fun e => do noteFrame e env; theTreesLotGoes e)) _ _ z
 refine wpAny_noted ?_
 rw [compTurn_list]
 refine wpAny_bind (wpAny_standAt (wpAny_bind (wpAny_mono (turn m z hI) (fun r z1 g1 => ?_) fun _ _ q => q)))
 cases r with
 | none => exact wpAny_pure g1
 | some v =>
  refine wpAny_bind (wpAny_mono g1 (fun _ z2 g2 => ?_) fun _ _ q => q)
  refine wpAny_bind (wpAny_mono g2 (fun _ z3 g3 => wpAny_bind (wpAny_mono g3 (fun ok z4 g4 => ?_) fun _ _ q => q)) fun _ _ q => q)
  cases ok with
  | false => exact wpAny_pure ⟨rfl, g4⟩
  | true => exact wpAny_bind (wpAny_bind (wpAny_mono g4 (fun y z5 g5 => wpAny_bind (wpAny_mono g5 (fun _ z6 g6 => wpAny_pure (wpAny_pure ⟨rfl, g6⟩)) fun _ _ q => q)) fun _ _ q => q))
theorem Rel.mutB {X : Cx} {W : Own} {H : Hp} {σ : St} {ρ : Ro} {a : Addr} {vs vs' : List V} (r : Rel X W H σ ρ) (hB : W.B a) (ha : H a = some (.lst vs)) (h0 : X.H₀ a = none) :
  Rel X W (L2.upd H a (.lst vs')) σ ρ /\ ∀ ds us, af X.K W.bad H ds us -> af X.K W.bad (L2.upd H a (.lst vs')) ds us := by
 have noT : ∀ b ws, SqT X.K H b ws -> SqT X.K (L2.upd H a (.lst vs')) b ws := fun b ws q => by
  rcases q with (q | ⟨o, q⟩) | q
  ·exact .inl (.inl (by rw [ay (cR q ha (by intro z; cases z))]; exact q))
  ·exact .inl (.inr ⟨o, by rw [ay (cR q ha (by intro z; cases z))]; exact q⟩)
  ·exact .inr q
 have noL : ∀ t b ws, ¬ W.bad t b -> SqG X.K H t b ws -> ¬ W.bad t b /\ SqG X.K (L2.upd H a (.lst vs')) t b ws := fun t b ws n q => by
  have hne : b ≠ a := fun e => n (.inl (e ▸ hB))
  refine ⟨n, ?_, fun z => ⟨by rw [ay hne]; exact (q.2 z).1, (q.2 z).2⟩⟩
  rcases q.1 with (q | ⟨o, q⟩) | q
  ·exact .inl (.inl (by rw [ay hne]; exact q))
  ·exact .inl (.inr ⟨o, by rw [ay hne]; exact q⟩)
  ·exact .inr q
 have noX : ∀ b φ, H b = some (.ext φ) -> L2.upd H a (.lst vs') b = some (.ext φ) := fun b φ q => by rw [ay (cR q ha (by intro z; cases z))]; exact q
 have tr : ∀ b o, H b = some o -> ∃ o', L2.upd H a (.lst vs') b = some o' := fun b o q => by
  by_cases hba : b = a
  ·subst hba; exact ⟨_, aC⟩
  ·exact ⟨o, by rw [ay hba]; exact q⟩
 refine ⟨⟨fun j d h => ?_, fun j y h => ?_, r.inj, fun j b hb => ?_, r.ke, fun b hb => let ⟨o, q⟩ := r.bt b hb; tr b o q, fun b hb => let ⟨o, q⟩ := r.st b hb; tr b o q, r.ent.ins h0 ha True.intro True.intro, r.tab.upd True.intro (.inr ⟨_, ha, (fun _ z => by cases z), True.intro⟩)⟩, af.map noT noL noX⟩
 ·obtain ⟨v, h1, h2⟩ := r.val j d h
  exact ⟨v, h1, Den.map noT noL noX d v h2⟩
 ·obtain ⟨b, o, h1, h2, h3, h4⟩ := r.own j y h
  exact ⟨b, o, h1, h2, by rw [ay (fun e => (r.kn j b h1).2.1.1 (by rw [e]; exact hB))]; exact h3, h4.map (af.map noT noL noX) fun k c q => ⟨q, fun us z => by rw [ay (fun e => (r.kn _ c q).2.1.1 (by rw [e]; exact hB))]; exact z⟩⟩
 ·obtain ⟨k1, k2, o, k3, k4⟩ := r.kn j b hb
  exact ⟨k1, k2, o, by rw [ay (fun e => k2.1 (by rw [e]; exact hB))]; exact k3, k4⟩
def dN (X : Cx) (sc : Scope) (ns : List Str) (RR : Value -> Addr -> Result -> Shared -> Prop) (D C : Addr) : Value -> Shared -> Prop := notedBy (model X.prog X.w) X.A (compEnvC sc (dg X.env ns) C X.env) fun e s'' => RR (.ref D) C (.error e) s''
theorem eO.no {X : Cx} : eO X fun _ => False := fun _ _ _ _ _ _ _ _ _ _ h => by
 obtain ⟨_, _, _, _, _, _, _, _, _, _, _, _, _, z⟩ := h
 exact z.elim
theorem lT {elt iter tg : Expr} {ifs : List Expr} {pos : Pos} {g : DG} {te : DE} {tc : DT} {W : Own} {ρ : Ro} {J : It} {it : Addr} {tn : Nat -> Heap -> Prop} {ds : List D} {E : Value -> Shared -> Prop} {RR : Value -> Addr -> Result -> Shared -> Prop} (hc : X.calm = true) (S : CSc X.env.scope sc xs ns)
  (hj : js.length = ns.length /\ ∀ (i : Nat) (j : Nat) (n : Str), js[i]? = some j -> ns[i]? = some n -> X.N[j]? = some n)
  {Ed : Value -> Prop} (he : ∀ (C : Addr) (s₂ : Shared) (H₂ : Hp) (fp : List Addr) (XE : Value -> Shared -> Prop), eO (aU X sc ns xs C s₂ H₂ fp XE) Ed -> PED (aU X sc ns xs C s₂ H₂ fp XE) elt te) (ht : ∀ (C : Addr) (s₂ : Shared) (H₂ : Hp) (fp : List Addr) (XE : Value -> Shared -> Prop), eO (aU X sc ns xs C s₂ H₂ fp XE) Ed -> TsD (aU X sc ns xs C s₂ H₂ fp XE) ifs tc)
  (hx : ∀ D C : Addr, eO (aU X sc ns xs C s H fp (dN X sc ns RR D C)) Ed) (I : Inv X pins σ H s) (r : Rel X W H σ ρ) (hg : ∀ (C : Addr) (s₂ : Shared) (H₂ : Hp) (fp : List Addr) (XE : Value -> Shared -> Prop), PGD (aU X sc ns xs C s₂ H₂ fp XE) tg g) (T : Turn X.prog X.w X.K tg J fp it tn) (st : tn 0 s.heap) (hfp : ∀ b ∈ fp, dF X pins H b) (yd : YD X.K W H J ds) (hz : ds.length <= sizeLine)
  (Pv : Nat -> List D -> Prop) (p0 : Pv 0 []) (step : ∀ j d out ρ1, ds[j]? = some d -> Pv j out -> pE xs.length (js.map (bG ρ)) ρ1 -> g d ρ1 fun ρ2 => pE xs.length (js.map (bG ρ)) ρ2 /\ tc ρ2 fun b => if b = true then te ρ2 (fun e => Pv (j + 1) (out ++ [e])) else Pv (j + 1) out)
  (hRR : ∀ (D C : Addr) (s' : Shared) (H' : Hp) (m' : Str -> Option Value) (out : List PD.D), Inv X pins σ H' s' -> aj H H' -> s'.heap.Ns C m' -> H' C = none -> C ≠ X.env.locals -> X.s₀.heap.objs.size <= C -> (∀ y c, X.env.cells.lookup y = some c -> c ≠ C) -> (∀ p ∈ X.pn ++ pins, p.1 ≠ C) →
   (H D = none /\ X.K.lookup D = none /\ ∃ vs, H' D = some (.lst vs) /\ af X.K (fun t b => W.bad t b ∨ b = D) H' out vs) -> Pv ds.length out -> RR (.ref D) C (.ok .next) s') :
  wpAny (model X.prog X.w) X.A (newList []) (fun acc s₃ => wpAny (model X.prog X.w) X.A (newFunctionEnv sc X.env.globals (dg X.env ns) [] X.env.qual none .none (some X.env)) (fun cenv s₄ =>
   codeAny (model X.prog X.w) X.A (.compStart (.ListComp elt [⟨tg, iter, ifs, 0⟩] sc pos) 0 (.ref it) acc { cenv with scope := relabel sc X.env }) (RR acc cenv.locals) s₄) E s₃) E s := by
 refine wpAny_newObj_type (wpAny_newFunctionEnv S.nocell (by intro y hy; simp at hy) (fun h₁ hns₁ hsb₁ => ?_) S.kind)
 dsimp only at hns₁ hsb₁ ⊢
 generalize hH2 : s.heap.push { cls := .type "list", dict := none, data := .seq ([] : List Value).toArray } = HP at hns₁ hsb₁ ⊢
 have hC : HP.objs.size = s.heap.objs.size + 1 := by rw [<- hH2, Heap.size_push]
 have hDC : s.heap.objs.size ≠ HP.objs.size := by rw [hC]; exact zAk (Nat.lt_succ_self _)
 have hCle : s.heap.objs.size <= HP.objs.size := by rw [hC]; exact Nat.le_succ _
 have below : ∀ b, b < s.heap.objs.size -> b ≠ HP.objs.size := fun b hb => by rw [hC]; exact zAk (Nat.lt_succ_of_lt hb)
 have old : ∀ b o, s.heap.get? b = some o -> h₁.get? b = some o := fun b o e => hsb₁.extBut b o (below b (zAJ e)) (zAB _ (hH2 ▸ zAB _ e))
 have hacc : h₁.get? s.heap.objs.size = some { cls := .type "list", data := .seq ([] : List Value).toArray } := hsb₁.extBut _ _ hDC (zAB _ (hH2 ▸ zAL _ rfl))
 generalize eD : s.heap.objs.size = D at hDC hacc
 generalize eC : HP.objs.size = C at *
 have hDf : H D = none := by rw [<- eD]; exact I.hok.fresh (zAE _)
 have hKD : X.K.lookup D = none := by rw [<- eD]; exact Inv.kfresh I
 have hCf : H C = none := I.hok.fresh hCle
 have hfo : ∀ b ∈ fp, ∃ o, s.heap.get? b = some o := fun b hb => let ⟨o, e, _⟩ := T.obj 0 s.heap st b hb; ⟨o, e⟩
 have leD : s.heap.objs.size <= D := zBb eD
 have okk : HOk X.prog X.w (L2.upd H D (.lst [])) h₁ := I.hok.laid old leD ⟨zAi _, [], 0, .nil, hacc⟩
 have upCD : ∀ o, L2.upd H D o C = none := fun o => by rw [ay (Ne.symm hDC)]; exact hCf
 have I1 : Inv (aU X sc ns xs C s H fp (dN X sc ns RR D C)) [] (List.replicate xs.length none ++ js.map (hU σ)) (L2.upd H D (.lst [])) { s with heap := h₁, toks := s.toks + ([] : List (Str × Value)).length } :=
  Inv.comp I S hj hfp hfo hCle rfl I.bare old hns₁ (upCD _) (aj.upd hDf) (fun b o e n => by rw [ay (fun z => absurd (zAJ e) (by rw [z]; exact zBU.mpr leD))]; exact n) okk
 have nl : ∀ {a : Addr} {ws : List V}, SqL X.K H a ws -> a ≠ D := fun {a ws} q z => by
  subst z
  rcases q with (q | ⟨o, q⟩) | ⟨o, its, n, q, _⟩
  ·rw [hDf] at q; cases q
  ·rw [hDf] at q; cases q
  ·rw [hKD] at q; cases q
 let W' : Own := ⟨fun a => W.bad false a ∨ a = D, fun _ => none, W.S⟩
 have bad' : ∀ t a, W'.bad t a ↔ (W.bad t a ∨ a = D) := fun t a => ⟨fun z => by
  rcases z with (z | z) | ⟨_, q⟩ | ⟨z1, z2⟩
  ·exact .inl (Own.bad_up z)
  ·exact .inr z
  ·cases q
  ·exact .inl (.inr (.inr ⟨z1, z2⟩)), fun z => by
  rcases z with z | z
  ·rcases z with z | z | z
   ·exact .inl (.inl (.inl z))
   ·exact .inl (.inl (.inr (.inl z)))
   ·exact .inr (.inr z)
  ·exact .inl (.inr z)⟩
 have hT : ∀ {H' : Hp}, aj H H' -> ∀ a vs, SqT X.K H a vs -> SqT X.K H' a vs := fun sm a vs q => SqT.same sm q
 have hL : ∀ {H' : Hp}, aj H H' -> ∀ t a vs, ¬ W.bad t a -> SqG X.K H t a vs -> ¬ W'.bad t a /\ SqG X.K H' t a vs := fun sm t a vs n q => ⟨fun z => ((bad' t a).mp z).elim n (nl q.1), q.same sm⟩
 have relC : Rel (aU X sc ns xs C s H fp (dN X sc ns RR D C)) W' (L2.upd H D (.lst [])) (List.replicate xs.length none ++ js.map (hU σ)) (List.replicate xs.length none ++ js.map (bG ρ)) := by
  have sm : aj H (L2.upd H D (.lst [])) := aj.upd hDf
  have at_ : ∀ {i : Nat} {z : Sl}, (List.replicate xs.length none ++ js.map (bG ρ))[i]? = some (some z) -> ¬ i < xs.length /\ (js.map (bG ρ))[i - xs.length]? = some (some z) := fun {i z} h => by
   by_cases hi : i < xs.length
   ·rw [zAa (by simpa using hi), zBX, if_pos hi] at h
    cases h
   ·rw [zAM (by simpa using hi)] at h
    exact ⟨hi, by simpa using h⟩
  refine ⟨fun i d h => ?_, fun i x h => ?_, fun i j a h _ => (by cases h), fun i a h => (by cases h), fun i a h => (by cases h), fun a h => ?_, fun a h => ?_, sm, r.tab.same sm⟩
  ·obtain ⟨hi, h'⟩ := at_ h
   rw [zAO] at h'
   cases e : js[i - xs.length]? with
   | none => rw [e] at h'; cases h'
   | some j =>
    rw [e] at h'
    have h4 : bG ρ j = some (.val d) := zAd h'
    have h5 : ρ[j]? = some (some (.val d)) := by
     unfold bG at h4
     split at h4
     ·rename_i u q
      cases h4
      exact q
     ·cases h4
    obtain ⟨v, e1, e2⟩ := r.val j d h5
    refine ⟨v, ?_, Den.map (hT sm) (hL sm) (fun a _ q => sm a _ q) d v e2⟩
    rw [zAM (by simpa using hi)]
    show (js.map (hU σ))[i - (List.replicate xs.length (none : Option V)).length]? = some (some v)
    rw [List.length_replicate, zAO, e]
    show some (hU σ j) = some (some v)
    unfold hU
    rw [e1]
  ·obtain ⟨hi, h'⟩ := at_ h
   rw [zAO] at h'
   cases e : js[i - xs.length]? with
   | none => rw [e] at h'; cases h'
   | some j =>
    rw [e] at h'
    have h4 : bG ρ j = some (.ob x) := zAd h'
    unfold bG at h4
    split at h4 <;> cases h4
  ·rcases h with h | h
   ·obtain ⟨o, q⟩ := r.tracked false a h
    exact sm.ex q
   ·rw [h]; exact ⟨_, aC⟩
  ·obtain ⟨o, q⟩ := r.st a h
   exact sm.ex q
 have statC : ∀ {H' : Hp}, (∀ b ∈ fp, H' b = none) -> ∀ b ∈ fp, dF (aU X sc ns xs C s H fp (dN X sc ns RR D C)) [] H' b := fun hn b hb => by
  obtain ⟨f0, f1, f2, f3, f4, f5⟩ := hfp b hb
  obtain ⟨o, ho⟩ := hfo b hb
  refine ⟨hn b hb, fun z => ?_, fun z => ?_, .inl hb, fun y c e z => f4 y c (iX e) z, fun p hp => absurd (show p ∈ ([] : List (Addr × Obj)) from hp) (by simp)⟩
  ·have z' : b = C := z
   have hlt := zAJ ho
   rw [z'] at hlt
   exact absurd (zAS hlt hCle) (zBG _)
  ·rcases zAN.mp (I.stkSub b z) with e | e
   ·exact f1 e
   ·exact f2 e
 have hch : ∀ b ∈ fp, (b ∈ X.ex ∨ X.s₀.heap.objs.size <= b) /\ b ≠ X.env.locals /\ (∀ x c, X.env.cells.lookup x = some c -> c ≠ b) /\ ∀ p ∈ X.pn ++ pins, p.1 ≠ b := fun b hb => by
  obtain ⟨f0, f1, f2, f3, f4, f5⟩ := hfp b hb
  exact ⟨f3, f1, f4, f5⟩
 have loop : ∀ s₃ : Shared, s₃ = { s with heap := h₁, toks := s.toks + ([] : List (Str × Value)).length } →
   codeAny (model X.prog X.w) X.A (.compLoop (.ListComp elt [⟨tg, iter, ifs, 0⟩] sc pos) 0 (.ref it) (.ref D) (compEnvC sc (dg X.env ns) C X.env)) (RR (.ref D) C) s₃ := by
  rintro s₃ rfl
  refine vt (fun n s' => ∃ (i : Nat) (W2 : Own) (σ2 : St) (ρ2 : Ro) (H' : Hp) (out : List PD.D) (vs : List V), n = ds.length - i /\ i <= ds.length /\ Inv (aU X sc ns xs C s H fp (dN X sc ns RR D C)) [] σ2 H' s' /\ tn i s'.heap /\ (∀ b ∈ fp, H' b = none) ∧
   H' D = some (.lst vs) /\ (W2.B = W'.B /\ W2.S = W'.S) /\ af X.K W2.bad H' out vs /\ aj H H' /\ Rel (aU X sc ns xs C s H fp (dN X sc ns RR D C)) W2 H' σ2 ρ2 /\ pE xs.length (js.map (bG ρ)) ρ2 /\ Pv i out /\ out.length <= i) ?_ ds.length
   ⟨0, W', _, _, _, [], [], by simp, zAi _, I1, T.keep 0 s.heap h₁ st (fun b hb o e => old b o e), fun b hb => ?_, aC, ⟨rfl, rfl⟩, af.nil, aj.upd hDf, relC, ⟨_, by simp, rfl⟩, p0, zAE _⟩
  rotate_left
  ·obtain ⟨o, ho⟩ := hfo b hb
   rw [ay (fun z => absurd (zAJ ho) (by rw [z]; exact zBU.mpr leD))]
   exact (hfp b hb).1
  rintro n s3 ⟨i, W2, σ2, ρ2, H3, out, vs, en, hle, I3, st3, fr3, hD3, hW2, hds3, sm3, rl3, cap3, p3, ol⟩
  have nb2 : ∀ {W3 : Own} {H' : Hp} {σ3 : St} {ρ3 : Ro}, (W3.B = W'.B /\ W3.S = W'.S) -> Rel (aU X sc ns xs C s H fp (dN X sc ns RR D C)) W3 H' σ3 ρ3 -> aj H H' -> ∀ t a vs, ¬ W.bad t a -> SqG X.K H t a vs -> ¬ W3.bad t a /\ SqG X.K H' t a vs := fun {W3 H' σ3 ρ3} hw rl sm t a vs n q => by
   refine ⟨fun z => ?_, q.same sm⟩
   rcases z with z | ⟨k, z⟩ | ⟨z1, z2⟩
   ·rw [hw.1] at z
    exact (hL sm t a vs n q).1 (.inl z)
   ·have h0 : H a = none := rl.ke k a z
    rcases q.1 with (q1 | ⟨o, q1⟩) | ⟨o, its, m, q1, _⟩
    ·rw [h0] at q1; cases q1
    ·rw [h0] at q1; cases q1
    ·have kk : X.K.lookup a = none := (rl.kn k a z).1
     rw [kk] at q1; cases q1
   ·rw [hw.2] at z2
    exact (hL sm t a vs n q).1 (.inr (.inr ⟨z1, z2⟩))
  obtain ⟨yg, yy, ys⟩ := yd W2.bad H3 (hT sm3) (nb2 hW2 rl3 sm3) (fun a _ q => sm3 a _ q) i
  by_cases hlt : i < ds.length
  ·refine thn (T.item (aU X sc ns xs C s H fp (dN X sc ns RR D C)) rfl rfl rfl hc i [] s3 _ H3 _ I3 (statC fr3) st3 (yg hlt)) fun rr s4 ⟨u, hr, h4⟩ => ?_
   subst hr
   refine thn h4 fun _ s5 ⟨x5, H5, I5, r5, y5, st5, fr5⟩ => ?_
   obtain ⟨e5, d, hd, hden⟩ := yy x5 H5 y5 hlt
   have I5' := I5.pinned (statC fr5) (T.obj _ _ st5)
   have rl5 := rl3.same e5
   have sm5 : aj H H5 := sm3.trans e5
   refine wpAny_mono (hg C s H fp _ _ s5 σ2 H5 W2 ρ2 d x5 u _ I5' rl5 r5 hden (step i d out ρ2 hd p3 cap3)) (fun _ s6 ⟨W6, σ6, H6, ρ6, I6, f6, rl6, cap6, q6⟩ => ?_) (fun _ _ z => z)
   have hW6 : W6.B = W'.B /\ W6.S = W'.S := ⟨f6.B.trans hW2.1, f6.S.trans hW2.2⟩
   have sm6 : aj H H6 := ⟨fun b o e n => f6.kp b o (fun k z => by have h0 : H b = none := rl5.ke k b z; rw [e] at h0; cases h0) (sm5.kp b o e n) n, (fun b ps e => by obtain ⟨m1, e1⟩ := sm5.tb b ps e; obtain ⟨m2, e2⟩ := f6.tb b _ e1; exact ⟨m1 ++ m2, by rw [e2, zCB]⟩), fun h => f6.ok (sm5.ok h)⟩
   have BD : W'.B D := .inr rfl
   have hD6 : H6 D = some (.lst vs) := f6.keep D _ (fun k z => (rl5.kn k D z).2.1.1 (by rw [hW2.1]; exact BD)) (e5 _ _ hD3)
   have hds6 := af.fwd rl5 rl6 f6 (hds3.same e5)
   have keepT : ∀ {σ7 : St} {H7 : Hp} {s7 : Shared}, Inv (aU X sc ns xs C s H fp (dN X sc ns RR D C)) ([] ++ mK fp s5.heap) σ7 H7 s7 -> tn (i + 1) s7.heap /\ ∀ b ∈ fp, H7 b = none := fun {σ7 H7 s7} I7 => by
    refine ⟨T.keep _ _ _ st5 fun b hb o e => (I7.pin (b, o) (zAm _ (zAm _ (fN hb e)))).1, fun b hb => ?_⟩
    obtain ⟨o, e, _⟩ := T.obj _ _ st5 b hb
    exact (I7.pin (b, o) (zAm _ (zAm _ (fN hb e)))).2.1
   refine wpAny_mono (ht C s H fp _ (hx D C) _ s6 _ H6 W6 _ _ I6 rl6 q6) (fun b s7 ⟨H7, I7, e7, q7⟩ => ?_) (fun _ _ z => z)
   cases b with
   | false =>
    rw [if_neg zAQ] at q7
    rw [if_neg zAQ]
    obtain ⟨t7, f7⟩ := keepT I7
    exact ⟨ds.length - (i + 1), by omega, i + 1, W6, σ6, ρ6, H7, out, vs, rfl, hlt, I7.unpinned, t7, f7, e7 _ _ hD6, hW6, hds6.same e7, sm6.trans e7, rl6.same e7, cap6, q7, by omega⟩
   | true =>
    rw [if_pos rfl] at q7
    rw [if_pos rfl]
    refine wpAny_mono (he C s H fp _ (hx D C) _ s7 _ H7 W6 _ _ I7 (rl6.same e7) q7) (fun u8 s8 ⟨v8, H8, e8, I8, r8, sm8, hd8, q8⟩ => ?_) (fun _ _ z => z)
    have sm78 := e7.trans sm8
    have hD8 := sm78 _ _ hD6
    have hds8 := hds6.same sm78
    have rl8 := (rl6.same e7).same sm8
    have BD6 : W6.B D := by rw [hW6.1]; exact BD
    refine wpAny_mono (oB (X := aU X sc ns xs C s H fp (dN X sc ns RR D C)) _ s8 _ H8 (.ref D) [v8] (.ref D) [u8] (fun _ H' => H' = L2.upd H8 D (.lst (vs ++ [v8]))) I8 rfl (.cons r8 .nil) ⟨D, vs, v8, rfl, rfl, hD8, by rw [hds8.len]; omega, rfl⟩) (fun _ s9 ⟨v9, H9, I9, _, eH⟩ => ?_) (fun _ _ z => z)
    subst eH
    obtain ⟨t9, f9⟩ := keepT I9
    obtain ⟨rl9, dn9⟩ := rl8.mutB (vs' := vs ++ [v8]) BD6 hD8 hDf
    exact ⟨ds.length - (i + 1), by omega, i + 1, W6, σ6, ρ6, _, out ++ [e8], vs ++ [v8], rfl, hlt, I9.unpinned, t9, f9, aC, hW6, dn9 _ _ (hds8.append (af.one hd8)), (sm6.trans sm78).ins hDf hD8 True.intro True.intro, rl9, cap6, q8, by rw [zAR, List.length_singleton]; omega⟩
  ·have e : i = ds.length := by omega
   refine thn (T.done (aU X sc ns xs C s H fp (dN X sc ns RR D C)) rfl rfl rfl hc i [] s3 _ H3 _ I3 (statC fr3) st3 (ys (by omega))) fun rr s4 ⟨hr, I4⟩ => ?_
   subst hr
   subst e
   have Io : Inv X pins σ H3 s4 := I.call' I4.os I4.base I4.hok I4.bare hch
   obtain ⟨m, hm, _⟩ := I4.loc
   exact hRR D C s4 H3 m out Io sm3 hm I4.free (fun z => absurd I.lt (by rw [<- z]; exact zBU.mpr hCle)) (zAX I.sz hCle) (fun y c e z => by
    obtain ⟨v, q⟩ := I.cell y c e
    exact absurd q.lt (by rw [z]; exact zBU.mpr hCle)) (fun p hp z => absurd (zAJ (I.pin p hp).1) (by rw [z]; exact zBU.mpr hCle))
    ⟨hDf, hKD, _, hD3, hds3.fewer fun t a z => (by
     rcases (bad' t a).mpr z with q | ⟨k, q⟩ | q
     ·exact .inl (by rw [hW2.1]; exact q)
     ·cases q
     ·exact .inr (.inr ⟨q.1, by rw [hW2.2]; exact q.2⟩))⟩ p3
 exact codeAny_compStart_list (loop _ rfl) (T.self _ 0 _ _ _ (T.keep 0 s.heap h₁ st (fun b hb o e => old b o e)) (loop _ rfl))
theorem qt {X : Cx} {sc : Scope} {ns : List Str} {x : Str} {px : Pos} {C : Addr} {s₂ : Shared} {H₂ : Hp} {fp : List Addr} {XE : Value -> Shared -> Prop} (S : CSc X.env.scope sc [x] ns) : PGD (aU X sc ns [x] C s₂ H₂ fp XE) (.Name x px) (jX 0) :=
 have tl : (compEnvC sc (dg X.env ns) C X.env).scope.names.lookup x = some .local := lookup_relabel_local (S.tgt x (by simp))
 aJ (X := aU X sc ns [x] C s₂ H₂ fp XE) 0 S.nd rfl (.inl tl) (.inr tl)
theorem yN {ds : List D} {Pv : Nat -> List D -> Prop} {tc : DT} {te : DE} {cap : Ro} (step : ∀ j d out, ds[j]? = some d -> Pv j out -> tc (some (.val d) :: cap) fun b => if b = true then te (some (.val d) :: cap) (fun e => Pv (j + 1) (out ++ [e])) else Pv (j + 1) out) :
  ∀ j d out ρ1, ds[j]? = some d -> Pv j out -> pE 1 cap ρ1 -> jX 0 d ρ1 fun ρ2 => pE 1 cap ρ2 /\ tc ρ2 fun b => if b = true then te ρ2 (fun e => Pv (j + 1) (out ++ [e])) else Pv (j + 1) out := by
 rintro j d out ρ1 hd hp ⟨r0, hl, rfl⟩
 match r0, hl with
 | [a], _ => exact ⟨⟨[some (.val d)], rfl, rfl⟩, step j d out hd hp⟩
def iY (wi : DA) (js : List Nat) (tc : DT) (te : DE) : DE := fun ρ Q => wi ρ fun ds => ds.length <= sizeLine /\ ∃ Pv : Nat -> List D -> Prop, Pv 0 [] ∧
 (∀ j d out, ds[j]? = some d -> Pv j out -> tc (some (.val d) :: js.map (bG ρ)) fun b => if b = true then te (some (.val d) :: js.map (bG ρ)) (fun e => Pv (j + 1) (out ++ [e])) else Pv (j + 1) out) /\ ∀ out, Pv ds.length out -> Q (.lst true out)
def bj (N : List Str) (ns : List Str) (js : List Nat) : Prop := js.length = ns.length /\ ∀ (i : Nat) (j : Nat) (n : Str), js[i]? = some j -> ns[i]? = some n -> N[j]? = some n
theorem bj.nil {N : List Str} : bj N [] [] := ⟨rfl, fun i j n h => by simp at h⟩
theorem bj.cons {N ns : List Str} {js : List Nat} {n : Str} (j : Nat) (h : bj N ns js) (e : N[j]? = some n := by rfl) : bj N (n :: ns) (j :: js) := ⟨by simp [h.1], fun i j' m h1 h2 => by
 cases i with
 | zero => simp at h1 h2; subst h1 h2; exact e
 | succ i => exact h.2 i j' m (by simpa using h1) (by simpa using h2)⟩
variable {elt iter : Expr} {ifs : List Expr} {px pos : Pos} {te : DE} {tc : DT} {wi : DA} {x : Str}
theorem cP (hc : X.calm = true) (S : CSc X.env.scope sc [x] ns) (hj : bj X.N ns js) (hi : PID X (.Name x px) iter wi) (ht : ∀ (C : Addr) (s₂ : Shared) (H₂ : Hp) (fp : List Addr) (XE : Value -> Shared -> Prop), TsD (aU X sc ns [x] C s₂ H₂ fp XE) ifs tc)
  (he : ∀ (C : Addr) (s₂ : Shared) (H₂ : Hp) (fp : List Addr) (XE : Value -> Shared -> Prop), PED (aU X sc ns [x] C s₂ H₂ fp XE) elt te) (hclos : closureFor sc X.env = pure (dg X.env ns) := by rfl) (hs : ∀ x, foldedSetIterable iter X.env x = pure x := by intro _; rfl) :
  PED X (.ListComp elt [⟨.Name x px, iter, ifs, 0⟩] sc pos) (iY wi js tc te) := by
 intro pins s σ H W ρ Q I r h
 rw [eval_ListComp]
 refine wpAny_comprehension_free (use := none) rfl hs hclos S.kind S.names (thn (hi pins s σ H W ρ _ I r h) fun v s1 h1 => thn h1 fun itv s2 h2 => ?_)
 obtain ⟨it, fp, tn, J, H2, ds, e, I2, e2, T, st2, f2, yd, hz, Pv, p0, step, fin⟩ := h2
 subst e
 refine lT (RR := fun acc C => compPost (model X.prog X.w) X.A X.xe none (DP X pins σ W H Q) acc C) hc S hj (Ed := fun _ => False) (fun C s₂ H₂ fp XE _ => he C s₂ H₂ fp XE) (fun C s₂ H₂ fp XE _ => ht C s₂ H₂ fp XE) (fun _ _ => eO.no) I2 (r.same e2) (fun C s₂ H₂ fp XE => qt S) T st2 f2 yd hz Pv p0 (yN step) ?_
 intro D C s' H' m' out I' sm hns hCn hC1 hC2 hC3 hC4 ⟨hn, hk, vs, hD, hds⟩ pv
 have hden : Den X.K W.bad H' (.lst true out) (.ref D) := Den.lst ((r.same e2).fresh hn) (.new hD hk) (hds.fewer fun _ _ z => .inl z)
 refine ⟨m', hns, fun h' hsb => ?_⟩
 exact ⟨.ref D, H', _, I'.turned (t' := s'.toks) (fun b o hb e => (hsb.2 b hb).trans e) hCn hC1 (.inr hC2) hC3 hC4, rfl, e2.trans sm, hden, fin out pv⟩
theorem l5 {y : Str} {py spos : Pos} (i : Nat) (hN : X.N.Nodup) (hc : X.calm = true) (S : CSc X.env.scope sc [x] ns) (hj : bj X.N ns js) (hi : PID X (.Name x px) iter wi) (ht : ∀ (C : Addr) (s₂ : Shared) (H₂ : Hp) (fp : List Addr) (XE : Value -> Shared -> Prop), TsD (aU X sc ns [x] C s₂ H₂ fp XE) ifs tc)
  (he : ∀ (C : Addr) (s₂ : Shared) (H₂ : Hp) (fp : List Addr) (XE : Value -> Shared -> Prop), PED (aU X sc ns [x] C s₂ H₂ fp XE) elt te) (hy : X.N[i]? = some y := by rfl) (hly : X.env.scope.names.lookup y = some .local := by rfl) (hclos : closureFor sc X.env = pure (dg X.env ns) := by rfl) (hs : ∀ x, foldedSetIterable iter X.env x = pure x := by intro _; rfl)
  (hsw : swapsWith (.ListComp elt [⟨.Name x px, iter, ifs, 0⟩] sc pos) (some (.Name y py)) spos.line X.env = pure true := by rfl) :
  PSD X (.Assign [.Name y py] (.ListComp elt [⟨.Name x px, iter, ifs, 0⟩] sc pos) spos) (uq i (iY wi js tc te)) := by
 intro pins s σ H W ρ E I r h
 rw [exec_Assign_Name_used _ _ _ _ hsw]
 refine wpAny_bind (wpAny_standAt (wpAny_bind ?_))
 show wpAny _ X.A (do let _ ← comprehension (.ListComp elt [⟨.Name x px, iter, ifs, 0⟩] sc pos) sc X.env _ (newList []) false (eval iter X.env) (some (assign (.Name y py) X.env))) _ _ s
 refine wpAny_bind (wpAny_mono (wpAny_comprehension_free (use := some (assign (.Name y py) X.env)) (Q := fun _ s' => SPD X pins W H E .next s') rfl hs hclos S.kind S.names
  (thn (hi pins s σ H W ρ _ I r h) fun v s1 h1 => thn h1 fun itv s2 h2 => ?_)) (fun _ s' hq => wpAny_pure (wpAny_pure hq)) fun _ _ e => e)
 obtain ⟨it, fp, tn, J, H2, ds, e, I2, e2, T, st2, f2, yd, hz, Pv, p0, step, fin⟩ := h2
 subst e
 refine lT (RR := fun acc C => compPost (model X.prog X.w) X.A X.xe (some (assign (.Name y py) X.env)) (fun _ s' => SPD X pins W H E .next s') acc C) hc S hj (Ed := fun _ => False) (fun C s₂ H₂ fp XE _ => he C s₂ H₂ fp XE) (fun C s₂ H₂ fp XE _ => ht C s₂ H₂ fp XE) (fun _ _ => eO.no) I2 (r.same e2) (fun C s₂ H₂ fp XE => qt S) T st2 f2 yd hz Pv p0 (yN step) ?_
 intro D C s' H' m' out I' sm hns hCn hC1 hC2 hC3 hC4 ⟨hn, hk, vs, hD, hds⟩ pv
 have hden : Den X.K W.bad H' (.lst true out) (.ref D) := Den.lst ((r.same e2).fresh hn) (.new hD hk) (hds.fewer fun _ _ z => .inl z)
 have rr := (r.same e2).same sm
 show wpAny _ X.A (assign (.Name y py) X.env (.ref D)) _ _ _
 refine wpAny_assign_Name (oH (v := .ref D) I' hN hy (.inl hly) rfl (fun s3 I3 ⟨a, hsb, ha⟩ => ?_) (.inr hly))
 have hne : C ≠ a := by
  rcases ha with z | z
  ·rw [z]; exact hC1
  ·exact fun q => hC3 y a z q.symm
 refine ⟨m', hns.sameBut hsb hne, fun h' hsb' => ?_⟩
 refine ⟨W.drop i, _, H', I3.turned (t' := s3.toks) (fun b o hb e => (hsb'.2 b hb).trans e) hCn hC1 (.inr hC2) hC3 hC4, (Fwd.same (e2.trans sm)).trans (Fwd.drop W H' i), _, rr.put (Inv.ilt I' hy) hden, fin out pv⟩
end
section
variable {X : Cx} {pins : List (Addr × Obj)} {σ : St} {H : Hp} {s : Shared} {sc : Scope} {ns : List Str} {js : List Nat} {xs : List Str} {fp : List Addr}
variable {elt iter : Expr} {ifs : List Expr} {px pos : Pos} {te : DE} {tc : DT} {wi : DA} {x : Str}
end
def Ae (osc sc : Scope) (xs ns : List Str) : Bool :=
 decide (sc.kind = .function) && (sc.names.all fun y => decide (y.2 ≠ .cell)) && (sc.names.all fun y => decide (y.2 = .local -> sc.names.lookup y.1 = some .local)) && (xs.all fun x => decide (sc.names.lookup x = some .local)) &&
 (sc.names.all fun y => decide (y.2 = .free -> y.1 ∈ ns /\ osc.names.lookup y.1 = some .cell)) && (ns.all fun n => decide (sc.names.lookup n = some .free /\ osc.names.lookup n = some .cell)) && decide (xs ++ ns).Nodup
theorem bT {osc sc : Scope} {xs ns : List Str} (h : Ae osc sc xs ns = true) : CSc osc sc xs ns := by
 unfold Ae at h
 simp only [zAj] at h
 obtain ⟨⟨⟨⟨⟨⟨h1, h2⟩, h3⟩, h4⟩, h5⟩, h6⟩, h7⟩ := h
 exact ⟨of_decide_eq_true h1, fun y hy => of_decide_eq_true (zB1.mp h2 y hy), fun y hy => of_decide_eq_true (zB1.mp h3 y hy), fun x hx => of_decide_eq_true (zB1.mp h4 x hx), fun y hy => of_decide_eq_true (zB1.mp h5 y hy), fun n hn => of_decide_eq_true (zB1.mp h6 n hn), of_decide_eq_true h7⟩
end PD
namespace PD
open PySem PySem.Spec PyProof.Rows L2
inductive Nms : List Expr -> List Str -> Prop where
 | nil : Nms [] []
 | cons {x : Str} {p : Pos} {es : List Expr} {xs : List Str} (h : Nms es xs) : Nms (.Name x p :: es) (x :: xs)
section
variable {X : Cx} {sc : Scope} {ns xs : List Str} {js : List Nat}
variable {elt iter : Expr} {ifs es : List Expr} {kt : Nat} {tp pos : Pos} {te : DE} {tc : DT} {wi : DA}
end
end PD
namespace PD
open PySem PySem.Spec PyProof.Rows L2
theorem wc (k : Bool) (R : Int -> Prop) (S : Bool -> Prop) : ((∃ i : Int, [D.bl k] = [.int i] /\ R i) ∨ ∃ j : Bool, [D.bl k] = [.bl j] /\ S j) = S k := by
 apply propext
 constructor
 ·rintro (⟨_, e, _⟩ | ⟨_, e, q⟩)
  ·cases e
  ·cases e; exact q
 ·intro q; exact .inr ⟨k, rfl, q⟩
theorem AI (b : Bool) : okD (.bl b) := by unfold okD; rw [pyD, plD] <;> first | exact ⟨rfl, rfl⟩ | (intros; contradiction)
theorem qI (i : Int) : okD (.int i) = True := eq_true (tG i)
theorem tF (b : Bool) : okD (.bl b) = True := eq_true (AI b)
theorem qJ : okD .non = True := eq_true zv
theorem fV (i j : Int) : eqD (.int i) (.int j) = decide (i = j) := by
 unfold eqD
 rw [pyD, pyD]
 rfl
theorem qm (i j : Bool) : eqD (.bl i) (.bl j) = decide (i = j) := by
 unfold eqD
 rw [pyD, pyD]
 cases i <;> cases j <;> rfl
theorem wj (t : Bool) (xs : List D) (R : List D -> Prop) : (∃ t' ds, D.lst t xs = .lst t' ds /\ R ds) = R xs := by
 apply propext
 constructor
 ·rintro ⟨_, _, e, q⟩; cases e; exact q
 ·intro q; exact ⟨t, xs, rfl, q⟩
theorem sP (ds : List D) (r : Ro) (R : List D -> Prop) : (∃ ds', (some (Sl.own ds) :: r)[0]? = some (some (Sl.own ds')) /\ R ds') = R ds := by
 apply propext
 constructor
 ·rintro ⟨_, e, q⟩
  have e' : some (some (Sl.own ds)) = some (some (Sl.own _)) := e
  cases e'
  exact q
 ·intro q; exact ⟨ds, rfl, q⟩
theorem sQ (n : Nat) (x : Option Sl) (r : Ro) (R : List D -> Prop) : (∃ ds', (x :: r)[n + 1]? = some (some (Sl.own ds')) /\ R ds') = (∃ ds', r[n]? = some (some (Sl.own ds')) /\ R ds') := rfl
theorem vS (d : D) (r : Ro) : bG (some (.val d) :: r) 0 = some (.val d) := rfl
theorem vU (r : Ro) : bG (none :: r) 0 = none := rfl
theorem vT (n : Nat) (x : Option Sl) (r : Ro) : bG (x :: r) (n + 1) = bG r n := rfl
end PD
namespace PD
open PySem PySem.Spec PyProof.Rows L2
theorem dY {n : Nat} {t g : Int} (hg : g ≠ 0) (hd : g ∣ t) (h : Bd n t) : Bd n (t.fdiv g) := zCE (PM.kR hg hd) h
theorem vi {n : Nat} {x y z l : Int} (h : ¬ (x = 0 /\ y = 0 /\ z = 0)) (hx : Bd n x) (hy : Bd n y) (hz : Bd n z) : Bd n (PM.dv3 x y z l) := by
 unfold Bd at *
 rw [PM.nB]
 have d1 := zBE.mpr (PM.jW x y z)
 have d2 := zBE.mpr (PM.i6 x y z)
 have d3 := zBE.mpr (PM.i7 x y z)
 simp only [Int.natAbs_natCast] at d1 d2 d3
 by_cases h1 : x = 0
 ·by_cases h2 : y = 0
  ·have h3 : z ≠ 0 := fun e => h ⟨h1, h2, e⟩
   have := zBr (by omega) d3
   omega
  ·have := zBr (by omega) d2
   omega
 ·have := zBr (by omega) d1
  omega
theorem bO {a b c d : Int} (ha : Bd 200 a) (hb : Bd 200 b) (hc : Bd 200 c) (hd : Bd 200 d) : Bd 1000 (a * b - c * d) := ((ha.mul hb).sub (hc.mul hd)).mono (by decide)
def sg (n : Int) : Int := if 0 < n then 1 else if n < 0 then -1 else 0
def rk (a0 a1 a2 b0 b1 b2 : Int) : Int := if sg (a1 * b0 - b1 * a0) = 0 then sg (a2 * b0 - b2 * a0) else sg (a1 * b0 - b1 * a0)
structure Pl (n : Nat) (a b c : Int) : Prop where
 pos : 0 < a
 low : PM.g3 a b c = 1
 b0 : Bd n a
 b1 : Bd n b
 b2 : Bd n c
structure B6 (d : D) (b x y : Int) : Prop where
 ex : ∃ p q r, d = T3 p q r /\ Bd 4000 p /\ Bd 4000 q /\ Bd 4000 r /\ 0 < p /\ p * x = b * q /\ p * y = b * r /\ PM.g3 p q r = 1
end PD
namespace PZ
open PySem PySem.Spec PyProof.Rows
def SIt : Bool -> Heap -> Addr -> Addr -> Nat -> Prop
 | true, h, it, a, i => h.IsListIter it a i
 | false, h, it, a, i => h.IsTupleIter it a i
section
variable {k : Bool} {h h' : Heap} {it a b : Addr} {i : Nat} {xs : Array Value}
end
section
variable {prog : Program} {w : World} {A : Around} {E : Value -> Shared -> Prop} {s : Shared} {k : Bool} {it a : Addr} {i : Nat} {xs : Array Value}
end
structure Ap (z TI TO i1 i2 : Addr) : Prop where
 a1 : TI ≠ z
 a2 : TO ≠ z
 a3 : i1 ≠ z
 a4 : i2 ≠ z
 a5 : TI ≠ TO
 a6 : TI ≠ i1
 a7 : TI ≠ i2
 a8 : TO ≠ i1
 a9 : TO ≠ i2
 b1 : i1 ≠ i2
structure Out (z TO i1 i2 l : Addr) : Prop where
 c1 : l ≠ z
 c2 : l ≠ TO
 c3 : l ≠ i1
 c4 : l ≠ i2
structure ZSt (k1 k2 : Bool) (z TI TO i1 i2 l1 l2 : Addr) (i : Nat) (h : Heap) : Prop where
 z : IsZip h z TI TO .none
 ti : IsPair h TI (.ref i1) (.ref i2)
 to : ∃ a b, IsPair h TO a b
 s1 : SIt k1 h i1 l1 i
 s2 : SIt k2 h i2 l2 i
section
variable {prog : Program} {w : World} {A : Around} {E : Value -> Shared -> Prop} {s : Shared} {k1 k2 : Bool} {z TI TO i1 i2 l1 l2 : Addr} {i : Nat} {xs ys : Array Value}
end
section
variable {prog : Program} {w : World} {A : Around} {E : Value -> Shared -> Prop} {s : Shared} {k1 k2 : Bool} {l1 l2 : Addr} {xs ys : Array Value}
end
end PZ
namespace PD
open PySem PySem.Spec PyProof.Rows L2 PZ
section
variable {X : Cx} {pins : List (Addr × Obj)} {σ : St} {H : Hp} {s : Shared} {k : Bool} {a : Addr} {xs : List V}
end
def B4 : D -> Option (Bool × List D)
 | .lst _ ds => some (true, ds)
 | .tup ds => some (false, ds)
 | _ => none
section
variable {X : Cx}
end
end PD
namespace PD
open PySem PySem.Spec PyProof.Rows L2
def PEF (X : Cx) (e : Expr) (t : DA) : Prop :=
 ∀ (pins : List (Addr × Obj)) (s : Shared) (σ : St) (H : Hp) (W : Own) (ρ : Ro) (Q : List D -> Prop), Inv X pins σ H s -> Rel X W H σ ρ -> t ρ Q →
  wpAny (model X.prog X.w) X.A (eval e X.env) (fun u s' => ∃ a vs H' ds, u = .ref a /\ Inv X pins σ H' s' /\ aj H H' /\ H a = none /\ X.K.lookup a = none /\ H' a = some (.lst vs) /\ af X.K (fun t b => W.bad t b ∨ b = a) H' ds vs /\ Q ds) X.xe s
def xk (t : DA) : DE := fun ρ Q => t ρ fun ds => Q (.lst true ds)
section
variable {X : Cx} {e : Expr} {t : DA} {pos : Pos}
theorem PEF.ped (h : PEF X e t) : PED X e (xk t) := by
 intro pins s σ H W ρ Q I r hw
 refine thn (h pins s σ H W ρ _ I r hw) fun u s1 ⟨a, vs, H', ds, e, I1, sm, n, k, ha, hd, q⟩ => ?_
 subst e
 exact ⟨.ref a, H', _, I1, rfl, sm, Den.lst (r.fresh n) (.new ha k) (hd.fewer fun _ _ z => .inl z), q⟩
theorem PEF.of {te : TE} (h : PE X e te) (k : ∀ σ H W ρ Q, Rel X W H σ ρ -> t ρ Q -> te σ H fun v H' => ∃ a vs ds H1, v = .ref a /\ aj H H1 /\ H1 a = none /\ H' = L2.upd H1 a (.lst vs) /\ af X.K W.bad H1 ds vs /\ Q ds) (hK : ∀ pins σ H s a vs, Inv X pins σ H s -> H a = some (.lst vs) -> X.K.lookup a = none) : PEF X e t := by
 intro pins s σ H W ρ Q I r hw
 refine thn (h pins s σ H _ I (k σ H W ρ Q r hw)) fun u s1 ⟨v, H', I1, rv, a, vs, ds, H1, e, sm, n, eH, hd, q⟩ => ?_
 subst e eH
 cases rv
 exact ⟨a, vs, _, ds, rfl, I1, sm.trans (aj.upd n), sm.free n, hK _ _ _ _ a vs I1 aC, aC, af.apart n (hK _ _ _ _ a vs I1 aC) hd, q⟩
theorem Inv.kno {pins : List (Addr × Obj)} {σ : St} {H : Hp} {s : Shared} {a : Addr} {o : HO} (I : Inv X pins σ H s) (h : H a = some o) : X.K.lookup a = none := by
 cases e : X.K.lookup a with
 | none => rfl
 | some ob =>
  have := (I.bs a ob (I.ok.mod.kin a ob e)).2
  rw [h] at this
  cases this
end
mutual
def gf : D -> Bool
 | .tup ds => lN ds
 | .lst t ds => t && lN ds
 | _ => true
def lN : List D -> Bool
 | [] => true
 | d :: ds => gf d && lN ds
end
section
variable {K : PySem.W.Frag} {P P' : Bool -> Addr -> Prop} {H : Hp}
mutual
theorem Den.hard (k : ∀ a, P' true a -> P true a) : ∀ (d : D) (v : V), gf d = true -> Den K P H d v -> Den K P' H d v
 | .non, _, _, h => by simpa only [Den] using h
 | .bl _, _, _, h => by simpa only [Den] using h
 | .int _, _, _, h => by simpa only [Den] using h
 | .str _, _, _, h => by simpa only [Den] using h
 | .exc _, _, _, h => by simpa only [Den] using h
 | .lst t ds, _, n, h => by
  rw [gf, zAj] at n
  obtain ⟨n1, n2⟩ := n
  subst n1
  simp only [Den] at h ⊢
  obtain ⟨a, vs, e, p, q, r⟩ := h
  exact ⟨a, vs, e, fun z => p (k a z), q, af.hard k ds vs n2 r⟩
 | .tup ds, _, n, h => by
  rw [gf] at n
  simp only [Den] at h ⊢
  obtain ⟨a, vs, e, q, r⟩ := h
  exact ⟨a, vs, e, q, af.hard k ds vs n r⟩
theorem af.hard (k : ∀ a, P' true a -> P true a) : ∀ (ds : List D) (vs : List V), lN ds = true -> af K P H ds vs -> af K P' H ds vs
 | [], _, _, h => by simpa only [af] using h
 | d :: ds, _, n, h => by
  rw [lN, zAj] at n
  simp only [af] at h ⊢
  obtain ⟨v, r, e, h1, h2⟩ := h
  exact ⟨v, r, e, Den.hard k d v n.1 h1, af.hard k ds r n.2 h2⟩
end
end
def Own.soft (W : Own) (i : Nat) (a : Addr) : Own := ⟨W.B, fun j => if j = i then none else W.O j, fun b => W.S b ∨ b = a⟩
section
variable {X : Cx}
theorem Rel.soft {W : Own} {H : Hp} {σ : St} {ρ : Ro} {i : Nat} {ds : List D} (r : Rel X W H σ ρ) (e : ρ[i]? = some (some (.own ds))) : ∃ a, W.O i = some a /\ Rel X (W.soft i a) H σ (ρ.set i (some (.val (.lst false ds)))) /\ ∀ b, W.bad true b -> (W.soft i a).bad true b := by
 obtain ⟨a, vs, oa, sa, ha, hds⟩ := r.ownL i ds e
 have hl' : i < ρ.length := (zAF.mp e).1
 have hO : ∀ j b, (W.soft i a).O j = some b -> j ≠ i /\ W.O j = some b := fun j b h => by
  have h1 : (if j = i then none else W.O j) = some b := h
  by_cases z : j = i
  ·rw [if_pos z] at h1; cases h1
  ·rw [if_neg z] at h1; exact ⟨z, h1⟩
 have low : ∀ t b, (W.soft i a).bad t b -> W.bad t b := fun t b z => by
  rcases z with z | ⟨j, z⟩ | ⟨z1, z2⟩
  ·exact .inl z
  ·exact .inr (.inl ⟨j, (hO j b z).2⟩)
  ·rcases z2 with z2 | z2
   ·exact .inr (.inr ⟨z1, z2⟩)
   ·subst z2; exact .inr (.inl ⟨i, oa⟩)
 have nb : ¬ (W.soft i a).bad false a := fun z => by
  rcases z with z | ⟨j, z⟩ | ⟨z1, _⟩
  ·exact (r.kn i a oa).2.1.1 z
  ·exact (hO j a z).1 (r.inj j i a (hO j a z).2 oa)
  ·cases z1
 refine ⟨a, oa, ⟨fun j d h => ?_, fun j x h => ?_, fun j k b h1 h2 => r.inj j k b (hO j b h1).2 (hO k b h2).2, fun j b h => ?_, fun j b h => r.ke j b (hO j b h).2, r.bt, fun b h => ?_, r.ent, r.tab⟩, fun b z => ?_⟩
 ·by_cases hj : j = i
  ·subst hj
   rw [zAt hl'] at h
   cases h
   exact ⟨.ref a, sa, Den.lst nb (.any (SqL.of ha)) (hds.fewer low)⟩
  ·rw [zAe (Ne.symm hj)] at h
   obtain ⟨w, h1, h2⟩ := r.val j d h
   exact ⟨w, h1, h2.fewer low⟩
 ·by_cases hj : j = i
  ·subst hj
   rw [zAt hl'] at h; cases h
  ·rw [zAe (Ne.symm hj)] at h
   obtain ⟨b, ws, h1, h2, h3, h4⟩ := r.own j x h
   exact ⟨b, ws, by show (if j = i then none else W.O j) = _; rw [if_neg hj]; exact h1, h2, h3, h4.fewer low fun k c q => (by
    show (if vix σ.length j k = i then none else W.O (vix σ.length j k)) = _
    rw [if_neg (m5 (zAF.mp sa).1)]
    exact q)⟩
 ·obtain ⟨k1, ⟨k2, k3⟩, k4⟩ := r.kn j b (hO j b h).2
  refine ⟨k1, ⟨k2, fun z => z.elim k3 fun z => ?_⟩, k4⟩
  subst z
  exact (hO j b h).1 (r.inj j i b (hO j b h).2 oa)
 ·rcases h with h | h
  ·exact r.st b h
  ·subst h; exact ⟨_, ha⟩
 ·rcases z with z | ⟨j, z⟩ | ⟨_, z⟩
  ·exact .inl z
  ·by_cases hj : j = i
   ·subst hj
    rw [oa] at z
    cases z
    exact .inr (.inr ⟨rfl, .inr rfl⟩)
   ·exact .inr (.inl ⟨j, by show (if j = i then none else W.O j) = _; rw [if_neg hj]; exact z⟩)
  ·exact .inr (.inr ⟨rfl, .inl z⟩)
variable {e : Expr} {te : DE} {tt : DT} {ta : DA}
def ur (i : Nat) (t : DE) : DE := fun ρ Q => ∃ ds, ρ[i]? = some (some (.own ds)) /\ t (ρ.set i (some (.val (.lst false ds)))) fun d => gf d = true /\ Q d
def p5 (i : Nat) (t : DT) : DT := fun ρ Q => ∃ ds, ρ[i]? = some (some (.own ds)) /\ t (ρ.set i (some (.val (.lst false ds)))) Q
theorem sH (i : Nat) (h : PED X e te) : PED X e (ur i te) := by
 intro pins s σ H W ρ Q I r hw
 obtain ⟨ds, eo, hw⟩ := hw
 obtain ⟨a, oa, r', up⟩ := r.soft eo
 exact thn (h pins s σ H _ _ _ I r' hw) fun u s1 ⟨v, H', d, I1, rv, e1, hd, al, q⟩ => ⟨v, H', d, I1, rv, e1, Den.hard up d v al hd, q⟩
theorem yY (i : Nat) (h : PTD X e tt) : PTD X e (p5 i tt) := by
 intro pins s σ H W ρ Q I r hw
 obtain ⟨ds, eo, hw⟩ := hw
 obtain ⟨a, oa, r', up⟩ := r.soft eo
 exact h pins s σ H _ _ _ I r' hw
end
section
variable {X : Cx} {pos : Pos}
theorem af.set {K : PySem.W.Frag} {P : Bool -> Addr -> Prop} {H : Hp} {d : D} {v : V} (hd : Den K P H d v) : ∀ {ds : List D} {vs : List V} (j : Nat), af K P H ds vs -> af K P H (ds.set j d) (vs.set j v)
 | [], _, _, h => by simp only [af] at h; subst h; exact af.nil
 | x :: r, _, 0, h => by
  simp only [af] at h
  obtain ⟨u, w, rfl, h1, h2⟩ := h
  exact af.cons hd h2
 | x :: r, _, j + 1, h => by
  simp only [af] at h
  obtain ⟨u, w, rfl, h1, h2⟩ := h
  exact af.cons h1 (af.set hd j h2)
theorem af.take {K : PySem.W.Frag} {P : Bool -> Addr -> Prop} {H : Hp} : ∀ {ds : List D} {vs : List V} (n : Nat), af K P H ds vs -> af K P H (ds.take n) (vs.take n)
 | _, _, 0, _ => by simp only [List.take_zero]; exact af.nil
 | [], _, _ + 1, h => by simp only [af] at h; subst h; exact af.nil
 | x :: r, _, n + 1, h => by
  simp only [af] at h
  obtain ⟨u, w, rfl, h1, h2⟩ := h
  exact af.cons h1 (af.take n h2)
theorem af.drop {K : PySem.W.Frag} {P : Bool -> Addr -> Prop} {H : Hp} : ∀ {ds : List D} {vs : List V} (n : Nat), af K P H ds vs -> af K P H (ds.drop n) (vs.drop n)
 | _, _, 0, h => by simpa only [List.drop_zero] using h
 | [], _, _ + 1, h => by simp only [af] at h; subst h; exact af.nil
 | x :: r, _, n + 1, h => by
  simp only [af] at h
  obtain ⟨u, w, rfl, h1, h2⟩ := h
  exact af.drop n h2
def p4 (i : Nat) (tk te : DE) : DS := fun E ρ => ∃ ds, ρ[i]? = some (some (.own ds)) /\ te ρ fun d => tk ρ fun k => ∃ n j, k = .int n /\ ixN ds.length n = some j /\ E.nx (ρ.set i (some (.own (ds.set j d))))
theorem lB {x : Str} {k e : Expr} {tk te : DE} {px tp : Pos} (i : Nat) (hk : PED X k tk) (he : PED X e te) (hi : X.N[i]? = some x := by rfl) (hv : Vis X.env.scope x := by first | exact Or.inl rfl | exact Or.inr (Or.inl rfl) | exact Or.inr (Or.inr rfl))
  (hd : (x == ("__debug__" : Str)) = false := by decide) (hcd : (x == ("__classdict__" : Str)) = false := by decide)
  (ha : ∀ v, assign (.Subscript (.Name x px) k tp) X.env v = (do
   let ov ← holding [v] (eval (.Name x px) X.env)
   let iv ← holding [v, ov] (eval k X.env)
   standAt tp
   holding [v, ov, iv] (setItem ov iv v)
   release [v, ov, iv] []) := by intro _; rfl)
  (hs : swapsWithSole [.Subscript (.Name x px) k tp] e pos.line X.env = pure false := by rfl) (hw : swappedStores [.Subscript (.Name x px) k tp] e X.env = pure none := by rfl)
  (h1 : (assignEach [.Subscript (.Name x px) k tp] X.env).map (·.2) = [assign (.Subscript (.Name x px) k tp) X.env] := by rfl) : PSD X (.Assign [.Subscript (.Name x px) k tp] e pos) (p4 i tk te) := by
 intro pins s σ H W ρ E I r h
 obtain ⟨ds, eo, h⟩ := h
 refine wpAny_Assign_stores (thn (he pins s σ H W ρ _ I r h) fun u s1 ⟨v, H1, d, I1, r1, e1, hd1, q1⟩ => ?_) hs hw
 rw [h1]
 show wpAny _ _ (assign (.Subscript (.Name x px) k tp) X.env u) _ _ _
 rw [ha]
 have rr := r.same e1
 obtain ⟨a, _, oa, sa, _, _⟩ := rr.ownL i ds eo
 refine wpAny_bind (wpAny_holding (thn (cX hi hv hd hcd pins s1 σ H1 (fun o H' => H' = H1 /\ o = .ref a) I1 ⟨.ref a, sa, rfl, rfl⟩) fun ov s2 ⟨o, H2, I2, ro, eH, so⟩ => ?_))
 subst eH so
 refine wpAny_bind (wpAny_holding (thn (hk pins s2 σ H2 W ρ _ I2 rr q1) fun iv s3 ⟨kv, H3, kd, I3, r3, e3, hd3, q3⟩ => ?_))
 obtain ⟨n, j, ek, hj, q⟩ := q3
 subst ek
 have hz := hd3.int_
 subst hz
 have r4 := rr.same e3
 obtain ⟨a', vs, oa', sa', ha', hds⟩ := r4.ownL i ds eo
 rw [oa] at oa'
 cases oa'
 refine wpAny_bind (wpAny_standAt (wpAny_bind (wpAny_holding (thn (set_list pins s3 σ H3 (.ref a) (.int n) v ov iv u (fun H' => H' = L2.upd H3 a (.lst (vs.set j v))) I3 ro r3 r1 ⟨a, vs, n, j, rfl, rfl, ha', by rw [hds.len]; exact hj, rfl⟩) fun _ s4 ⟨H4, I4, e4⟩ => ?_))))
 subst e4
 obtain ⟨r5, f5⟩ := r4.mut eo oa sa ha' (af.set (hd1.same e3) j hds)
 exact wpAny_release ⟨W, σ, _, I4, (Fwd.same (e1.trans e3)).trans f5, _, r5, q⟩
end
end PD
namespace PD
open PySem PySem.Spec PyProof.Rows L2
section
variable {X : Cx} {pos : Pos}
variable {e : Expr} {te : DE} {p : Pos}
theorem dH {K : PySem.W.Frag} {P : Bool -> Addr -> Prop} {H : Hp} : ∀ {ns : List Int} {vs : List V}, af K P H (ns.map D.int) vs -> vs = ns.map V.int
 | [], _, h => by simpa only [zA8, af] using h
 | n :: r, _, h => by
  simp only [zAG, af] at h
  obtain ⟨v, w, rfl, h1, h2⟩ := h
  rw [h1.int_, dH h2]
  rfl
theorem Ac (hc : X.calm = true) : cF X (.builtin "sum") (fun ds Q => ∃ (t : Bool) (ns : List Int), ds = [.lst t (ns.map D.int)] /\ Q (.int ns.sum)) := by
 intro pins s σ H W ds vs us Q I tr r hd q
 obtain ⟨t, ns, e, q⟩ := q
 subst e
 obtain ⟨v, rfl, h1⟩ := kz hd
 obtain ⟨a, ws, ev, _, hq, hw⟩ := h1.lst_
 subst ev
 cases r with
 | cons r1 rr =>
  cases rr
  cases r1
  obtain ⟨its, rv, pl, _⟩ := I.list hq
  rw [dH hw] at rv
  have ia := intsAre_of rv
  obtain ⟨xs, ex⟩ := ia.allInts.items
  have hl : s.heap.IsList a (intItems xs) := by rw [<- ex]; exact pl.isList
  refine sum_intListG (I.ok.hd hc) hl fun h' tk t' kp => ?_
  have es : preSum (numAt xs) xs.size = ns.sum := by
   rw [preSum_eq, zAh (by simp), <- nums_intItems, <- ex, show its.toArray.toList = its from rfl, ia.numsOf]
  rw [es]
  exact ⟨.int ns.sum, H, _, I.kept kp, ⟨_, rfl⟩, aj.refl H, Den.int _, q⟩
def cutD (xs : List D) (lo hi : Option Int) : List D := (xs.drop (HT.sIx xs.length 0 lo)).take (HT.sIx xs.length xs.length hi - HT.sIx xs.length 0 lo)
theorem af.cut {K : PySem.W.Frag} {P : Bool -> Addr -> Prop} {H : Hp} {ds : List D} {vs : List V} (lo hi : Option Int) (h : af K P H ds vs) : af K P H (cutD ds lo hi) (m9 vs lo hi) := by
 unfold cutD m9
 rw [h.len]
 exact (h.drop _).take _
abbrev DO := Ro -> (Option Int -> Prop) -> Prop
def PDO (X : Cx) (e : Option Expr) (t : DO) : Prop :=
 ∀ (pins : List (Addr × Obj)) (s : Shared) (σ : St) (H : Hp) (W : Own) (ρ : Ro) (Q : Option Int -> Prop), Inv X pins σ H s -> Rel X W H σ ρ -> t ρ Q →
  wpAny (model X.prog X.w) X.A (evalPart e X.env) (fun u s' => ∃ o H', Inv X pins σ H' s' /\ IsPart u o /\ aj H H' /\ Q o) X.xe s
def iB : DO := fun _ Q => Q none
def uk (te : DE) : DO := fun ρ Q => te ρ fun d => ∃ i, d = .int i /\ Q (some i)
theorem sL : PDO X none iB := by
 intro pins s σ H W ρ Q I r h
 rw [evalPart_none]
 exact wpAny_pure ⟨none, H, I, .none, aj.refl H, h⟩
theorem nr (he : PED X e te) : PDO X (some e) (uk te) := by
 intro pins s σ H W ρ Q I r h
 rw [evalPart_some]
 refine thn (he pins s σ H W ρ _ I r h) fun u s1 ⟨v, H1, d, I1, rv, e1, hd, i, ed, q⟩ => ?_
 subst ed
 have z := hd.int_
 subst z
 obtain ⟨t, rfl⟩ := rv
 exact ⟨some i, H1, I1, .int i t, e1, q⟩
variable {lo hi st : Option Expr} {tl th ts : DO} {p2 : Pos}
theorem yq {Q : Value -> Shared -> Prop} {pins : List (Addr × Obj)} {s : Shared} {σ : St} {H : Hp} {W : Own} {ρ : Ro} {R : D -> Option Int -> Option Int -> Option Int -> Prop} (he : PED X e te) (hl : PDO X lo tl) (hh : PDO X hi th) (ht : PDO X st ts) (I : Inv X pins σ H s) (r : Rel X W H σ ρ)
  (h : te ρ fun d => tl ρ fun l => th ρ fun u => ts ρ fun k => R d l u k)
  (hk : ∀ (v : V) (vv vl vu vk : Value) (l u k : Option Int) (d : D) (sl : Addr) (H' : Hp) (s' : Shared), Inv X pins σ H' s' -> aj H H' -> RelV v vv -> Den X.K W.bad H' d v -> s'.heap.IsSliceOf sl vl vu vk -> IsPart vl l -> IsPart vu u -> IsPart vk k -> R d l u k →
   ∃ T id, typeLookup (.type T) "__getitem__" = pure (some (.builtin id)) /\ s'.TypeIs vv T /\ wpAny (model X.prog X.w) X.A (getItem vv (.ref sl)) Q X.xe s')
  (htail : ∀ vv sl, ∃ ops, subscripted (.Slice lo hi st p2) false vv sl = operate ops (getItem vv sl)) : wpAny (model X.prog X.w) X.A (eval (.Subscript e (.Slice lo hi st p2) pos) X.env) Q X.xe s := by
 refine Subscript_ (thn (he pins s σ H W ρ _ I r h) fun vv s1 ⟨v, H1, d, I1, rv, e1, hd, q1⟩ => ?_)
 have r1 := r.same e1
 refine wpAny_Slice (thn (hl pins s1 σ H1 W ρ _ I1 r1 q1) fun vl s2 ⟨l, H2, I2, pl, e2, q2⟩ => thn (hh pins s2 σ H2 W ρ _ I2 (r1.same e2) q2) fun vu s3 ⟨u, H3, I3, pu, e3, q3⟩ => thn (ht pins s3 σ H3 W ρ _ I3 ((r1.same e2).same e3) q3) fun vk s4 ⟨k, H4, I4, pk, e4, q4⟩ => ?_)
 have I5 : Inv X pins σ H4 { s4 with heap := s4.heap.push { cls := .type "slice", data := .fields #[vl, vu, vk] } } := I4.kept (t' := s4.toks) fun b ob q => zAB _ q
 obtain ⟨T, id, hT, ht', hg⟩ := hk v vv vl vu vk l u k d s4.heap.objs.size H4 _ I5 (e1.trans (e2.trans (e3.trans e4))) rv (hd.same (e2.trans (e3.trans e4))) (Heap.IsSliceOf.new ..) pl pu pk q4
 show wpAny (model X.prog X.w) X.A (subscriptTail e (.Slice lo hi st p2) vv (.ref s4.heap.objs.size)) Q X.xe _
 obtain ⟨ops, ho⟩ := htail vv (.ref s4.heap.objs.size)
 exact tail_any (ops := ops) ht' hT hg ho
def xp (te : DE) (tl th : DO) : DA := fun ρ Q => te ρ fun d => tl ρ fun l => th ρ fun u => ∃ t ds, d = .lst t ds /\ Q (cutD ds l u)
theorem rP {pins : List (Addr × Obj)} {s : Shared} {σ : St} {H H' : Hp} {W : Own} {v : V} {vv vl vu vk : Value} {l u k : Option Int} {tg : Bool} {ds : List D} {sl : Addr} (f : List V -> List V) (g : List D -> List D) (I : Inv X pins σ H' s) (r : Rel X W H' σ ρ) (sm : aj H H') (rv : RelV v vv) (hd : Den X.K W.bad H' (.lst tg ds) v) (hs : s.heap.IsSliceOf sl vl vu vk) (pl : IsPart vl l) (pu : IsPart vu u) (pk : IsPart vk k) (k0 : k ≠ some 0)
  (hp : ∀ its : List Value, ∃ g' : List Value -> List Value, slicePick its.toArray l u k = (g' its).toArray /\ ∀ vs, Vals vs its -> Vals (f vs) (g' its) /\ (f vs).length <= vs.length) (hg : ∀ vs, af X.K W.bad H' ds vs -> af X.K W.bad H' (g ds) (f vs)) {Q : List D -> Prop} (q : Q (g ds)) :
  ∃ T id, typeLookup (.type T) "__getitem__" = pure (some (.builtin id)) /\ s.TypeIs vv T /\ wpAny (model X.prog X.w) X.A (getItem vv (.ref sl)) (fun uu s' => ∃ a vs H'' ds, uu = .ref a /\ Inv X pins σ H'' s' /\ aj H H'' /\ H a = none /\ X.K.lookup a = none /\ H'' a = some (.lst vs) /\ af X.K (fun t b => W.bad t b ∨ b = a) H'' ds vs /\ Q ds) X.xe s := by
 obtain ⟨a, vs, ev, _, hq, hds⟩ := hd.lst_
 subst ev
 cases rv
 obtain ⟨its, rr, ht, hz⟩ := I.list hq
 have hlen := rr.length
 refine ⟨"list", _, slot_list_getitem.lookup, ht.isList.typeIs, ?_⟩
 refine wpAny_getItem_list_slice ht.isList hs pl pu pk k0 ?_ (by rw [zAP] <;> omega)
 obtain ⟨g', e, hv⟩ := hp its
 rw [e]
 obtain ⟨rv', hl'⟩ := hv vs rr
 have hf : H' s.heap.objs.size = none := I.hok.fresh (zAE _)
 refine ⟨s.heap.objs.size, f vs, _, g ds, rfl, I.laid (t' := s.toks) (o := .lst (f vs)) (fun b ob q => zAB _ q) (zAE _) ⟨zAX hl' hz, _, 0, rv', zAL _ rfl⟩, sm.trans (aj.upd hf), sm.free hf, Inv.kfresh I, aC, af.apart hf (Inv.kfresh I) (hg vs hds), q⟩
theorem qb (he : PED X e te) (hl : PDO X lo tl) (hh : PDO X hi th) : PEF X (.Subscript e (.Slice lo hi none p2) pos) (xp te tl th) := by
 intro pins s σ H W ρ Q I r h
 refine yq (st := none) (ts := iB) (R := fun d l u k => k = none /\ ∃ t ds, d = .lst t ds /\ Q (cutD ds l u)) he hl hh sL I r ?_ ?_ (fun _ _ => ⟨_, rfl⟩)
 ·have e1 : (fun d => tl ρ fun l => th ρ fun u => iB ρ fun k => k = none /\ ∃ t ds, d = D.lst t ds /\ Q (cutD ds l u)) = fun d => tl ρ fun l => th ρ fun u => ∃ t ds, d = D.lst t ds /\ Q (cutD ds l u) := by
   funext d
   congr 1
   funext l
   congr 1
   funext u
   exact propext ⟨fun z => z.2, fun z => ⟨rfl, z⟩⟩
  rw [e1]
  exact h
 ·intro v vv vl vu vk l u k d sl H' s' I' sm rv hd hs pl pu pk hR
  obtain ⟨ek, t, ds, ed, q⟩ := hR
  subst ek ed
  exact rP (fun vs => m9 vs l u) (fun ds => cutD ds l u) I' (r.same sm) sm rv hd hs pl pu pk (by simp) (fun its => ⟨fun its => (its.drop (HT.sIx its.length 0 l)).take (HT.sIx its.length its.length u - HT.sIx its.length 0 l), o3 its l u, fun vs rr => ⟨by unfold m9; rw [rr.length]; exact (rr.drop _).take _, rK vs l u⟩⟩) (fun vs hds => hds.cut l u) q
end
end PD
namespace PD
open PySem PySem.Spec PyProof.Rows L2
section
variable {prog : Program} {w : World} {A : Around} {E : Value -> Shared -> Prop} {s : Shared} {p q : Addr} {us ws : List Value} {Q : Value -> Shared -> Prop}
theorem BL (hp : s.heap.IsList p us.toArray) (hq : s.heap.IsList q ws.toArray) (hz : us.length + ws.length <= sizeLine)
  (h : Q (.ref s.heap.objs.size) { s with heap := s.heap.push { cls := .type "list", data := .seq (us ++ ws).toArray } }) : wpAny (model prog w) A (binaryOp .Add (.ref p) (.ref q)) Q E s := by
 obtain ⟨⟨c1, k1, x1, y1⟩, g1, g2, n1, g3⟩ := id hp
 obtain ⟨⟨c2, k2, x2, y2⟩, f1, f2, n2, f3⟩ := id hq
 simp only at g2 g3 f2 f3
 subst g2 g3 f2 f3
 refine concat_meets ⟨_, g1, rfl⟩ ⟨_, f1, rfl⟩ noFill_list_add seq_list_add PySem.F.slot_list_add PySem.F.entry_list_add (PySem.F.args_list_add_2 _ _) (list_addW p q us.toArray ws.toArray n1 n2 k1 k2 y1 y2 (by simpa using hz)) ⟨g1, f1, ?_⟩
 rw [show us.toArray ++ ws.toArray = (us ++ ws).toArray by simp]
 exact h
theorem BM (hp : IsTup s.heap p us.toArray) (hq : IsTup s.heap q ws.toArray) (hz : us.length + ws.length <= sizeLine) (h0 : us = [] -> Q (.ref q) s) (h1 : ws = [] -> Q (.ref p) s)
  (h : Q (.ref s.heap.objs.size) { s with heap := s.heap.push { cls := .type "tuple", data := .seq (us ++ ws).toArray } }) : wpAny (model prog w) A (binaryOp .Add (.ref p) (.ref q)) Q E s := by
 obtain ⟨⟨c1, k1, x1, y1⟩, g1, g2, n1, g3⟩ := id hp
 obtain ⟨⟨c2, k2, x2, y2⟩, f1, f2, n2, f3⟩ := id hq
 simp only at g2 g3 f2 f3
 subst g2 g3 f2 f3
 by_cases hv : us = []
 ·exact concat_meets ⟨_, g1, rfl⟩ ⟨_, f1, rfl⟩ noFill_tuple_add seq_tuple_add PySem.F.slot_tuple_add PySem.F.entry_tuple_add (PySem.F.args_tuple_add_2 _ _) (tuple_addW0 p q us.toArray ws.toArray n1 n2 k1 k2 y1 y2 (by simp [hv])) ⟨g1, f1, h0 hv⟩
 ·by_cases hw : ws = []
  ·exact concat_meets ⟨_, g1, rfl⟩ ⟨_, f1, rfl⟩ noFill_tuple_add seq_tuple_add PySem.F.slot_tuple_add PySem.F.entry_tuple_add (PySem.F.args_tuple_add_2 _ _) (tuple_addW1 p q us.toArray ws.toArray n1 n2 k1 k2 y1 y2 (by simpa using hv) (by simp [hw])) ⟨g1, f1, h1 hw⟩
  ·refine concat_meets ⟨_, g1, rfl⟩ ⟨_, f1, rfl⟩ noFill_tuple_add seq_tuple_add PySem.F.slot_tuple_add PySem.F.entry_tuple_add (PySem.F.args_tuple_add_2 _ _) (tuple_addW2 p q us.toArray ws.toArray n1 n2 k1 k2 y1 y2 (by simpa using hv) (by simpa using hw) (by simpa using hz)) ⟨g1, f1, ?_⟩
   rw [show us.toArray ++ ws.toArray = (us ++ ws).toArray by simp]
   exact h
end
section
variable {X : Cx} {pos : Pos}
def mL : RD2 := fun x y Q => match x, y with
 | .int i, .int j => Q (.int (i + j))
 | .tup xs, .tup ys => xs.length + ys.length <= sizeLine /\ Q (.tup (xs ++ ys))
 | .lst _ xs, .lst _ ys => xs.length + ys.length <= sizeLine /\ Q (.lst true (xs ++ ys))
 | _, _ => False
theorem pK (i j : Int) (Q : D -> Prop) : mL (.int i) (.int j) Q = Q (.int (i + j)) := rfl
theorem vh (xs ys : List D) (Q : D -> Prop) : mL (.tup xs) (.tup ys) Q = (xs.length + ys.length <= sizeLine /\ Q (.tup (xs ++ ys))) := rfl
theorem vg (t u : Bool) (xs ys : List D) (Q : D -> Prop) : mL (.lst t xs) (.lst u ys) Q = (xs.length + ys.length <= sizeLine /\ Q (.lst true (xs ++ ys))) := rfl
theorem zp {W : Own} {H : Hp} {t : Bool} {a : Addr} (tr : ∀ t a, W.bad t a -> ∃ o, H a = some o) (h : H a = none) : ¬ W.bad t a := fun z => by
 obtain ⟨o, q⟩ := tr _ _ z
 rw [h] at q
 cases q
theorem aP : OpD X (binaryOp .Add) mL := by
 intro pins s σ H W x y v u vv uu Q I tr rv ru hx hy q
 cases x <;> cases y <;> first | exact q.elim | skip
 ·exact AH pins s σ H W _ _ v u vv uu Q I tr rv ru hx hy ⟨_, _, rfl, rfl, q⟩
 ·rename_i xs ys
  obtain ⟨p, vs, e1, hq1, hd1⟩ := hx.tup_
  obtain ⟨p', vs', e2, hq2, hd2⟩ := hy.tup_
  subst e1 e2
  cases rv
  cases ru
  obtain ⟨its, r1, t1, _⟩ := I.tuple hq1
  obtain ⟨its', r2, t2, _⟩ := I.tuple hq2
  obtain ⟨hz, q⟩ := q
  have l1 := hd1.len
  have l2 := hd2.len
  have m1 := r1.length
  have m2 := r2.length
  have hz' : its.length + its'.length <= sizeLine := by omega
  have hf : H s.heap.objs.size = none := I.hok.fresh (zAE _)
  refine BM t1 t2 hz' (fun e => ?_) (fun e => ?_) ?_
  ·subst e
   have : vs = [] := zAx (by simpa using m1)
   subst this
   have : xs = [] := zAx (by simpa using l1.symm)
   subst this
   exact ⟨.ref p', H, _, I, rfl, aj.refl H, hy, q⟩
  ·subst e
   have : vs' = [] := zAx (by simpa using m2)
   subst this
   have : ys = [] := zAx (by simpa using l2.symm)
   subst this
   rw [zBC] at q
   exact ⟨.ref p, H, _, I, rfl, aj.refl H, hx, q⟩
  ·exact ⟨.ref s.heap.objs.size, L2.upd H s.heap.objs.size (.tup (vs ++ vs')), _, I.laid (t' := s.toks) (fun b u e => zAB _ e) (zAE _) ⟨by rw [zAR]; omega, its ++ its', r1.append r2, ⟨_, zAL _ rfl, rfl, _, rfl⟩⟩, rfl, aj.upd hf, Den.tup (SqT.of aC) ((hd1.append hd2).same (aj.upd hf)), q⟩
 ·obtain ⟨p, vs, e1, _, hq1, hd1⟩ := hx.lst_
  obtain ⟨p', vs', e2, _, hq2, hd2⟩ := hy.lst_
  subst e1 e2
  cases rv
  cases ru
  obtain ⟨its, r1, t1, _⟩ := I.list hq1
  obtain ⟨its', r2, t2, _⟩ := I.list hq2
  obtain ⟨hz, q⟩ := q
  have l1 := hd1.len
  have l2 := hd2.len
  have m1 := r1.length
  have m2 := r2.length
  have hf : H s.heap.objs.size = none := I.hok.fresh (zAE _)
  refine BL t1.isList t2.isList (by omega) ?_
  exact ⟨.ref s.heap.objs.size, L2.upd H s.heap.objs.size (.lst (vs ++ vs')), _, I.laid (t' := s.toks) (fun b u e => zAB _ e) (zAE _) ⟨by rw [zAR]; omega, its ++ its', 0, r1.append r2, zAL _ rfl⟩, rfl, aj.upd hf, Den.lst (zp tr hf) (.new aC (Inv.kfresh I)) ((hd1.append hd2).same (aj.upd hf)), q⟩
def okI (x : D) : Prop := okD x /\ (pyD x).depth < 64
def AX : RD2 := fun x y Q => okI x /\ okD y /\ ∃ ys, (y = .tup ys ∨ ∃ t, y = .lst t ys) /\ Q (.bl (ys.any fun z => eqD z x))
theorem pM (x : D) : ∀ ys : List D, (bP ys).any (fun y => PyData.eqv y (pyD x)) = ys.any fun z => eqD z x
 | [] => by rw [bP]; rfl
 | y :: r => by rw [bP, zB7, zB7, pM x r]; rfl
theorem sT {A : Around} {xs : List PyData} {d : PyData} (hd : d.depth < 64) (hu : A.units + 64 < cLine) : A.units + 1 + min (PyData.depthAll xs) d.depth < cLine := by
 have : min (PyData.depthAll xs) d.depth <= d.depth := Nat.min_le_right _ _
 omega
theorem yE (hu : X.A.units + 64 < cLine) : OpD X (compareOp .In) AX := by
 intro pins s σ H W x y v u vv uu Q I _ rv ru hx hy q
 obtain ⟨h1, h2, ys, e, q⟩ := q
 obtain ⟨as, ra⟩ := cH I x v vv hx rv h1.1.1
 obtain ⟨bs, rb⟩ := cH I y u uu hy ru h2.1
 have fin : DP X pins σ W H Q (.bool ((bP ys).any fun y => PyData.eqv y (pyD x))) s := by
  rw [pM]
  exact ⟨.bl _, H, _, I, rfl, aj.refl H, Den.bl _, q⟩
 rcases e with e | ⟨t, e⟩
 ·subst e
  have sh := h2.2
  rw [pyD] at rb sh
  exact SeqAt.in_tuple_reads rb ra (SeqAt.canLay_of_shaped sh) (SeqAt.canLay_of_shaped h1.1.2) (sT h1.2 hu) fin
 ·subst e
  have sh := h2.2
  rw [pyD] at rb sh
  exact SeqAt.in_list_reads rb ra (SeqAt.canLay_of_shaped sh) (SeqAt.canLay_of_shaped h1.1.2) (sT h1.2 hu) fin
theorem wb (x : D) (ys : List D) (Q : D -> Prop) : AX x (.tup ys) Q = (okI x /\ okD (.tup ys) /\ Q (.bl (ys.any fun z => eqD z x))) := by
 apply propext
 constructor
 ·rintro ⟨h1, h2, zs, e, q⟩
  rcases e with e | ⟨_, e⟩
  ·cases e; exact ⟨h1, h2, q⟩
  ·cases e
 ·rintro ⟨h1, h2, q⟩
  exact ⟨h1, h2, ys, .inl rfl, q⟩
theorem tH (i : Int) : okI (.int i) = True := eq_true ⟨tG i, by rw [pyD, PyData.depth]; decide⟩
end
def kwG {α : Type} (us ws : List α) : List α := match ws with
 | [w] => us ++ [w]
 | _ => []
theorem zd {vs zs : List V} {us ws : List Value} (r : Vals vs us) (rz : Vals zs ws) : Vals (kwG vs zs) (kwG us ws) := by
 cases rz with
 | nil => exact .nil
 | cons a b =>
  cases b with
  | nil => exact r.append (.cons a .nil)
  | cons c d => exact .nil
def fi (P : Program) (w : World) (K : PySem.W.Frag) (mg : Str -> Option Value) (base : Heap) (x : Str) (k : Nat) (ps : List Str) (kn : Str) (sp : DSp) : Prop :=
 ∃ f fd, aD P w K mg base (CX1 P w) k f fd ps (aE K sp) /\ mg x = some (.ref f) /\ PySem.W.keepIn K (.ref f) = true /\ Binds K fd ps [] /\ Binds K fd ps [.none] /\ ve K fd ps [kn] kwG kwG
theorem fi.full {P : Program} {w : World} {K : PySem.W.Frag} {mg : Str -> Option Value} {base : Heap} {x : Str} {k : Nat} {ps : List Str} {kn : Str} {sp : DSp} (h : fi P w K mg base x k ps kn sp) : Has P w K mg base x k ps sp := by
 obtain ⟨f, fd, F, hm, hk, hb, _⟩ := h
 exact ⟨f, fd, F, hm, hk, hb⟩
def PKD (X : Cx) (kws : List Keyword) (t : DA) : Prop :=
 ∀ (pos : Pos) (pins : List (Addr × Obj)) (s : Shared) (σ : St) (H : Hp) (W : Own) (ρ : Ro) (Q : List D -> Prop), Inv X pins σ H s -> Rel X W H σ ρ -> t ρ Q →
  wpAny (model X.prog X.w) X.A (evalAll ((backToKw pos (keywordEach kws X.env)).map (·.2))) (DAP X pins σ W H Q) X.xe s
section
variable {X : Cx} {k : Nat} {ps : List Str} {kn : Str} {sp : DSp} {x : Str} {p pos kpos : Pos} {e : Expr} {es : List Expr} {t tk : DA} {te : DE} {nm : Option Str} {kws : List Keyword}
theorem jR (h : fi X.prog X.w X.K X.mg X.base x k ps kn sp) (hr : bE k X.A) (ha : PAD X (e :: es) t) (hg : Gl X x := by rfl) (hdb : (x == ("__debug__" : Str)) = false := by decide)
  (he : starEach (e :: es) X.env = (false, eval e X.env) :: starEach es X.env := by rfl) (hpl : (backTo pos (starEach es X.env)).any (·.1) = false := by rfl) : PED X (.Call (.Name x p) (e :: es) [] pos) (lU sp [.non] t) := by
 obtain ⟨f, fd, F, hm, hk, _, hb, _⟩ := h
 exact p8 (dds := [.non]) (dsv := [.none]) F hr hg hm hk hb (.cons rfl .nil) (by intro d hd; simp at hd; subst hd; exact True.intro) yG ha hdb he hpl
end
end PD
namespace PD
open PySem PySem.Spec PyProof.Rows L2
def ft : Key -> D
 | .inl i => .int i
 | .inr x => .str x
section
variable {κ : Type} [DecidableEq κ] {K : PySem.W.Frag} {P : Bool -> Addr -> Prop} {H : Hp}
def bq (kvs : List (κ × D)) (k : κ) : Option D := (kvs.find? fun kv => decide (kv.1 = k)).map (·.2)
def putD (kvs : List (κ × D)) (k : κ) (d : D) : List (κ × D) := if (bq kvs k).isSome = true then kvs.map (fun kv => if kv.1 = k then (kv.1, d) else kv) else kvs ++ [(k, d)]
theorem uM (p : κ × D) (r : List (κ × D)) (k : κ) : bq (p :: r) k = if p.1 = k then some p.2 else bq r k := by
 unfold bq
 rw [zA2]
 by_cases e : p.1 = k
 ·rw [if_pos e, decide_eq_true e]; rfl
 ·rw [if_neg e, decide_eq_false e]
theorem lD : ∀ {kvs : List (κ × D)} {kws : List (κ × V)} {k : κ}, kws.map (·.1) = kvs.map (·.1) -> af K P H (kvs.map (·.2)) (kws.map (·.2)) -> match bq kvs k with | some d => ∃ v, bZ kws k = some v /\ Den K P H d v | none => bZ kws k = none
 | [], kws, k, e, _ => by
  have : kws = [] := by simpa using e
  subst this
  exact yt
 | p :: r, [], k, e, _ => by simp at e
 | p :: r, q :: s, k, e, h => by
  simp only [zAG, zAD] at e
  simp only [zAG, af] at h
  obtain ⟨v, u, e1, h1, h2⟩ := h
  simp only [zAD] at e1
  obtain ⟨e1, e2⟩ := e1
  subst e2
  rw [uM]
  by_cases z : p.1 = k
  ·rw [if_pos z, jB (e.1.trans z)]
   exact ⟨v, by rw [e1], h1⟩
  ·rw [if_neg z, jA (fun y => z (e.1.symm.trans y))]
   exact lD e.2 h2
theorem kE {kvs : List (κ × D)} {kws : List (κ × V)} {k : κ} {d : D} (e : kws.map (·.1) = kvs.map (·.1)) (h : af K P H (kvs.map (·.2)) (kws.map (·.2))) (l : bq kvs k = some d) : ∃ v, bZ kws k = some v /\ Den K P H d v := by
 have := lD (k := k) e h
 rw [l] at this
 exact this
theorem xQ {kvs : List (κ × D)} {kws : List (κ × V)} {k : κ} (e : kws.map (·.1) = kvs.map (·.1)) (h : af K P H (kvs.map (·.2)) (kws.map (·.2))) (l : bq kvs k = none) : bZ kws k = none := by
 have := lD (k := k) e h
 rw [l] at this
 exact this
theorem rA {kvs : List (κ × D)} {kws : List (κ × V)} {k : κ} (e : kws.map (·.1) = kvs.map (·.1)) (h : af K P H (kvs.map (·.2)) (kws.map (·.2))) : (bZ kws k).isSome = (bq kvs k).isSome := by
 cases l : bq kvs k with
 | none => rw [xQ e h l]; rfl
 | some d =>
  obtain ⟨v, q, _⟩ := kE e h l
  rw [q]; rfl
theorem qX : ∀ {kvs : List (κ × D)} {kws : List (κ × V)} {k : κ} {d : D} {v : V}, kws.map (·.1) = kvs.map (·.1) -> af K P H (kvs.map (·.2)) (kws.map (·.2)) -> Den K P H d v →
  (kws.map fun kv => if kv.1 = k then (kv.1, v) else kv).map (·.1) = (kvs.map fun kv => if kv.1 = k then (kv.1, d) else kv).map (·.1) /\ af K P H ((kvs.map fun kv => if kv.1 = k then (kv.1, d) else kv).map (·.2)) ((kws.map fun kv => if kv.1 = k then (kv.1, v) else kv).map (·.2))
 | [], kws, k, d, v, e, _, _ => by
  have : kws = [] := by simpa using e
  subst this
  exact ⟨rfl, af.nil⟩
 | p :: r, [], k, d, v, e, _, _ => by simp at e
 | p :: r, q :: s, k, d, v, e, h, hd => by
  simp only [zAG, zAD] at e
  simp only [zAG, af] at h
  obtain ⟨v', u, e1, h1, h2⟩ := h
  simp only [zAD] at e1
  obtain ⟨e1, e2⟩ := e1
  subst e2
  obtain ⟨i1, i2⟩ := qX (k := k) e.2 h2 hd
  rw [zAG, zAG, zAG, zAG, zAG, zAG]
  by_cases z : p.1 = k
  ·rw [if_pos z, if_pos (e.1.trans z)]
   exact ⟨by rw [i1, e.1], af.cons hd i2⟩
  ·rw [if_neg z, if_neg (fun y => z (e.1.symm.trans y))]
   exact ⟨by rw [i1, e.1], af.cons (by rw [e1]; exact h1) i2⟩
theorem tK {kvs : List (κ × D)} {kws : List (κ × V)} {k : κ} {d : D} {v : V} (e : kws.map (·.1) = kvs.map (·.1)) (h : af K P H (kvs.map (·.2)) (kws.map (·.2))) (hd : Den K P H d v) :
  (putK kws k v).map (·.1) = (putD kvs k d).map (·.1) /\ af K P H ((putD kvs k d).map (·.2)) ((putK kws k v).map (·.2)) := by
 unfold putK putD
 rw [eN, rA e h]
 by_cases z : (bq kvs k).isSome = true
 ·rw [if_pos z, if_pos z]
  exact qX e h hd
 ·rw [if_neg z, if_neg z, zAb, zAb, zAb, zAb, e]
  exact ⟨rfl, h.append (af.one hd)⟩
end
theorem nk {K : PySem.W.Frag} {P : Bool -> Addr -> Prop} {H : Hp} {k : Key} {v : V} (h : Den K P H (ft k) v) : v = kV k := by
 cases k with
 | inl i => exact h.int_
 | inr x => exact h.str_
theorem eZ {K : PySem.W.Frag} {P : Bool -> Addr -> Prop} {H : Hp} : ∀ {ks : List Key} {vs : List V}, af K P H (ks.map ft) vs -> vs = ks.map kV
 | [], _, h => by simpa only [zA8, af] using h
 | k :: r, _, h => by
  simp only [zAG, af] at h
  obtain ⟨v, u, e, h1, h2⟩ := h
  rw [e, nk h1, eZ h2]
  rfl
theorem qP : ∀ (ks : List Key) (ps : List (V × V)), ps.map (·.1) = ks.map kV -> ps = (ks.zip (ps.map (·.2))).map fun kv => (kV kv.1, kv.2)
 | [], ps, e => by
  have : ps = [] := by simpa using e
  subst this; rfl
 | k :: r, [], e => by simp at e
 | k :: r, p :: q, e => by
  simp only [zAG, zAD] at e
  rw [zAG, List.zip_cons_cons, zAG, <- qP r q e.2, <- e.1]
theorem wz {more : List (Key × V)} : ∀ {kvs : List (Key × V)}, (kvs.map (·.1) ++ more.map (·.1)).Nodup -> mF kvs more = kvs ++ more := by
 induction more with
 | nil => intro kvs _; show kvs = kvs ++ []; rw [zBC]
 | cons p r ih =>
  intro kvs h
  show mF (putK kvs p.1 p.2) r = _
  have hn : bZ kvs p.1 = none := by
   cases q : bZ kvs p.1 with
   | none => rfl
   | some x =>
    have ha : (kvs.any fun kv => decide (kv.1 = p.1)) = true := by rw [eN, q]; rfl
    obtain ⟨kv, hm, he⟩ := List.any_eq_true.mp ha
    have := (List.nodup_append.mp h).2.2 kv.1 (List.mem_map_of_mem hm) p.1 (by simp)
    exact absurd (of_decide_eq_true he) this
  rw [x9 p.2 hn, ih (by rw [zAb]; simpa using h)]
  simp
def PPD (X : Cx) (pos : Pos) (keys : List (Option Expr)) (values : List Expr) (t : Ro -> (List (D × D) -> Prop) -> Prop) : Prop :=
 ∀ (pins : List (Addr × Obj)) (s : Shared) (σ : St) (H : Hp) (W : Own) (ρ : Ro) (Q : List (D × D) -> Prop), Inv X pins σ H s -> Rel X W H σ ρ -> t ρ Q →
  wpAny (model X.prog X.w) X.A (evalPairs (pairTrees keys values X.env pos)) (fun vs s' => ∃ ps H' ds, Inv X pins σ H' s' /\ VV ps vs /\ aj H H' /\ af X.K W.bad H' (ds.map (·.1)) (ps.map (·.1)) /\ af X.K W.bad H' (ds.map (·.2)) (ps.map (·.2)) /\ Q ds) X.xe s
section
variable {X : Cx} {pos : Pos}
def uD : Ro -> (List (D × D) -> Prop) -> Prop := fun _ Q => Q []
def qg (tk tv : DE) (t : Ro -> (List (D × D) -> Prop) -> Prop) : Ro -> (List (D × D) -> Prop) -> Prop := fun ρ Q => tk ρ fun k => tv ρ fun v => t ρ fun r => Q ((k, v) :: r)
theorem Aj : PPD X pos [] [] uD := fun pins s σ H W ρ Q I r h => pairTrees_nil_walk ⟨[], H, [], I, .nil, aj.refl H, af.nil, af.nil, h⟩
theorem nA {k v : Expr} {ks : List (Option Expr)} {vs : List Expr} {tk tv : DE} {t : Ro -> (List (D × D) -> Prop) -> Prop} (hk : PED X k tk) (hv : PED X v tv) (hr : PPD X pos ks vs t) : PPD X pos (some k :: ks) (v :: vs) (qg tk tv t) := by
 intro pins s σ H W ρ Q I r h
 refine pairTrees_cons_walk (thn (hk pins s σ H W ρ _ I r h) fun u s1 ⟨x, H1, dx, I1, rx, e1, hx, q1⟩ => thn (hv pins s1 σ H1 W ρ _ I1 (r.same e1) q1) fun w2 s2 ⟨y, H2, dy, I2, ry, e2, hy, q2⟩ =>
  thn (hr pins s2 σ H2 W ρ _ I2 ((r.same e1).same e2) q2) fun ws s3 ⟨ps, H3, ds, I3, rel, e3, h1, h2, q3⟩ => ?_)
 exact ⟨(x, y) :: ps, H3, (dx, dy) :: ds, I3, .cons ⟨rx, ry⟩ rel, e1.trans (e2.trans e3), af.cons (hx.same (e2.trans e3)) h1, af.cons (hy.same e3) h2, q3⟩
theorem af.apartD {K : PySem.W.Frag} {P : Bool -> Addr -> Prop} {H : Hp} {a : Addr} {o o' : HO} {ds : List D} {us : List V} (n : H a = some o) (m : (∀ xs, o ≠ .lst xs) /\ (∀ xs, o ≠ .tup xs) /\ (∀ b u, o ≠ .frz b u) /\ ∀ φ, o ≠ .ext φ) (k : K.lookup a = none) (h : af K P H ds us) : af K (fun t b => P t b ∨ b = a) (L2.upd H a o') ds us := by
 have hT : ∀ b ws, SqT K H b ws -> SqT K (L2.upd H a o') b ws := fun b ws q => by
  rcases q with (q | ⟨u, q⟩) | q
  ·exact .inl (.inl (by rw [ay (cR q n fun z => m.2.1 _ z.symm)]; exact q))
  ·exact .inl (.inr ⟨u, by rw [ay (cR q n fun z => m.2.2.1 _ _ z.symm)]; exact q⟩)
  ·exact .inr q
 refine af.map hT (fun t b ws p q => ?_) (fun b φ q => by rw [ay (cR q n fun z => m.2.2.2 _ z.symm)]; exact q) ds us h
 have hne : b ≠ a := fun z => by
  subst z
  rcases q.1 with (q | ⟨u, q⟩) | ⟨u, its, j, q, _⟩
  ·rw [n] at q; exact m.1 _ (zAd q)
  ·rw [n] at q; exact m.2.2.1 _ _ (zAd q)
  ·rw [k] at q; cases q
 refine ⟨fun z => z.elim p hne, ?_, fun z => ⟨by rw [ay hne]; exact (q.2 z).1, (q.2 z).2⟩⟩
 rcases q.1 with (q | ⟨u, q⟩) | q
 ·exact .inl (.inl (by rw [ay hne]; exact q))
 ·exact .inl (.inr ⟨u, by rw [ay hne]; exact q⟩)
 ·exact .inr q
def pZ (i : Nat) (t : Ro -> (List (D × D) -> Prop) -> Prop) : DS := fun E ρ => t ρ fun ps => ∃ kvs : List (Key × D), ps = kvs.map (fun kv => (ft kv.1, kv.2)) /\ kvs.length <= 15 /\ (kvs.map (·.1)).Nodup /\ E.nx (ρ.set i (some (.ob (.dk kvs))))
theorem xu {x : Str} {pos' dpos : Pos} {keys : List (Option Expr)} {values : List Expr} {t : Ro -> (List (D × D) -> Prop) -> Prop} (i : Nat) (hN : X.N.Nodup) (h : PPD X dpos keys values t) (hi : X.N[i]? = some x := by rfl) (hall : keys.all (·.isSome) = true := by rfl) (hl : keys.length = values.length := by rfl) (h0 : keys ≠ [] := by simp)
  (h15 : keys.length <= 15 := by decide) (hx : Loc X.env.scope x := by first | exact Or.inl rfl | exact Or.inr rfl) (hs : swapsWith (.Dict keys values dpos) (some (.Name x pos')) pos.line X.env = pure false := by rfl)
  (hf : X.fn x = true ∨ X.env.scope.names.lookup x = some .local := by first | exact .inl rfl | exact .inr rfl | assumption) : PSD X (.Assign [.Name x pos'] (.Dict keys values dpos) pos) (pZ i t) := by
 intro pins s σ H W ρ E I r hq
 have hn := I.hok.fresh (zAE s.heap.objs.size)
 have hkn := Inv.kfresh I
 have I1 := I.laid (a := s.heap.objs.size) (o := .dK []) (h' := s.heap.push { cls := .type "dict", data := .dict #[] }) (t' := s.toks) (fun _ _ q => zAB _ q) (zAE _) (xr s.heap I.big)
 refine wpAny_Assign_Name (wpAny_Dict_walk (knd := aW X.prog X.w) hall hl h0 h15 (thn (h pins _ σ _ W ρ _ I1 (r.same (aj.upd hn)) hq) fun ws s2 ⟨ps, H2, ds, I2, rel, sm, d1, d2, kvs, ek, lk, nd, q⟩ => ?_)) hs
 subst ek
 have e := sm _ _ (aC (H := H) (a := s.heap.objs.size) (o := .dK []))
 have hk1 : ps.map (·.1) = (kvs.map (·.1)).map kV := eZ (by
  have : (kvs.map fun kv => (ft kv.1, kv.2)).map (·.1) = (kvs.map (·.1)).map ft := by simp [zAg, Function.comp_def]
  rw [this] at d1
  exact d1)
 have d2' : af X.K W.bad H2 (kvs.map (·.2)) (ps.map (·.2)) := by
  have : (kvs.map fun kv => (ft kv.1, kv.2)).map (·.2) = kvs.map (·.2) := by simp [zAg, Function.comp_def]
  rw [this] at d2
  exact d2
 have hlen : (kvs.map (·.1)).length = (ps.map (·.2)).length := by have := d2'.len; simp at this; simp [this]
 have ep := qP _ ps hk1
 generalize hkw : (kvs.map (·.1)).zip (ps.map (·.2)) = kws at ep
 have f1 : kws.map (·.1) = kvs.map (·.1) := by rw [<- hkw, List.map_fst_zip (zBb hlen)]
 have f2 : kws.map (·.2) = ps.map (·.2) := by rw [<- hkw, List.map_snd_zip (zBb hlen.symm)]
 rw [ep] at rel
 obtain ⟨rs, c, rk⟩ := lS (P := X.prog) (w := X.w) rel
 obtain ⟨z, hd, vs0, r0, dd⟩ := yx I2.hok e
 cases r0
 refine ⟨rs, c, dd, fun h' dd' hsb => ?_⟩
 have lkw : kws.length = kvs.length := by have := congrArg List.length f1; simpa using this
 have hm : mF [] kws = kws := by rw [wz (by rw [f1]; simpa using nd)]; rfl
 have hz : kws.length <= sizeLine := by rw [lkw, sizeLine_eq]; omega
 have he : ∃ q, h'.get? s.heap.objs.size = some q := let ⟨q, _, _, hq, _⟩ := dd'; ⟨q, hq⟩
 have I3 := iC (t' := s2.toks + ws.length) I2 (by rw [e]; exact True.intro) hsb he (vF (kvs := kws) hz hd (by rw [<- hm]; exact rk.merge .nil) dd')
 have rp := r.putG (x := .dk kvs) (Inv.ilt I2 hi) (H' := L2.upd H2 s.heap.objs.size (.dK kws)) (((aj.upd hn).trans sm).ins hn e True.intro True.intro) hn hkn aC
  (.dk f1 (by rw [f2]; exact af.apartD e ⟨(fun _ z => by cases z), (fun _ z => by cases z), (fun _ _ z => by cases z), fun _ z => by cases z⟩ hkn d2'))
 exact gG (v := .ref s.heap.objs.size) I3 hN hi hx rfl (fun s3 I4 => ⟨_, _, _, I4, rp.2, _, rp.1, q⟩) hf
theorem Rel.ownK {W : Own} {H : Hp} {σ : St} {ρ : Ro} (r : Rel X W H σ ρ) {i : Nat} {kvs : List (Key × D)} (h : ρ[i]? = some (some (.ob (.dk kvs)))) : ∃ a kws, W.O i = some a /\ σ[i]? = some (some (.ref a)) /\ H a = some (.dK kws) /\ kws.map (·.1) = kvs.map (·.1) /\ af X.K W.bad H (kvs.map (·.2)) (kws.map (·.2)) := by
 obtain ⟨a, o, h1, h2, h3, h4⟩ := r.own i _ h
 cases h4 with
 | dk e h5 => exact ⟨a, _, h1, h2, h3, e, h5⟩
def xh (i : Nat) (tb : DE) : DE := fun ρ Q => ∃ kvs, ρ[i]? = some (some (.ob (.dk kvs))) /\ tb ρ fun k => ∃ key d, k = ft key /\ bq kvs key = some d /\ Q d
theorem qa {x : Str} {px : Pos} {b : Expr} {tb : DE} (i : Nat) (hu : X.A.units + 1 < cLine) (hb : PED X b tb) (hN : X.N[i]? = some x := by rfl) (hv : Vis X.env.scope x := by first | exact Or.inl rfl | exact Or.inr (Or.inl rfl) | exact Or.inr (Or.inr rfl)) (hd : (x == ("__debug__" : Str)) = false := by decide)
  (hcd : (x == ("__classdict__" : Str)) = false := by decide) (hs : w7 b := by intro _ _; rfl) : PED X (.Subscript (.Name x px) b pos) (xh i tb) := by
 refine PED.of (zH hu (cX hN hv hd hcd) hb.pe hs) fun σ H W ρ Q r h => ?_
 obtain ⟨kvs, eo, h⟩ := h
 obtain ⟨a, kws, oa, sa, ha, e, hden⟩ := r.ownK eo
 refine ⟨.ref a, sa, W, ρ, _, r, h, fun v H1 d e1 hd q => ?_⟩
 obtain ⟨key, d', rfl, l, q⟩ := q
 obtain ⟨v', l', hv'⟩ := kE e hden l
 have := nk hd
 subst this
 refine ⟨a, v', rfl, ?_, e1, d', hv'.same e1, q⟩
 rw [<- l']
 exact jM.k (e1 _ _ ha)
def ue (i : Nat) (tk te : DE) : DS := fun E ρ => ∃ kvs, ρ[i]? = some (some (.ob (.dk kvs))) /\ tk ρ fun k => ∃ key n, k = ft key /\ bq kvs key = some (.int n) /\ te ρ fun d => ∃ m, d = .int m /\ kvs.length < sizeLine /\ E.nx (ρ.set i (some (.ob (.dk (putD kvs key (.int (n + m)))))))
theorem yW {x : Str} {px tpos : Pos} {b e : Expr} {tb te : DE} (i : Nat) (hu : X.A.units + 1 < cLine) (hb : PED X b tb) (he : PED X e te) (hN : X.N[i]? = some x := by rfl) (hv : Vis X.env.scope x := by first | exact Or.inl rfl | exact Or.inr (Or.inl rfl) | exact Or.inr (Or.inr rfl)) (hd : (x == ("__debug__" : Str)) = false := by decide)
  (hcd : (x == ("__classdict__" : Str)) = false := by decide) (ha : ∀ ov iv new, augStore b ov iv new = (do holding [new, ov, iv] (setItem ov iv new); release [new, ov, iv] []; pure .next) := by intros; rfl) : PSD X (.AugAssign (.Subscript (.Name x px) b tpos) .Add e pos) (ue i tb te) := by
 refine PSD.of (zJ hu (cX hN hv hd hcd) hb.pe he.pe wa ha) fun σ H W ρ E r hl h => ?_
 obtain ⟨kvs, eo, h⟩ := h
 obtain ⟨a, kws, oa, sa, ha, ek, hden⟩ := r.ownK eo
 refine ⟨.ref a, sa, W, ρ, _, r, h, fun v H1 d e1 hd q => ?_⟩
 obtain ⟨key, n, rfl, l, q⟩ := q
 obtain ⟨v', l', hv'⟩ := kE ek hden l
 have z1 := nk hd
 have z2 := hv'.int_
 subst z1 z2
 refine ⟨a, _, rfl, by rw [<- l']; exact jM.k (e1 _ _ ha), W, ρ, _, r.same e1, q, fun v2 H2 d2 e2 hd2 q2 => ?_⟩
 obtain ⟨m, rfl, hz, q2⟩ := q2
 have z3 := hd2.int_
 subst z3
 have lz : kws.length < sizeLine := by have := congrArg List.length ek; simp at this; omega
 have ha2 := e2 _ _ (e1 _ _ ha)
 obtain ⟨p1, p2⟩ := tK (k := key) ek (hden.same (e1.trans e2)) (Den.int (n + m))
 obtain ⟨r2, f2⟩ := ((r.same e1).same e2).mutG eo oa sa ha2 True.intro (.dk p1 p2)
 exact ⟨n, m, rfl, rfl, _, pF.k ha2 lz, W, _, (Fwd.same (e1.trans e2)).trans f2, r2, q2⟩
end
end PD
namespace PD
open PySem PySem.Spec PyProof.Rows L2
theorem vM (kvs : List (Key × D)) (r : Ro) (R : List (Key × D) -> Prop) : (∃ ys, (some (Sl.ob (.dk kvs)) :: r)[0]? = some (some (Sl.ob (.dk ys))) /\ R ys) = R kvs := by
 apply propext
 constructor
 ·rintro ⟨_, e, q⟩
  have e' : some (some (Sl.ob (.dk kvs))) = some (some (Sl.ob (.dk _))) := e
  cases e'
  exact q
 ·intro q; exact ⟨kvs, rfl, q⟩
theorem vN (n : Nat) (x : Option Sl) (r : Ro) (R : List (Key × D) -> Prop) : (∃ ys, (x :: r)[n + 1]? = some (some (Sl.ob (.dk ys))) /\ R ys) = (∃ ys, r[n]? = some (some (Sl.ob (.dk ys))) /\ R ys) := rfl
theorem tS (t : Bool) (xs : List D) (R : List D -> Prop) : (∃ k ds, B4 (.lst t xs) = some (k, ds) /\ R ds) = R xs := by
 apply propext
 constructor
 ·rintro ⟨_, _, e, q⟩; cases e; exact q
 ·intro q; exact ⟨_, _, rfl, q⟩
theorem sE (b : Bool) : gf (.bl b) = true := by rw [gf] <;> (intros; contradiction)
theorem lr (b : Int) : gf (.int b) = true := by rw [gf] <;> (intros; contradiction)
theorem pL : gf .non = true := by rw [gf] <;> (intros; contradiction)
theorem iA {ds : List D} {k : Int} {Q : D -> Prop} (h0 : 0 <= k) (h1 : k < ds.length) (h : ∀ d ∈ ds, Q d) : ∃ d, atI ds k = some d /\ Q d := by
 have e : k = ((k.toNat : Nat) : Int) := by omega
 have hl : k.toNat < ds.length := by omega
 refine ⟨ds[k.toNat], ?_, h _ (zB3 hl)⟩
 have q : atI ds ((k.toNat : Nat) : Int) = some ds[k.toNat] := fU (by simp)
 rw [<- e] at q
 exact q
theorem comp_map {α : Type} {wi : DA} {js : List Nat} {tc : DT} {te : DE} {ρ : Ro} {Q : D -> Prop} (xs : List α) (f : α -> D) (c : α -> Bool) (g : α -> D) (hw : ∀ R : List D -> Prop, R (xs.map f) -> wi ρ R) (hz : xs.length <= sizeLine)
  (hc : ∀ x ∈ xs, ∀ K : Bool -> Prop, K (c x) -> tc (some (.val (f x)) :: js.map (bG ρ)) K) (he : ∀ x ∈ xs, c x = true -> ∀ K : D -> Prop, K (g x) -> te (some (.val (f x)) :: js.map (bG ρ)) K) (q : Q (.lst true ((xs.filter c).map g))) : iY wi js tc te ρ Q := by
 refine hw _ ⟨by rw [zAA]; exact hz, fun j out => out = ((xs.take j).filter c).map g, by simp, fun j d out hd ho => ?_, fun out ho => ?_⟩
 ·rw [zAO] at hd
  cases ex : xs[j]? with
  | none => rw [ex] at hd; cases hd
  | some x =>
   rw [ex] at hd
   cases hd
   have hm : x ∈ xs := zAV ex
   have ht : xs.take (j + 1) = xs.take j ++ [x] := by rw [zCH, ex]; rfl
   refine hc x hm _ ?_
   by_cases z : c x = true
   ·rw [if_pos z]
    refine he x hm z _ ?_
    show _ = List.map g (List.filter c (List.take (j + 1) xs))
    rw [ht, ho, List.filter_append, zAb]
    simp [z]
   ·rw [if_neg z]
    show _ = List.map g (List.filter c (List.take (j + 1) xs))
    rw [ht, ho, List.filter_append]
    simp [z]
 ·rw [zAA, zAh (zAE _)] at ho
  rw [ho]; exact q
theorem nE {α : Type} {wi : DA} {g : DG} {tb : DS} {E : fJ} {ρ : Ro} (xs : List α) (f : α -> D) (Pv : List α -> Ro -> Prop) (hw : ∀ R : List D -> Prop, R (xs.map f) -> wi ρ R) (p0 : Pv [] ρ)
  (turn : ∀ (done : List α) (x : α) (ρ' : Ro), x ∈ xs -> done.length < xs.length -> Pv done ρ' -> g (f x) ρ' fun ρ2 => tb { E with nx := Pv (done ++ [x]), ct := Pv (done ++ [x]), bk := E.nx } ρ2) (fin : ∀ ρ', Pv xs ρ' -> E.nx ρ') : ug wi g tb E ρ := by
 refine hw _ ⟨fun j => Pv (xs.take j), by simpa using p0, fun j d ρ' hd hp => ?_, fun ρ' hp => fin ρ' (by rw [zAA, zAh (zAE _)] at hp; exact hp)⟩
 rw [zAO] at hd
 cases ex : xs[j]? with
 | none => rw [ex] at hd; cases hd
 | some x =>
  rw [ex] at hd
  cases hd
  have hj := (zAF.mp ex).1
  have ht : xs.take (j + 1) = xs.take j ++ [x] := by rw [zCH, ex]; rfl
  show g (f x) ρ' fun ρ2 => tb { E with nx := Pv (xs.take (j + 1)), ct := Pv (xs.take (j + 1)), bk := E.nx } ρ2
  rw [ht]
  exact turn (xs.take j) x ρ' (zAV ex) (by rw [zAc]; omega) hp
end PD
namespace PD
open PySem PySem.Spec PyProof.Rows L2
structure OkN (n : Nat) (d : D) : Prop where
 pl : plD d = true
 lay : (pyD d).canLay0 = true
 dp : (pyD d).depth <= n
structure fZ (n : Nat) (ds : List D) : Prop where
 pl : j4 ds = true
 lay : PyData.canLayAll0 (bP ds) = true
 dp : PyData.depthAll (bP ds) <= n
theorem OkN.ok {n : Nat} {d : D} (h : OkN n d) (hn : n <= 64 := by decide) : okD d := ⟨h.pl, by
 unfold SeqAt.shaped
 rw [h.lay, decide_eq_true (zAX h.dp hn)]
 rfl⟩
theorem OkN.int (n : Nat) (i : Int) : OkN n (.int i) := ⟨by rw [plD] <;> (intros; contradiction), by rw [pyD, PyData.canLay0], by rw [pyD, PyData.depth]; exact zAi _⟩
theorem OkN.non (n : Nat) : OkN n .non := ⟨by rw [plD] <;> (intros; contradiction), by rw [pyD, PyData.canLay0], by rw [pyD, PyData.depth]; exact zAi _⟩
theorem fZ.nil (n : Nat) : fZ n [] := ⟨by rw [j4], by rw [bP, PyData.canLayAll0], by rw [bP, PyData.depthAll]; exact zAi _⟩
theorem fZ.cons {n : Nat} {d : D} {ds : List D} (h : OkN n d) (h' : fZ n ds) : fZ n (d :: ds) := ⟨by rw [j4, h.pl, h'.pl]; rfl, by rw [bP, PyData.canLayAll0, h.lay, h'.lay]; rfl, by
 rw [bP, PyData.depthAll]
 exact Nat.max_le.mpr ⟨h.dp, h'.dp⟩⟩
theorem fZ.of {n : Nat} : ∀ {ds : List D}, (∀ d ∈ ds, OkN n d) -> fZ n ds
 | [], _ => .nil n
 | d :: r, h => .cons (h d zAK) (fZ.of fun x hx => h x (zAI _ hx))
theorem OkN.tup {n : Nat} {ds : List D} (h : fZ n ds) : OkN (n + 1) (.tup ds) := ⟨by rw [plD]; exact h.pl, by rw [pyD, PyData.canLay0]; exact h.lay, by rw [pyD, PyData.depth]; exact Nat.succ_le_succ h.dp⟩
theorem OkN.lst {n : Nat} {t : Bool} {ds : List D} (h : fZ n ds) : OkN (n + 1) (.lst t ds) := ⟨by rw [plD]; exact h.pl, by rw [pyD, PyData.canLay0]; exact h.lay, by rw [pyD, PyData.depth]; exact Nat.succ_le_succ h.dp⟩
theorem OkN.map {α : Type} {n : Nat} {t : Bool} {f : α -> D} {xs : List α} (h : ∀ x, OkN n (f x)) : OkN (n + 1) (.lst t (xs.map f)) := OkN.lst (fZ.of fun d hd => by
 obtain ⟨x, _, rfl⟩ := zAU.mp hd
 exact h x)
def hJ (xs ys : List D) : Bool := PyData.eqvAll (bP xs) (bP ys)
theorem y3 (t u : Bool) (xs ys : List D) : eqD (.lst t xs) (.lst u ys) = hJ xs ys := by unfold eqD hJ; rw [pyD, pyD, PyData.eqv]
theorem sN (xs ys : List D) : eqD (.tup xs) (.tup ys) = hJ xs ys := by unfold eqD hJ; rw [pyD, pyD, PyData.eqv]
theorem qn : hJ [] [] = true := by unfold hJ; rw [bP, PyData.eqvAll]
theorem jU (x y : D) (xs ys : List D) : hJ (x :: xs) (y :: ys) = (eqD x y && hJ xs ys) := by unfold hJ eqD; rw [bP, bP, PyData.eqvAll]
theorem y6 (x y : Str) : eqD (.str x) (.str y) = (x == y) := by unfold eqD; rw [pyD, pyD, PyData.eqv]
theorem y4 : eqD .non .non = true := by unfold eqD; rw [pyD, PyData.eqv]
mutual
theorem i5 : ∀ d : D, eqD d d = true
 | .non => y4
 | .bl b => by rw [qm]; simp
 | .int i => by rw [fV]; simp
 | .str x => by rw [y6]; simp
 | .exc _ => by unfold eqD; rw [pyD, PyData.eqv]
 | .tup ds => by rw [sN]; exact jV ds
 | .lst t ds => by rw [y3]; exact jV ds
theorem jV : ∀ ds : List D, hJ ds ds = true
 | [] => qn
 | d :: r => by rw [jU, i5 d, jV r]; rfl
end
end PD
namespace PD
open PySem PySem.Spec PyProof.Rows L2
section
variable {X : Cx} {a b c : Expr} {ta tb tc : DE} {pos : Pos}
theorem allB {prog : Program} {w : World} {A : Around} {E : Value -> Shared -> Prop} {s : Shared} {l : Addr} {vs : List Value} {bs : List Bool} {Q : Value -> Shared -> Prop} (hh : A.handled = none) (hl : s.heap.IsList l vs.toArray) (hb : LSm.BoolsAre vs bs)
  (h : ∀ h' tk, (∀ b o, s.heap.get? b = some o -> h'.get? b = some o) -> Q (.bool (bs.all id)) { s with heap := h', toks := tk }) : wpAny (model prog w) A (call (.builtin "all") [.ref l]) Q E s := by
 have lt : l < s.heap.objs.size := by
  obtain ⟨_, e, _⟩ := hl
  exact zAJ e
 refine call_all_walk (wpAny_pyIter_list hl ?_)
 refine ⟨s.heap.objs.size, [s.heap.objs.size, l], [s.heap.objs.size], vs.toArray.size, _, _, fun i => (bs[i]?).getD true, rfl, Walks.list (A := A.in1) hh _ l (zAk lt) vs.toArray, ⟨⟨_, zAL _ rfl, rfl, rfl⟩, hl.push _⟩, (fun i v s1 Q1 E1 hP hQ => ?_), (fun h1 tk hk => ?_)⟩
 ·obtain ⟨k, e, ek⟩ := hb.get i v (by simpa using hP)
  subst ek
  simp only [e, Option.getD_some] at hQ
  exact wpAny_truthy_bool hQ
 ·have e : ((List.range vs.toArray.size).all fun i => (bs[i]?).getD true) = bs.all id := by
   rw [zAP, hb.length]
   exact LSm.range_all bs
  rw [e]
  exact h h1 tk (LSm.kept_iter hk)
theorem pQ {K : PySem.W.Frag} {P : Bool -> Addr -> Prop} {H : Hp} : ∀ {bs : List Bool} {vs : List V} {us : List Value}, af K P H (bs.map D.bl) vs -> Vals vs us -> LSm.BoolsAre us bs
 | [], _, _, h, r => by
  simp only [zA8, af] at h
  subst h
  cases r
  exact .nil
 | b :: q, _, _, h, r => by
  simp only [zAG, af] at h
  obtain ⟨v, w, e, h1, h2⟩ := h
  subst e
  have := h1.bl_
  subst this
  cases r with
  | cons ra rb =>
   cases ra
   exact .cons b (pQ h2 rb)
theorem vp (hc : X.calm = true) : cF X (.builtin "all") (fun ds Q => ∃ (t : Bool) (bs : List Bool), ds = [.lst t (bs.map D.bl)] /\ Q (.bl (bs.all id))) := by
 intro pins s σ H W ds vs us Q I tr r hd q
 obtain ⟨t, bs, e, q⟩ := q
 subst e
 obtain ⟨v, rfl, h1⟩ := kz hd
 obtain ⟨p, ws, ev, _, hq, hw⟩ := h1.lst_
 subst ev
 cases r with
 | cons r1 rr =>
  cases rr
  cases r1
  obtain ⟨its, rv, pl, _⟩ := I.list hq
  exact allB (I.ok.hd hc) pl.isList (pQ hw rv) fun h' tk kp => ⟨.bl _, H, _, I.kept kp, rfl, aj.refl H, Den.bl _, q⟩
def pX (ti : DE) : DA := fun ρ R => ti ρ fun d => ∃ ds, d = .tup ds /\ R ds
theorem vZ {tg iter : Expr} {ti : DE} (h : PED X iter ti) : PID X tg iter (pX ti) := by
 refine PID.of (AV h.pe) fun σ H W ρ R r hw => ⟨W, ρ, _, r, hw, fun v H1 d e1 hd q => ?_⟩
 obtain ⟨ds, rfl, q⟩ := q
 obtain ⟨p, vs, rfl, hq, hds⟩ := hd.tup_
 refine ⟨p, rfl, ⟨vs, hq⟩, e1, ds, ?_, q⟩
 intro P' H' hT hL hX i
 have hq' := hT p vs hq
 have hl := hds.len
 refine ⟨fun hi => ?_, fun x H3 y hi => ?_, fun hi => ⟨vs, hq', by omega⟩⟩
 ·obtain ⟨v, hv, _⟩ := hds.get (i := i) (d := ds[i]) (by simp [hi])
  exact ⟨vs, v, hq', hv⟩
 ·obtain ⟨e3, y⟩ := y
  subst e3
  obtain ⟨d, h1, h2⟩ := hds.bG (y vs hq')
  exact ⟨aj.refl _, d, h1, Den.map hT hL hX d _ h2⟩
theorem wk (xs : List D) (R : List D -> Prop) : (∃ ds, D.tup xs = .tup ds /\ R ds) = R xs := by
 apply propext
 constructor
 ·rintro ⟨_, e, q⟩; cases e; exact q
 ·intro q; exact ⟨xs, rfl, q⟩
variable {e : Expr} {te : DE} {lo hi : Option Expr} {tl th : DO} {p2 : Pos}
theorem lQ {K : PySem.W.Frag} {fd : FuncData} {ps : List Str} (h : ∀ (s : Shared) (us : List Value), K.In s.heap -> us.length = ps.length -> BindsTo s fd ⟨us, []⟩ (ps.zip us)) : Binds K fd ps [] := fun s us kin hl => by
 rw [zBC] at hl ⊢
 exact h s us kin hl
theorem lO {K : PySem.W.Frag} {fd : FuncData} {ps : List Str} (n : Nat) (hp : ps.length = n + 1) (h : ∀ (s : Shared) (us : List Value), K.In s.heap -> us.length = n -> BindsTo s fd ⟨us, []⟩ (ps.zip (us ++ [.none]))) : Binds K fd ps [.none] := fun s us kin hl => h s us kin (by
 rw [zAR, hp] at hl
 simpa using hl)
theorem mB {K : PySem.W.Frag} {fd : FuncData} {ps : List Str} {kn : Str} (n : Nat) (hp : ps.length = n + 1) (h : ∀ (s : Shared) (us : List Value) (w : Value), K.In s.heap -> us.length = n -> BindsTo s fd ⟨us, [(kn, w)]⟩ (ps.zip (us ++ [w]))) : ve K fd ps [kn] kwG kwG := ⟨fun s us ws kin hl => by
 cases ws with
 | nil =>
  have hl' : 0 = ps.length := hl
  omega
 | cons w r =>
  cases r with
  | nil =>
   have hl' : (us ++ [w]).length = ps.length := hl
   rw [zAR, hp] at hl'
   exact h s us w kin (by simpa using hl')
  | cons _ _ =>
   have hl' : 0 = ps.length := hl
   omega, zd⟩
end
section
variable {X : Cx} {pos : Pos}
end
end PD
namespace PD
open PySem PySem.Spec PyProof.Rows L2
section
variable {K : PySem.W.Frag} {P : Bool -> Addr -> Prop} {H : Hp} {B : Nat -> Option Addr}
end
section
variable {X : Cx} {pos : Pos}
def PFL (X : Cx) (i : Nat) (es : List Expr) (t : Ro -> (List (List D) -> Prop) -> Prop) : Prop :=
 ∀ (pos : Pos) (pins : List (Addr × Obj)) (s : Shared) (σ : St) (H : Hp) (W : Own) (ρ : Ro) (k : Nat) (Q : List (List D) -> Prop), Inv X pins σ H s -> Rel X W H σ ρ -> i < σ.length -> ρ[i]? = some none -> t ρ Q →
  wpAny (model X.prog X.w) X.A (spliced (backTo pos (starEach es X.env))) (fun us s' => ∃ vs H' W' xss, Inv X pins σ H' s' /\ Vals vs us /\ aj H H' /\ Rel X W' H' σ ρ /\ Fwd W H W' H' /\ c8 X.K W'.bad H' (W'.sub σ.length i) k (xss.map LI.own) vs /\ (∀ l, l < k -> W'.sub σ.length i l = W.sub σ.length i l) /\ Q xss) X.xe s
variable {e : Expr} {te : DE} {tt : DT} {ta : DA}
end
end PD
namespace PD
open PySem PySem.Spec PyProof.Rows L2
section
variable {X : Cx} {pins : List (Addr × Obj)} {σ : St} {H : Hp} {s : Shared} {sc : Scope} {ns : List Str} {js : List Nat} {x : Str}
end
section
variable {X : Cx} {pins : List (Addr × Obj)} {σ : St} {H : Hp}
structure B7 (X : Cx) (pins : List (Addr × Obj)) (H : Hp) (s : Shared) (l f S I : Addr) (fo : Obj) (j : Nat) (vb : Value) (k : Int) : Prop where
 fo : s.heap.get? f = some fo
 ff : dF X pins H f
 so : ∃ tb n, s.heap.get? S = some (seqObj "list" #[vb, .int k tb] n)
 sf : dF X pins H S
 io : s.heap.IsListIter I l j
 jf : dF X pins H I
 fS : f ≠ S
 fI : f ≠ I
 SI : S ≠ I
 lI : l ≠ I
end
section
variable {X : Cx} {sc : Scope} {ns : List Str} {js : List Nat} {x : Str} {pos : Pos}
end
end PD
namespace PD
open PySem PySem.Spec PyProof.Rows L2
section
variable {X : Cx} {pos : Pos}
def nh (i : Nat) (te : DE) : DS := fun E ρ => ∃ ds, ρ[i]? = some (some (.own ds)) /\ te ρ fun d => ∃ xs, d = .lst true xs /\ ds.length + xs.length <= sizeLine /\ E.nx (ρ.set i (some (.own (ds ++ xs))))
theorem vH {x : Str} {e : Expr} {te : DE} {px apos cpos : Pos} (i : Nat) (he : PED X e te) (hi : X.N[i]? = some x := by rfl) (hv : Vis X.env.scope x := by first | exact Or.inl rfl | exact Or.inr (Or.inl rfl) | exact Or.inr (Or.inr rfl))
  (hd : (x == ("__debug__" : Str)) = false := by decide) (hcd : (x == ("__classdict__" : Str)) = false := by decide)
  (hbase : attributeBase (.Name x px) "extend" X.env (eval (.Name x px) X.env) = eval (.Name x px) X.env := by rfl)
  (hfew : ((backTo cpos (starEach [e] X.env)).all (fun x => !x.1) && (backToKw cpos (keywordEach [] X.env)).all (fun x => x.1.isSome) && decide ([e].length + ([] : List Keyword).length + (if ([] : List Keyword).isEmpty then 0 else 1) < 30)) = true := by rfl)
  (hline : (apos.endLine == cpos.line) = true := by rfl) (hst : starEach [e] X.env = (false, eval e X.env) :: starEach [] X.env := by rfl) (hplain : (backTo cpos (starEach [] X.env)).any (·.1) = false := by rfl)
  (hs : swapsWith (.Call (.Attribute (.Name x px) "extend" apos) [e] [] cpos) none pos.line X.env = pure false := by rfl) :
  PSD X (.Expr (.Call (.Attribute (.Name x px) "extend" apos) [e] [] cpos) pos) (nh i te) := by
 have P0 := tJ (pos := pos) (yH PySem.F.plainAttrs_list PySem.F.slot_list_extend PySem.F.type_list_extend wA (cX hi hv hd hcd) (iI he.pe mJ hst) hbase hfew hline hst hplain) hs
 refine PSD.of P0 fun σ H W ρ E r hl h => ?_
 obtain ⟨ds, eo, h⟩ := h
 obtain ⟨a, vs, oa, sa, ha, hds⟩ := r.ownL i ds eo
 refine ⟨.ref a, sa, .inl ⟨rfl, _, SqL.of ha⟩, W, ρ, _, r, h, fun v H' d e1 hd' q => ?_⟩
 obtain ⟨xs, rfl, z, q⟩ := q
 obtain ⟨b, us, rfl, _, hb, hxs⟩ : ∃ b us, v = .ref b /\ ¬ W.bad true b /\ SqG X.K H' true b us /\ af X.K W.bad H' xs us := by simpa only [Den] using hd'
 have ha' := e1 _ _ ha
 have r' := r.same e1
 have hds' := hds.same e1
 refine ⟨a, b, vs, us, rfl, rfl, ha', (hb.2 rfl).1, by rw [hds'.len, hxs.len]; exact z, ?_⟩
 obtain ⟨r2, f2⟩ := r'.mut (vs' := vs ++ us) eo oa sa ha' (hds'.append hxs)
 exact ⟨W, _, (Fwd.same e1).trans f2, r2, q⟩
end
section
variable {prog : Program} {w : World} {A : Around} {E : Value -> Shared -> Prop} {s : Shared}
end
section
variable {X : Cx} {pos : Pos}
theorem Rel.ownT {W : Own} {H : Hp} {σ : St} {ρ : Ro} (r : Rel X W H σ ρ) {i : Nat} {kvs : List (List Key × D)} (h : ρ[i]? = some (some (.ob (.dt kvs)))) : ∃ a kws, W.O i = some a /\ σ[i]? = some (some (.ref a)) /\ H a = some (.dT kws) /\ kws.map (·.1) = kvs.map (·.1) /\ af X.K W.bad H (kvs.map (·.2)) (kws.map (·.2)) := by
 obtain ⟨a, o, h1, h2, h3, h4⟩ := r.own i _ h
 cases h4 with
 | dt e h5 => exact ⟨a, _, h1, h2, h3, e, h5⟩
def PEK (X : Cx) (e : Expr) (t : DE) : Prop :=
 ∀ (pins : List (Addr × Obj)) (s : Shared) (σ : St) (H : Hp) (W : Own) (ρ : Ro) (Q : D -> Prop), Inv X pins σ H s -> Rel X W H σ ρ -> t ρ Q →
  wpAny (model X.prog X.w) X.A (eval e X.env) (fun u s' => ∃ b vs H' ds, u = .ref b /\ Inv X pins σ H' s' /\ aj H H' /\ H' b = some (.tup vs) /\ af X.K W.bad H' ds vs /\ Q (.tup ds)) X.xe s
end
theorem vK (kvs : List (List Key × D)) (r : Ro) (R : List (List Key × D) -> Prop) : (∃ ys, (some (Sl.ob (.dt kvs)) :: r)[0]? = some (some (Sl.ob (.dt ys))) /\ R ys) = R kvs := by
 apply propext
 constructor
 ·rintro ⟨ys, e, q⟩
  simp only [List.getElem?_cons_zero, Option.some.injEq, Sl.ob.injEq, OS.dt.injEq] at e
  subst e
  exact q
 ·intro q; exact ⟨kvs, rfl, q⟩
theorem vL (n : Nat) (x : Option Sl) (r : Ro) (R : List (List Key × D) -> Prop) : (∃ ys, (x :: r)[n + 1]? = some (some (Sl.ob (.dt ys))) /\ R ys) = (∃ ys, r[n]? = some (some (Sl.ob (.dt ys))) /\ R ys) := rfl
theorem yA (ys : List D) (R : List D -> Prop) : (∃ xs, D.lst true ys = .lst true xs /\ R xs) = R ys := by
 apply propext
 constructor
 ·rintro ⟨xs, e, q⟩
  cases e
  exact q
 ·intro q; exact ⟨ys, rfl, q⟩
theorem cK {α : Type} {wi : DA} {g : DG} {tb : DS} {E : fJ} {ρ : Ro} (xs : List α) (f : α -> D) (Pv : Nat -> Ro -> Prop) (hw : ∀ R : List D -> Prop, R (xs.map f) -> wi ρ R) (p0 : Pv 0 ρ)
  (turn : ∀ (j : Nat) (x : α) (ρ' : Ro), xs[j]? = some x -> Pv j ρ' -> g (f x) ρ' fun ρ2 => tb { E with nx := Pv (j + 1), ct := Pv (j + 1), bk := E.nx } ρ2) (fin : ∀ ρ', Pv xs.length ρ' -> E.nx ρ') : ug wi g tb E ρ := by
 refine hw _ ⟨Pv, p0, fun j d ρ' hd hp => ?_, fun ρ' hp => fin ρ' (by rw [zAA] at hp; exact hp)⟩
 rw [zAO] at hd
 cases ex : xs[j]? with
 | none => rw [ex] at hd; cases hd
 | some x =>
  rw [ex] at hd
  cases hd
  exact turn j x ρ' ex hp
end PD
namespace PD
open PySem PySem.Spec PyProof.Rows L2
def b6 (h : Heap) (d : Addr) (us : List Value) (ep : Nat) : Prop := ∃ o es, h.get? d = some o /\ o.data = .dict es ep /\ es.toList.map (·.val) = us
theorem b6.of {h h' : Heap} {d : Addr} {us : List Value} {ep : Nat} (x : b6 h d us ep) (k : ∀ o, h.get? d = some o -> h'.get? d = some o) : b6 h' d us ep := let ⟨o, es, e, r⟩ := x; ⟨o, es, k o e, r⟩
theorem b6.lt {h : Heap} {d : Addr} {us : List Value} {ep : Nat} (x : b6 h d us ep) : d < h.objs.size := let ⟨_, _, e, _⟩ := x; zAJ e
theorem b6.size {us : List Value} {es : Array DictEntry} (e : es.toList.map (·.val) = us) : es.size = us.length := by rw [<- e]; simp
section
variable {prog : Program} {w : World} {A : Around} {E : Value -> Shared -> Prop} {s : Shared} {d v it : Addr} {us : List Value} {ep i : Nat}
theorem lR {Q : Value -> Shared -> Prop} (hd : (d == sysModules) = false) (hT : s.TypeIs (.ref d) "dict") (h : Q (.ref s.heap.objs.size) { s with heap := s.heap.push { cls := .type "dict_values", data := .fields #[.ref d] } }) :
  wpAny (model prog w) A (call (.builtin "dict.values") [.ref d]) Q E s := by
 have ml : MeetsIn prog w (Builtin.«dict.values» ⟨[.ref d], []⟩) (fun _ R s => s.TypeIs (.ref d) "dict" /\ R (.ok (.ret (.ref s.heap.objs.size))) { s with heap := s.heap.push { cls := .type "dict_values", data := .fields #[.ref d] } }) := .of_wp fun A R s ⟨t, h⟩ => by
  refine wpAny_bind ?_; unfold Builtin.Dict.noArgs; refine wpAny_bind (wpAny_notOrdered_dict t ?_); show wpAny _ _ (pure d) _ _ s
  refine wpAny_pure ?_; show wpAny _ _ (Builtin.Dict.showsAll d >>= _) _ _ s; unfold Builtin.Dict.showsAll; rw [if_neg (by rw [hd]; exact zAQ)]
  exact wpAny_bind (wpAny_pure (wpAny_bind (wpAny_newObj_type (wpAny_pure ⟨_, rfl, h⟩))))
 exact call_meetsIn F.slot_dict_values hT F.entry_dict_values (F.args_dict_values_1 _) ml ⟨hT, h⟩
theorem xD {Q : Value -> Shared -> Prop} (hv : s.heap.IsValuesView v d) (hm : b6 s.heap d us ep) (hQ : Q (.ref s.heap.objs.size) { s with heap := s.heap.push { cls := .type "dict_valueiterator", data := .fields #[.ref d, .int 0 0, .int us.length 0, .int ep 0] } }) :
  wpAny (model prog w) A (pyIter (.ref v)) Q E s := by
 obtain ⟨ov, hov, hcv, hdv⟩ := id hv
 obtain ⟨o, es, ho, hdat, he⟩ := hm
 have hsz := b6.size he
 refine wpAny_pyIter_slot hv.typeIs F.slot_dict_values_iter (wpAny_call_entry F.slot_dict_values_iter hv.typeIs F.entry_dict_values_iter ?_ (F.args_dict_values_iter_1 _))
 unfold Builtin.«dict_values.__iter__»; refine wpAny_bind (wpAny_pure (wpAny_bind ?_))
 unfold Builtin.Dict_items.dictOf; refine wpAny_bind (wpAny_field hov hdv (x := .ref d) rfl (wpAny_pure (wpAny_bind ?_)))
 unfold Builtin.Dict_items.newIterator; refine wpAny_bind (wpAny_dictEntries ho hdat (wpAny_bind (wpAny_dictEpoch ho hdat ?_)))
 simp only [show Builtin.Dict_items.ownsTuple "dict_valueiterator" = false by decide, zAY, if_false]
 exact wpAny_newObj_type (wpAny_pure ⟨_, rfl, "dict_valueiterator", _, ⟨_, zAL _ rfl, rfl⟩, F.slot_dict_valueiterator_next.lookup, by simpa [rawInt, hsz] using hQ⟩)
theorem xP {x : Value} {Q : Option Value -> Shared -> Prop} (hit : s.heap.IsValIter it d i us.length ep) (hm : b6 s.heap d us ep) (hx : us[i]? = some x)
  (hQ : ∀ h', h'.IsValIter it d (i + 1) us.length ep -> Heap.SameBut it s.heap h' -> Q (some x) { s with heap := h' }) : wpAny (model prog w) A (pyNext (.ref it)) Q E s := by
 obtain ⟨o, ho, hc, hd⟩ := id hit
 obtain ⟨od, es, hod, hdd, he⟩ := hm
 have hsz := b6.size he
 obtain ⟨hlt, _⟩ := zAF.mp hx
 have hlt' : i < es.size := by rw [hsz]; exact hlt
 have hval : es[i].val = x := by
  have z : (es.toList.map (·.val))[i]? = some x := by rw [he]; exact hx
  simpa [hlt'] using z
 have two : wpAny (model prog w) A (pyNext (.ref it)) Q E s := by
  unfold pyNext; refine wpAny_bind (wpAny_attempt (wpAny_callSpecial?_slot (name := Str.ofString "__next__") hit.typeIs F.slot_dict_valueiterator_next (wpAny_call_entry F.slot_dict_valueiterator_next hit.typeIs F.entry_dict_valueiterator_next ?_ (F.args_dict_valueiterator_next_1 _))))
  refine wpAny_bind (wpAny_pure (wpAny_bind (wpAny_bind ?_))); (first | refine wpAny_bind (wpAny_typeNameOfWhole_valiter hit.typeIs (wpAny_pure ?_)) | refine wpAny_bind (wpAny_typeNameOf_valiter hit.typeIs (wpAny_pure ?_)))
  refine wpAny_bind (wpAny_fieldsOf ho hd ?_); simp only [show Builtin.Dict_items.ownsTuple "dict_valueiterator" = false by decide, zAY, if_false]
  show wpAny _ _ (if (Value.ref d == Value.none) = true then _ else _) _ _ s; rw [if_neg (show ¬ ((Value.ref d == Value.none) = true) from zAQ)]
  refine wpAny_bind (wpAny_pure (wpAny_bind (wpAny_dictEntries hod hdd ?_))); rw [if_neg (by rw [hsz]; simp)]
  refine wpAny_bind (wpAny_pure (wpAny_bind (wpAny_dictEpoch hod hdd ?_))); rw [if_neg (by simp)]; refine wpAny_pure ?_
  simp only [show ¬ ((i : Int) < 0) from by omega, if_false, Int.toNat_natCast, zAZ hlt']; refine wpAny_bind ?_
  (first | refine wpAny_bind (wpAny_typeNameOfWhole_valiter hit.typeIs (wpAny_pure ?_)) | refine wpAny_bind (wpAny_typeNameOf_valiter hit.typeIs (wpAny_pure ?_))); refine wpAny_bind (wpAny_isOneOf_valiter hit.typeIs ?_)
  show wpAny _ _ (setField (.ref it) 1 (rawInt ((i : Int) + 1)) >>= _) _ _ s; refine wpAny_bind (wpAny_setField ho hd (by simp) ?_)
  have hit' : (s.heap.update it (Obj.mapFields (·.setIfInBounds 1 (rawInt ((i : Int) + 1))))).IsValIter it d (i + 1) us.length ep := ⟨_, zA1 _ ho (Obj.isFreed_of_fields (Obj.data_mapFields hd _)), (Obj.cls_mapFields ..).trans hc, by rw [Obj.data_mapFields hd]; simp [rawInt]⟩
  refine wpAny_bind (wpAny_holding (wpAny_bind (wpAny_isOneOf_valiter (s := { s with heap := s.heap.update it (Obj.mapFields (·.setIfInBounds 1 (rawInt ((i : Int) + 1)))) }) hit'.typeIs ?_)))
  refine wpAny_bind (wpAny_isOneOf_valiter (s := { s with heap := s.heap.update it (Obj.mapFields (·.setIfInBounds 1 (rawInt ((i : Int) + 1)))) }) hit'.typeIs ?_); show wpAny _ _ (pure es[i].val) _ _ _
  exact wpAny_pure (wpAny_pure ⟨_, rfl, wpAny_pure (hval ▸ hQ _ hit' (zBB ..))⟩)
 exact two
theorem yr {Q : Option Value -> Shared -> Prop} (hh : A.handled = none) (hit : s.heap.IsValIter it d us.length us.length ep) (hm : b6 s.heap d us ep) (hQ : ∀ h', Heap.ExtBut it s.heap h' -> Q none { s with heap := h' }) : wpAny (model prog w) A (pyNext (.ref it)) Q E s := by
 obtain ⟨o, ho, hc, hd⟩ := id hit
 obtain ⟨od, es, hod, hdd, he⟩ := hm
 have hsz := b6.size he
 unfold pyNext; refine wpAny_bind (wpAny_attempt (wpAny_callSpecial?_slot (name := Str.ofString "__next__") hit.typeIs F.slot_dict_valueiterator_next (wpAny_call_entry F.slot_dict_valueiterator_next hit.typeIs F.entry_dict_valueiterator_next ?_ (F.args_dict_valueiterator_next_1 _))))
 refine wpAny_bind (wpAny_pure (wpAny_bind (wpAny_bind ?_))); (first | refine wpAny_bind (wpAny_typeNameOfWhole_valiter hit.typeIs (wpAny_pure ?_)) | refine wpAny_bind (wpAny_typeNameOf_valiter hit.typeIs (wpAny_pure ?_)))
 refine wpAny_bind (wpAny_fieldsOf ho hd ?_); simp only [show Builtin.Dict_items.ownsTuple "dict_valueiterator" = false by decide, zAY, if_false]
 show wpAny _ _ (if (Value.ref d == Value.none) = true then _ else _) _ _ s; rw [if_neg (show ¬ ((Value.ref d == Value.none) = true) from zAQ)]
 refine wpAny_bind (wpAny_pure (wpAny_bind (wpAny_dictEntries hod hdd ?_))); rw [if_neg (by rw [hsz]; simp)]
 refine wpAny_bind (wpAny_pure (wpAny_bind (wpAny_dictEpoch hod hdd ?_))); rw [if_neg (by simp)]; refine wpAny_pure ?_
 simp only [show ¬ ((us.length : Int) < 0) from by omega, if_false, Int.toNat_natCast, zBY (show es.size <= us.length by omega)]; refine wpAny_bind ?_
 (first | refine wpAny_bind (wpAny_typeNameOfWhole_valiter hit.typeIs (wpAny_pure ?_)) | refine wpAny_bind (wpAny_typeNameOf_valiter hit.typeIs (wpAny_pure ?_))); show wpAny _ _ (setField (.ref it) 0 .none >>= _) _ _ s; refine wpAny_bind (wpAny_setField ho hd (by simp) ?_)
 show wpAny _ _ (newExc (.type "StopIteration") [] >>= _) _ _ _; refine wpAny_bind ?_; simp only [newExc, newTuple]; refine wpAny_bind (wpAny_newObj_type ?_ (by size_fits))
 refine wpAny_bind (m := firstArgMember _ _) (wpAny_of_eq (a := Value.none) (by first | rfl | (simp only [firstArgMember]; rfl)) ?_); refine wpAny_newObj_type ?_ (by size_fits); simp only [raiseNew]; refine wpAny_bind (wpAny_handled ?_)
 rw [show A.in1.handled = none from hh]; refine wpAny_bind (wpAny_pure (wpAny_throw ?_)); refine wpAny_bind (wpAny_isInstance (T := "StopIteration") (b := true) ⟨_, zAL _ rfl, rfl⟩ isSubtype_stop ?_)
 exact wpAny_pure (hQ _ (((zBB ..).extBut.push _).push _))
theorem w4 (hh : A.handled = none) (I d : Addr) (hne : d ≠ I) (us : List Value) (ep : Nat) : Walks prog w A I [I, d] [I] us.length (fun i v => us[i]? = some v) (fun i h => h.IsValIter I d i us.length ep /\ b6 h d us ep) where
 sub := fun b hb => by simp at hb; simp [hb]
 frame := fun _ _ _ st hk => ⟨let ⟨o, ho, r⟩ := st.1; ⟨o, hk I (by simp) o ho, r⟩, st.2.of fun o e => hk d (by simp) o e⟩
 item := fun i s Q E hi st hQ => by
  have hx : us[i]? = some us[i] := by simp [hi]
  exact xP st.1 st.2 hx fun h' hit' hs' => hQ _ h' s.toks hx ⟨hit', st.2.of fun o e => hs'.extBut d o hne e⟩ fun b o hb e => hs'.extBut b o (fun h => hb (by simp [h])) e
 done := fun s Q E st hQ => yr hh st.1 st.2 fun h' he' => hQ h' s.toks fun b o hb e => he' b o (fun h => hb (by simp [h])) e
 self := fun _ _ _ _ st hQ => wpAny_pyIter_valiter st.1 hQ
theorem zS : PySem.W.KdlSrc prog w "dict_values" v d us.length (fun i x => us[i]? = some x) (fun h => h.IsValuesView v d /\ b6 h d us ep) where
 type := fun _ hm => hm.1.typeIs
 there := fun _ hm => ⟨let ⟨_, ho, _⟩ := hm.1; zAJ ho, hm.2.lt⟩
 keep := fun _ _ hm hk => ⟨let ⟨o, ho, x⟩ := hm.1; ⟨o, hk v (.inl rfl) o ho, x⟩, hm.2.of fun o e => hk d (.inr rfl) o e⟩
 notList := by decide
 notTuple := by decide
 hint := fun _ _ _ _ hm hq => PySem.W.kdl_hint_values hm.1.typeIs hq
 iter := fun _ _ hh hm => ⟨_, _, (fun _ _ hq => xD hm.1 hm.2 hq), w4 hh _ d (zAk hm.2.lt) us ep, ⟨⟨_, zAL _ rfl, rfl, rfl⟩, hm.2.of fun o e => zAB _ e⟩⟩
end
end PD
namespace PD
open PySem PySem.Spec PyProof.Rows L2
section
variable {X : Cx} {pos : Pos}
def vwO (d p : Addr) : HO := .ext fun h => h.IsValuesView p d
theorem wB : MtR X "dict.values" (fun x xs H Q => ∃ a kvs, x = .ref a /\ xs = [] /\ H a = some (.dT kvs) /\ ∀ p, H p = none -> Q (.ref p) (L2.upd H p (vwO a p))) := by
 intro pins s σ H x xs v us Q I rx rs h
 obtain ⟨a, kvs, rfl, rfl, ha, q⟩ := h
 cases rx
 cases rs
 obtain ⟨z, hd, ys, rel, dd⟩ := i4 I.hok ha
 refine lR hd dd.typeIs ⟨.ref s.heap.objs.size, _, I.laid (t' := s.toks) (o := vwO a s.heap.objs.size) (fun b u e => zAB _ e) (zAE _) ?_, rfl, q _ (I.hok.fresh (zAE _))⟩
 exact ⟨⟨_, zAL _ rfl, rfl, rfl⟩, ⟨_, zAL _ rfl⟩, fun h1 h2 ⟨o, ho, r⟩ k => ⟨o, k o ho, r⟩⟩
theorem tj {H : Hp} : ∀ {kvs : List (List Key × V)} {xs : List (List Key × Addr × Value)}, KT H kvs xs -> Vals (kvs.map (·.2)) (xs.map (·.2.2))
 | _, _, .nil => .nil
 | _, _, .cons h t => .cons h.2.2 (tj t)
theorem m7 (hc : X.calm = true) : iV X (.type "list") (fun xs H Q => ∃ p d kvs, xs = [.ref p] /\ H p = some (vwO d p) /\ H d = some (.dT kvs) /\ ∀ l, H l = none -> Q (.ref l) (L2.upd H l (.lst (kvs.map (·.2))))) := by
 intro pins s σ H xs us Q I r h
 obtain ⟨p, d, kvs, rfl, hp, hd, q⟩ := h
 obtain ⟨u, rfl, rx⟩ := vals1 r
 cases rx
 obtain ⟨z, _, ys, rel, o, es, ep, h1, h2, h3, h4, _⟩ := i4 I.hok hd
 have lk : ys.length = kvs.length := (Paired.length rel).symm
 have raw : b6 s.heap d (ys.map (·.2.2)) ep := ⟨o, es, h1, h3, by rw [h4, zAg]; rfl⟩
 have vw : s.heap.IsValuesView p d := (show aT X.prog X.w H s.heap p (vwO d p) from I.hok p _ hp).1
 refine PySem.W.kdl_call (zS (ep := ep) (us := ys.map (·.2.2))) (I.ok.hd hc) ⟨vw, raw⟩ (by rw [zAA, lk]; exact z) fun h' tk acc c kp hS hi => ?_
 have ea : acc.toList = ys.map (·.2.2) := by
  apply List.ext_getElem?
  intro j
  cases e : acc.toList[j]? with
  | some y => exact (hi.2 j y (by rw [<- zAC]; exact e)).symm
  | none =>
   have l1 := List.getElem?_eq_none_iff.mp e
   rw [zAT, hi.1] at l1
   exact (List.getElem?_eq_none_iff.mpr l1).symm
 have hv := tj rel
 rw [<- ea] at hv
 exact ⟨.ref s.heap.objs.size, _, I.laid (t' := tk) kp (zAE _) (show aT X.prog X.w _ h' _ (.lst (kvs.map (·.2))) from ⟨by rw [zAA]; exact z, acc.toList, c, hv, by simpa using hS⟩), rfl, q _ (I.hok.fresh (zAE _))⟩
def ux (i : Nat) : DA := fun ρ Q => ∃ kvs, ρ[i]? = some (some (.ob (.dt kvs))) /\ Q (kvs.map (·.2))
theorem vE {x : Str} {p px apos cpos : Pos} (i : Nat) (hc : X.calm = true) (hg : Gl X "list") (hm : X.mg "list" = none) (hN : X.N[i]? = some x := by rfl) (hv : Vis X.env.scope x := by first | exact Or.inl rfl | exact Or.inr (Or.inl rfl) | exact Or.inr (Or.inr rfl)) (hd : (x == ("__debug__" : Str)) = false := by decide)
  (hcd : (x == ("__classdict__" : Str)) = false := by decide) (hbase : attributeBase (.Name x px) "values" X.env (eval (.Name x px) X.env) = eval (.Name x px) X.env := by rfl) (hline : (apos.endLine == cpos.line) = true := by rfl)
  (hst : starEach [.Call (.Attribute (.Name x px) "values" apos) [] [] cpos] X.env = (false, eval (.Call (.Attribute (.Name x px) "values" apos) [] [] cpos) X.env) :: starEach [] X.env := by rfl) (hpl : (backTo pos (starEach [] X.env)).any (·.1) = false := by rfl) :
  PEF X (.Call (.Name "list" p) [.Call (.Attribute (.Name x px) "values" apos) [] [] cpos] [] pos) (ux i) := by
 refine PEF.of (wJ (m7 hc) hg hm boot_list (iI (AR PySem.F.plainAttrs_dict PySem.F.slot_dict_values PySem.F.type_dict_values wB (cX hN hv hd hcd) hbase hline) mJ hst) (by decide) (by decide) hst hpl) (fun σ H W ρ Q r h => ?_) fun _ _ _ _ _ _ I h => Inv.kno I h
 obtain ⟨kvs, eo, q⟩ := h
 obtain ⟨a, kws, oa, sa, ha, ek, hden⟩ := r.ownT eo
 refine ⟨.ref a, sa, .inr (.inr (.inl ⟨rfl, .inr ⟨kws, ha⟩⟩)), a, kws, rfl, rfl, ha, fun b hb => ?_⟩
 have sm : aj H (L2.upd H b (vwO a b)) := aj.upd hb
 exact ⟨b, a, kws, rfl, aC, sm _ _ ha, fun l hl => ⟨l, _, _, _, rfl, sm, hl, rfl, hden.same sm, q⟩⟩
end
section
variable {X : Cx} {pos : Pos}
theorem qw {pins : List (Addr × Obj)} {σ : St} {H : Hp} {s : Shared} {a : Addr} {ks : List Key} (I : Inv X pins σ H s) (h : SqT X.K H a (ks.map kV)) : (tupleKind (aW X.prog X.w)).is s.heap ks a := by
 obtain ⟨its, r, ⟨o, e, hc, n, hd⟩, _⟩ := I.tuple h
 exact ⟨o, its.toArray, n, e, hc, hd, by simpa using jZ r⟩
def uf (i : Nat) (ta : DE) : DE := fun ρ Q => ∃ kvs, ρ[i]? = some (some (.ob (.dt kvs))) /\ ta ρ fun k => ∃ ks : List Key, k = .tup (ks.map ft) /\ Q (.bl (bq kvs ks).isSome)
theorem yX {x : Str} {px : Pos} {e : Expr} {ta : DE} (i : Nat) (hu : X.A.units + 1 < cLine) (he : PED X e ta) (hN : X.N[i]? = some x := by rfl) (hv : Vis X.env.scope x := by first | exact Or.inl rfl | exact Or.inr (Or.inl rfl) | exact Or.inr (Or.inr rfl)) (hd : (x == ("__debug__" : Str)) = false := by decide)
  (hcd : (x == ("__classdict__" : Str)) = false := by decide) (hm : behindInMarks .In (.Name x px) = false := by rfl) : PTD X (.Compare e [.In] [.Name x px] pos) (dB (uf i ta)) := by
 intro pins s σ H W ρ Q I r h
 obtain ⟨kvs, eo, h⟩ := h
 refine wpAny_isTrue_Compare1 (thn (he pins s σ H W ρ _ I r h) fun vv s1 ⟨v, H1, k, I1, rv, e1, hk, ks, ek, kk, ekk', q⟩ => ?_) hm
 subst ek
 cases ekk'
 obtain ⟨b, vs, ev, hq, hds⟩ := hk.tup_
 subst ev
 cases rv
 have := eZ hds
 subst this
 obtain ⟨a, kws, oa, sa, ha, ekk, hden⟩ := (r.same e1).ownT eo
 refine thn (cX hN hv hd hcd pins s1 σ H1 (fun v H' => v = .ref a /\ H' = H1) I1 ⟨.ref a, sa, rfl, rfl⟩) fun u s2 ⟨y, H2, I2, ry, ey, eH⟩ => ?_
 subst ey eH
 cases ry
 obtain ⟨z, hsm, xs, rel, dd⟩ := i4 I2.hok ha
 refine wpAny_in_heap (tupleKind_room_in1 hu) (qw I2 hq) hsm dd ?_
 have q1 := (rel.val ks).isSome_eq
 rw [Option.isSome_map] at q1
 rw [<- q1, rA ekk hden]
 refine wpAny_truthy_bool ?_
 exact ⟨H2, I2.tok _, e1, q⟩
def pW (i : Nat) (tk te : DE) : DS := fun E ρ => ∃ kvs, ρ[i]? = some (some (.ob (.dt kvs))) /\ tk ρ fun k => ∃ (ks : List Key) (n : Int), k = .tup (ks.map ft) /\ bq kvs ks = some (.int n) /\ te ρ fun d => ∃ m, d = .int m /\ E.nx (ρ.set i (some (.ob (.dt (putD kvs ks (.int (n + m)))))))
theorem xt {x : Str} {px tpos : Pos} {b e : Expr} {tb te : DE} (i : Nat) (hu : X.A.units + 1 < cLine) (hb : PED X b tb) (he : PED X e te) (hN : X.N[i]? = some x := by rfl) (hv : Vis X.env.scope x := by first | exact Or.inl rfl | exact Or.inr (Or.inl rfl) | exact Or.inr (Or.inr rfl)) (hd : (x == ("__debug__" : Str)) = false := by decide)
  (hcd : (x == ("__classdict__" : Str)) = false := by decide) (ha : ∀ ov iv new, augStore b ov iv new = (do holding [new, ov, iv] (setItem ov iv new); release [new, ov, iv] []; pure .next) := by intros; rfl) : PSD X (.AugAssign (.Subscript (.Name x px) b tpos) .Add e pos) (pW i tb te) := by
 intro pins s σ H W ρ E I r h
 obtain ⟨kvs, eo, h⟩ := h
 obtain ⟨a, kws, oa, sa, hda, ek, hden⟩ := r.ownT eo
 refine wpAny_AugAssign_SubscriptAny (thn (cX hN hv hd hcd pins s σ H (fun v H' => v = .ref a /\ H' = H) I ⟨.ref a, sa, rfl, rfl⟩) fun u s1 ⟨y, H0, I1, ry, ey, eH⟩ => ?_) ha
 subst ey eH
 cases ry
 refine thn (hb pins s1 σ H0 W ρ _ I1 r h) fun iv s2 ⟨kv, H1, k, I2, rk, e1, hk, ks, n, eks, l, q⟩ => ?_
 subst eks
 obtain ⟨bb, vs, ev, hq, hds⟩ := hk.tup_
 subst ev
 cases rk
 have := eZ hds
 subst this
 obtain ⟨v', l', hv'⟩ := kE ek hden l
 have := hv'.int_
 subst this
 have hd1 := e1 _ _ hda
 obtain ⟨z, hsm, xs, rel, dd⟩ := i4 I2.hok hd1
 obtain ⟨w', hw, rw'⟩ := gc.some_of (v := .int n) (o := (atKey xs ks).map (·.2)) (by rw [<- l']; exact rel.val ks)
 obtain ⟨p, hp, hp2⟩ := zAp.mp hw
 refine wpAny_getItem_heap (tupleKind_room_in1 hu) (qw I2 hq) dd hp ?_
 rw [hp2]
 refine thn (he pins _ σ H1 W ρ _ (I2.tok _) (r.same e1) q) fun w2 s4 ⟨y2, H3, d2, I4, ry2, e3, hd2, m, ed, q3⟩ => ?_
 subst ed
 have := hd2.int_
 subst this
 refine thn (wa pins s4 σ H3 (.int n) (.int m) w' w2 (fun v H' => v = .int (n + m) /\ H' = H3) I4 rw' ry2 ⟨n, m, rfl, rfl, rfl, rfl⟩) fun w3 s5 ⟨zz, H4, I5, rz, ez, eH4⟩ => ?_
 subst ez eH4
 have e13 := e1.trans e3
 have hd3 := e13 _ _ hda
 obtain ⟨z3, hsm3, xs3, rel3, dd3⟩ := i4 I5.hok hd3
 have hz : xs3.length <= sizeLine := by rw [<- Paired.length rel3]; exact z3
 have hsome : (kws.any fun kv => decide (kv.1 = ks)) = true := by rw [eN, l']; rfl
 have hsome3 : (atKey xs3 ks).isSome = true := by
  have q := (rel3.val ks).isSome_eq
  rw [Option.isSome_map] at q
  rw [<- q, l']
  rfl
 have ep : putK kws ks (.int (n + m)) = kws.map fun kv => if kv.1 = ks then (kv.1, .int (n + m)) else kv := by unfold putK; rw [if_pos hsome]
 have hl : (putK kws ks (V.int (n + m))).length <= sizeLine := by rw [ep, zAA]; exact z3
 refine wpAny_setItem_heap (hsz := hz) (tupleKind_room_in1 hu) (qw I5 (SqT.same e3 hq)) dd3 fun h' dd' hs => ?_
 obtain ⟨q', es, ep', hq', h2, h3, h4, _, h5⟩ := dd'
 have relp : KT H4 (putK kws ks (.int (n + m))) (storedH xs3 ks bb w3) := by
  rw [ep]
  unfold storedH
  rw [if_pos hsome3]
  exact rel3.repl ks rz
 have I6 := iC (t' := s5.toks + (tupleKind (aW X.prog X.w)).draws ks) I5 (by rw [hd3]; exact True.intro) hs ⟨q', hq'⟩ (show aT X.prog X.w (L2.upd H4 a (.dT (putK kws ks (.int (n + m))))) h' a (.dT (putK kws ks (.int (n + m)))) from ⟨hl, hsm3, _, relp.keeps fun c ys ec => by rw [ay (cR ec hd3 (fun z => nomatch z))]; exact ec, q', es, ep', hq', h2, h3, h4, h5⟩)
 obtain ⟨p1, p2⟩ := tK (k := ks) ek (hden.same e13) (Den.int (n + m))
 obtain ⟨r2, f2⟩ := (r.same e13).mutG eo oa sa hd3 True.intro (.dt p1 p2)
 exact ⟨W, σ, _, I6, (Fwd.same e13).trans f2, _, r2, q3⟩
end
end PD
namespace PD
open PySem PySem.Spec PyProof.Rows L2
inductive KPs (K : PySem.W.Frag) (P : Bool -> Addr -> Prop) (H : Hp) : List (List D × D) -> List (Value × Value) -> Prop
 | nil : KPs K P H [] []
 | cons {b : Addr} {vs : List V} {ks : List D} {d : D} {x : V} {u : Value} {ds : List (List D × D)} {ws : List (Value × Value)} (hb : H b = some (.tup vs)) (hk : af K P H ks vs) (hd : Den K P H d x) (r : RelV x u) (t : KPs K P H ds ws) : KPs K P H ((ks, d) :: ds) ((.ref b, u) :: ws)
def PPK (X : Cx) (pos : Pos) (keys : List (Option Expr)) (values : List Expr) (t : Ro -> (List (List D × D) -> Prop) -> Prop) : Prop :=
 ∀ (pins : List (Addr × Obj)) (s : Shared) (σ : St) (H : Hp) (W : Own) (ρ : Ro) (Q : List (List D × D) -> Prop), Inv X pins σ H s -> Rel X W H σ ρ -> t ρ Q →
  wpAny (model X.prog X.w) X.A (evalPairs (pairTrees keys values X.env pos)) (fun ws s' => ∃ H' ds, Inv X pins σ H' s' /\ aj H H' /\ KPs X.K W.bad H' ds ws /\ Q ds) X.xe s
section
variable {X : Cx} {pos : Pos}
def uB : Ro -> (List (List D × D) -> Prop) -> Prop := fun _ Q => Q []
def qc (tk tv : DE) (t : Ro -> (List (List D × D) -> Prop) -> Prop) : Ro -> (List (List D × D) -> Prop) -> Prop := fun ρ Q => tk ρ fun k => ∃ ks, k = .tup ks /\ tv ρ fun v => t ρ fun r => Q ((ks, v) :: r)
theorem Ai : PPK X pos [] [] uB := fun pins s σ H W ρ Q I r h => pairTrees_nil_walk ⟨H, [], I, aj.refl H, .nil, h⟩
theorem kA {k v : Expr} {ks : List (Option Expr)} {vs : List Expr} {tk tv : DE} {t : Ro -> (List (List D × D) -> Prop) -> Prop} (hk : PEK X k tk) (hv : PED X v tv) (hr : PPK X pos ks vs t) : PPK X pos (some k :: ks) (v :: vs) (qc tk tv t) := by
 intro pins s σ H W ρ Q I r h
 refine pairTrees_cons_walk (thn (hk pins s σ H W ρ _ I r h) fun u s1 ⟨b, ws, H1, dk, eu, I1, e1, hb, hd, kk, ek, q1⟩ => thn (hv pins s1 σ H1 W ρ _ I1 (r.same e1) q1) fun w2 s2 ⟨y, H2, dy, I2, ry, e2, hy, q2⟩ =>
  thn (hr pins s2 σ H2 W ρ _ I2 ((r.same e1).same e2) q2) fun ws s3 ⟨H3, ds, I3, e3, kp, q3⟩ => ?_)
 cases ek
 subst eu
 exact ⟨H3, _, I3, e1.trans (e2.trans e3), .cons (e3 _ _ (e2 _ _ hb)) (hd.same (e2.trans e3)) (hy.same e3) ry kp, q3⟩
theorem l0 {es : List Expr} {t : DA} {x1} (h : PAD X es t) : PEK X (.Tuple es x1 pos) (uv t) := by
 intro pins s σ H W ρ Q I rr hq
 refine wpAny_Tuple_spliced (thn (h pos pins s σ H W ρ _ I rr hq) fun us s1 ⟨vs, H1, ds, I1, r, e1, hd, z, q⟩ => ?_)
 rw [<- hd.len] at z
 have hf : H1 s1.heap.objs.size = none := I1.hok.fresh (zAE _)
 exact ⟨by rw [<- r.length]; exact z, s1.heap.objs.size, vs, L2.upd H1 s1.heap.objs.size (.tup vs), ds, rfl, I1.laid (t' := s1.toks) (fun b u e => zAB _ e) (zAE _) ⟨z, us, r, ⟨_, zAL _ rfl, rfl, _, rfl⟩⟩, e1.trans (aj.upd hf), aC, hd.same (aj.upd hf), q⟩
inductive KPi (H : Hp) : List (List Key × Int) -> List (Value × Value) -> Prop
 | nil : KPi H [] []
 | cons {b : Addr} {k : List Key} {n : Int} {u : Value} {ds : List (List Key × Int)} {ws : List (Value × Value)} (hb : H b = some (.tup (k.map kV))) (r : RelV (.int n) u) (t : KPi H ds ws) : KPi H ((k, n) :: ds) ((.ref b, u) :: ws)
theorem KPs.ints {K : PySem.W.Frag} {P : Bool -> Addr -> Prop} {H : Hp} : ∀ {kns : List (List Key × Int)} {ws : List (Value × Value)}, KPs K P H (kns.map fun kn => (kn.1.map ft, D.int kn.2)) ws -> KPi H kns ws
 | [], _, h => by rw [zA8] at h; cases h; exact .nil
 | kn :: r, _, h => by
  rw [zAG] at h
  cases h with
  | cons hb hk hd ru t =>
   have e := eZ hk
   subst e
   have e2 := hd.int_
   subst e2
   exact .cons hb ru t.ints
theorem KPi.keep {H : Hp} {a : Addr} {kws kws' : List (List Key × V)} (ha : H a = some (.dT kws)) : ∀ {kns : List (List Key × Int)} {ws : List (Value × Value)}, KPi H kns ws -> KPi (L2.upd H a (.dT kws')) kns ws
 | _, _, .nil => .nil
 | _, _, .cons hb r t => .cons (by rw [ay (cR hb ha (fun z => nomatch z))]; exact hb) r (t.keep ha)
def j1 (kws : List (List Key × V)) (kns : List (List Key × Int)) : List (List Key × V) := kns.foldl (fun acc kn => putK acc kn.1 (.int kn.2)) kws
theorem kh {pins : List (Addr × Obj)} {σ : St} {a : Addr} {A : Around} {E : Value -> Shared -> Prop} (hu : A.units < cLine) : ∀ (kns : List (List Key × Int)) (ws : List (Value × Value)) (kws : List (List Key × V)) (H : Hp) (s : Shared) (Q : PUnit -> Shared -> Prop), Inv X pins σ H s -> H a = some (.dT kws) -> KPi H kns ws -> kws.length + kns.length <= sizeLine →
  (∀ s', Inv X pins σ (L2.upd H a (.dT (j1 kws kns))) s' -> Q PUnit.unit s') -> wpAny (model X.prog X.w) A (storeAll a ws) Q E s
 | [], _, kws, H, s, Q, I, ha, kp, _, q => by
  cases kp
  unfold storeAll
  rw [List.forIn_nil]
  have e : L2.upd H a (.dT (j1 kws [])) = H := by
   funext b
   unfold L2.upd
   split
   ·rename_i e; subst e; exact ha.symm
   ·rfl
  rw [e] at q
  exact wpAny_pure (q s I)
 | (k, n) :: r, _, kws, H, s, Q, I, ha, kp, hz, q => by
  cases kp with
  | cons hb ru t =>
   rw [zAn] at hz
   unfold storeAll
   rw [List.forIn_cons]
   obtain ⟨z, hsm, xs, rel, dd⟩ := i4 I.hok ha
   have hxz : xs.length <= sizeLine := by rw [<- Paired.length rel]; exact z
   have hl : (putK kws k (V.int n)).length <= kws.length + 1 := hV _ _ _
   refine wpAny_bind (wpAny_bind (wpAny_dictSet_heap (hsz := hxz) (knd := tupleKind (aW X.prog X.w)) hu (mC I.hok hb) dd fun h' dd' hs => wpAny_pure ?_))
   obtain ⟨q', es, ep', hq', h2, h3, h4, _, h5⟩ := dd'
   have I6 := iC (t' := s.toks + (tupleKind (aW X.prog X.w)).draws k) I (by rw [ha]; exact True.intro) hs ⟨q', hq'⟩ (show aT X.prog X.w (L2.upd H a (.dT (putK kws k (.int n)))) h' a (.dT (putK kws k (.int n))) from ⟨by omega, hsm, _, (rel.put k hb ru).keeps fun c ys ec => by rw [ay (cR ec ha (fun z => nomatch z))]; exact ec, q', es, ep', hq', h2, h3, h4, h5⟩)
   refine kh hu r _ _ _ _ Q I6 aC (t.keep ha) (by omega) fun s' I' => q s' ?_
   rw [zV] at I'
   exact I'
theorem uO {more : List (List Key × Int)} : ∀ {kws : List (List Key × V)}, (kws.map (·.1) ++ more.map (·.1)).Nodup -> j1 kws more = kws ++ more.map fun kn => (kn.1, V.int kn.2) := by
 induction more with
 | nil => intro kws _; show kws = kws ++ []; rw [zBC]
 | cons p r ih =>
  intro kws h
  show j1 (putK kws p.1 (.int p.2)) r = _
  have hn : (kws.any fun kv => decide (kv.1 = p.1)) = false := by
   rw [List.any_eq_false]
   intro kv hm he
   exact (List.nodup_append.mp h).2.2 kv.1 (List.mem_map_of_mem hm) p.1 (by simp) (of_decide_eq_true he)
  have e : putK kws p.1 (V.int p.2) = kws ++ [(p.1, .int p.2)] := by unfold putK; rw [hn]; rfl
  rw [e, ih (by rw [zAb]; simpa using h)]
  simp
theorem jT {K : PySem.W.Frag} {P : Bool -> Addr -> Prop} {H : Hp} : ∀ kns : List (List Key × Int), af K P H ((kns.map fun kn => (kn.1, D.int kn.2)).map (·.2)) ((kns.map fun kn => (kn.1, V.int kn.2)).map (·.2))
 | [] => af.nil
 | _ :: r => af.cons (Den.int _) (jT r)
def nj (i : Nat) (t : Ro -> (List (List D × D) -> Prop) -> Prop) : DS := fun E ρ => t ρ fun ps => ∃ kns : List (List Key × Int), ps = kns.map (fun kn => (kn.1.map ft, D.int kn.2)) /\ kns.length <= 15 /\ (kns.map (·.1)).Nodup /\ E.nx (ρ.set i (some (.ob (.dt (kns.map fun kn => (kn.1, D.int kn.2))))))
theorem vI {x : Str} {pos' dpos : Pos} {keys : List (Option Expr)} {values : List Expr} {t : Ro -> (List (List D × D) -> Prop) -> Prop} (i : Nat) (hu : X.A.units + 1 < cLine) (hN : X.N.Nodup) (h : PPK X dpos keys values t) (hi : X.N[i]? = some x := by rfl) (hall : keys.all (·.isSome) = true := by rfl) (hl : keys.length = values.length := by rfl) (h0 : keys ≠ [] := by simp)
  (h15 : keys.length <= 15 := by decide) (hx : Loc X.env.scope x := by first | exact Or.inl rfl | exact Or.inr rfl) (hs : swapsWith (.Dict keys values dpos) (some (.Name x pos')) pos.line X.env = pure false := by rfl)
  (hf : X.fn x = true ∨ X.env.scope.names.lookup x = some .local := by first | exact .inl rfl | exact .inr rfl | assumption) : PSD X (.Assign [.Name x pos'] (.Dict keys values dpos) pos) (nj i t) := by
 intro pins s σ H W ρ E I r hq
 have hn := I.hok.fresh (zAE s.heap.objs.size)
 have hkn := Inv.kfresh I
 have I1 := I.laid (a := s.heap.objs.size) (o := .dT []) (h' := s.heap.push { cls := .type "dict", data := .dict #[] }) (t' := s.toks) (fun _ _ q => zAB _ q) (zAE _) (xw s.heap I.big)
 refine wpAny_Assign_Name (wpAny_Dict_any hall hl h0 h15 (thn (h pins _ σ _ W ρ _ I1 (r.same (aj.upd hn)) hq) fun ws s2 ⟨H2, ds, I2, sm, kp, kns, ed, lk, nd, q⟩ => ?_)) hs
 subst ed
 have e := sm _ _ (aC (H := H) (a := s.heap.objs.size) (o := .dT []))
 have em : j1 [] kns = kns.map fun kn => (kn.1, V.int kn.2) := by rw [uO (by simpa using nd)]; rfl
 refine kh (by omega) kns ws [] H2 s2 _ I2 e kp.ints (by rw [sizeLine_eq]; simp; omega) fun s3 I3 => ?_
 rw [em] at I3
 have rp := r.putG (x := .dt (kns.map fun kn => (kn.1, D.int kn.2))) (Inv.ilt I2 hi) (H' := L2.upd H2 s.heap.objs.size (.dT (kns.map fun kn => (kn.1, V.int kn.2)))) (((aj.upd hn).trans sm).ins hn e True.intro True.intro) hn hkn aC (.dt (by simp [zAg, Function.comp_def]) (jT kns))
 exact gG (v := .ref s.heap.objs.size) I3 hN hi hx rfl (fun s3 I4 => ⟨_, _, _, I4, rp.2, _, rp.1, q⟩) hf
end
section
variable {X : Cx} {pos : Pos}
theorem yU (hc : X.calm = true) : cF X (.builtin "max") (fun ds Q => (∃ i j : Int, ds = [.int i, .int j] /\ Q (.int (max i j))) ∨ ∃ (t : Bool) (ns : List Int), ds = [.lst t (ns.map D.int)] /\ 0 < ns.length /\ ∀ m, m ∈ ns -> (∀ n ∈ ns, n <= m) -> Q (.int m)) := by
 intro pins s σ H W ds vs us Q I tr r hd q
 rcases q with ⟨i, j, e, q⟩ | ⟨t, ns, e, hne, q⟩
 ·exact pS hc pins s σ H W ds vs us Q I tr r hd ⟨i, j, e, q⟩
 subst e
 obtain ⟨v, rfl, h1⟩ := kz hd
 obtain ⟨a, ws, ev, _, hq, hw⟩ := h1.lst_
 subst ev
 cases r with
 | cons r1 rr =>
  cases rr
  cases r1
  obtain ⟨its, rv, pl, _⟩ := I.list hq
  rw [dH hw] at rv
  have ia := intsAre_of rv
  obtain ⟨xs, ex⟩ := ia.allInts.items
  have hl : s.heap.IsList a (intItems xs) := by rw [<- ex]; exact pl.isList
  have hns : ns = xs.toList.map (·.1) := by rw [<- ia.numsOf, <- nums_intItems, <- ex]
  have hsz : 0 < xs.size := by rw [hns, zAA, zAT] at hne; exact hne
  refine max_intList (I.ok.hd hc) hl hsz fun y h' tk hy kp => ?_
  obtain ⟨tt, rfl⟩ := intItems_at hy
  obtain ⟨g1, g2⟩ := argBest_gt (numAt xs) (xs.size - 1)
  have at_ : ∀ j, j < xs.size -> xs.toList.map (·.1) ≠ [] -> numAt xs j ∈ ns := fun j hj _ => by
   rw [hns, numAt_eq]
   have : (xs.toList.map (·.1))[j]? = some ((xs.toList.map (·.1)).getD j 0) := by simp [hj]
   exact zAV this
  refine ⟨.int _, H, _, I.kept kp, ⟨_, rfl⟩, aj.refl H, Den.int _, q _ (at_ _ (by omega) (by rw [<- hns]; exact List.ne_nil_of_length_pos hne)) fun n hn => ?_⟩
  rw [hns] at hn
  obtain ⟨j, hj, ej⟩ := zAr hn
  have : numAt xs j = n := by rw [numAt_eq, <- ej]; simp only [zBN, zAH hj, Option.getD_some]
  rw [<- this]
  rw [zAA, zAT] at hj
  exact g2 j (by omega)
end
end PD
namespace PD
open PySem PySem.Spec PyProof.Rows L2
section
variable {X : Cx} {pos : Pos}
end
end PD
namespace PZ
open PySem PySem.Spec PyProof.Rows
abbrev yv (h : Heap) (T : Addr) (a b c : Value) : Prop := h.get? T = some { cls := .type "tuple", data := .seq #[a, b, c] }
structure Ap3 (z TI TO i1 i2 i3 : Addr) : Prop where
 a1 : TI ≠ z
 a2 : TO ≠ z
 a3 : i1 ≠ z
 a4 : i2 ≠ z
 a5 : i3 ≠ z
 b1 : TI ≠ TO
 b2 : TI ≠ i1
 b3 : TI ≠ i2
 b4 : TI ≠ i3
 c1 : TO ≠ i1
 c2 : TO ≠ i2
 c3 : TO ≠ i3
 d1 : i1 ≠ i2
 d2 : i1 ≠ i3
 d3 : i2 ≠ i3
structure B9 (z TO i1 i2 i3 l : Addr) : Prop where
 c1 : l ≠ z
 c2 : l ≠ TO
 c3 : l ≠ i1
 c4 : l ≠ i2
 c5 : l ≠ i3
structure Cb (z TI TO i1 i2 i3 l1 l2 l3 : Addr) (i : Nat) (h : Heap) : Prop where
 z : IsZip h z TI TO .none
 ti : yv h TI (.ref i1) (.ref i2) (.ref i3)
 to : ∃ a b c, yv h TO a b c
 s1 : SIt true h i1 l1 i
 s2 : SIt true h i2 l2 i
 s3 : SIt true h i3 l3 i
section
variable {prog : Program} {w : World} {A : Around} {E : Value -> Shared -> Prop} {s : Shared} {z TI TO i1 i2 i3 l1 l2 l3 : Addr} {i : Nat} {xs ys zs : Array Value}
end
section
variable {prog : Program} {w : World} {A : Around} {E : Value -> Shared -> Prop} {s : Shared} {l1 l2 l3 : Addr} {xs ys zs : Array Value}
end
end PZ
namespace PD
open PySem PySem.Spec PyProof.Rows L2 PZ
section
variable {X : Cx}
end
end PD
namespace PD
open PySem PySem.Spec PyProof.Rows L2
section
variable {X : Cx} {pos : Pos}
end
end PD
namespace ST
open PySem PySem.SetTable
def S : Nat -> Nat
 | 0 => 0
 | n + 1 => 5 * S n + 1
theorem lM : ∀ n, 5 ^ n = 4 * S n + 1
 | 0 => rfl
 | n + 1 => by rw [zA4, lM n]; show _ = 4 * (5 * S n + 1) + 1; omega
theorem t5 (m : Nat) : ∀ n, S (n + m) = 5 ^ m * S n + S m
 | 0 => by simp [S]
 | n + 1 => by
  rw [show n + 1 + m = (n + m) + 1 by omega]
  show 5 * S (n + m) + 1 = 5 ^ m * (5 * S n + 1) + S m
  rw [t5 m n, lM m]
  grind
theorem yw : ∀ k, ∃ o, S (2 ^ k) = 2 ^ k * (2 * o + 1)
 | 0 => ⟨0, rfl⟩
 | k + 1 => by
  obtain ⟨o, e⟩ := yw k
  refine ⟨o + (2 * o + 1) * (2 ^ k * (2 * o + 1)), ?_⟩
  rw [show 2 ^ (k + 1) = 2 ^ k + 2 ^ k by rw [zA4]; omega, t5, lM, e]
  grind
theorem round : ∀ (k x e : Nat), e < 2 ^ k -> ∃ n, n < 2 ^ k /\ (5 ^ n * x + S n) % 2 ^ k = e
 | 0, x, e, h => ⟨0, by decide, by omega⟩
 | k + 1, x, e, h => by
  obtain ⟨n, hn, q⟩ := round k x (e % 2 ^ k) (zBk _ (Nat.two_pow_pos k))
  obtain ⟨o, eo⟩ := yw k
  have hp := Nat.two_pow_pos k
  have h2 : 2 ^ (k + 1) = 2 * 2 ^ k := by rw [zA4]; omega
  generalize hv : 5 ^ n * x + S n = v at q
  have nxt : 5 ^ (n + 2 ^ k) * x + S (n + 2 ^ k) = v + 2 ^ k + 2 ^ (k + 1) * (o + 2 * (2 * o + 1) * v) := by
   rw [t5, Nat.pow_add, lM (2 ^ k), eo, h2, <- hv]
   grind
  generalize 2 ^ k = p at *
  rw [h2] at h ⊢
  by_cases z : v % (2 * p) = e
  ·exact ⟨n, by omega, by rw [hv]; exact z⟩
  ·refine ⟨n + p, by omega, ?_⟩
   rw [nxt, h2, Nat.add_mul_mod_self_left]
   have a1 : v % (2 * p) % p = v % p := Nat.mod_mul_left_mod v 2 p
   have l1 : v % (2 * p) < 2 * p := zBk _ (by omega)
   rw [Nat.add_mod, zBQ (show p < 2 * p by omega)]
   generalize v % (2 * p) = u at *
   have eu : u = u % p ∨ u = u % p + p := by
    by_cases c : u < p
    ·left; rw [zBQ c]
    ·right
     have : u % p = u - p := by rw [Nat.mod_eq_sub_mod (by omega), zBQ (by omega)]
     omega
   have ee : e = e % p ∨ e = e % p + p := by
    by_cases c : e < p
    ·left; rw [zBQ c]
    ·right
     have : e % p = e - p := by rw [Nat.mod_eq_sub_mod (by omega), zBQ (by omega)]
     omega
   have lt : e % p < p := zBk _ hp
   rcases eu with eu | eu <;> rcases ee with ee | ee
   ·omega
   ·rw [zBQ (by omega)]; omega
   ·rw [Nat.mod_eq_sub_mod (by omega), zBQ (by omega)]; omega
   ·omega
def runs (mask : Nat) : Nat -> Nat -> Nat -> List Nat
 | 0, _, _ => []
 | c + 1, i, pt => List.range' i (runEnd mask i + 1 - i) ++ runs mask c (leap mask i pt).1 (leap mask i pt).2
theorem j8 (mask c i pt : Nat) : runs mask (c + 1) i pt = List.range' i (runEnd mask i + 1 - i) ++ runs mask c (leap mask i pt).1 (leap mask i pt).2 := rfl
def bI (mask : Nat) (h : Int) : List Nat := runs mask (turns mask) (bits h % (mask + 1)) (bits h)
theorem fe {mask i : Nat} (h : i <= mask) : i <= runEnd mask i /\ runEnd mask i <= mask /\ runEnd mask i <= i + 9 := by unfold runEnd; split <;> omega
theorem kG (mask i pt : Nat) : (leap mask i pt).1 <= mask := by
 have : (leap mask i pt).1 < mask + 1 := zBk _ (Nat.succ_pos _)
 omega
theorem tR {mask : Nat} : ∀ {c i pt : Nat}, i <= mask -> ∀ x ∈ runs mask c i pt, x <= mask
 | 0, _, _, _, x, h => by cases h
 | c + 1, i, pt, hi, x, h => by
  rcases zAW.mp h with z | z
  ·rw [List.mem_range'_1] at z
   have := fe hi
   omega
  ·exact tR (kG _ _ _) x z
theorem qZ {mask : Nat} : ∀ {c i pt : Nat}, i <= mask -> (runs mask c i pt).length <= 10 * c
 | 0, _, _, _ => zAE _
 | c + 1, i, pt, hi => by
  have ih := qZ (c := c) (pt := (leap mask i pt).2) (kG mask i pt)
  have := fe hi
  unfold runs
  rw [zAR, zAq]
  omega
def bM (mask : Nat) : Nat -> Nat × Nat -> Nat × Nat
 | 0, p => p
 | n + 1, p => bM mask n (leap mask p.1 p.2)
theorem mN {mask : Nat} : ∀ {n c i pt : Nat}, ∀ x ∈ runs mask c (bM mask n (i, pt)).1 (bM mask n (i, pt)).2, x ∈ runs mask (n + c) i pt
 | 0, c, i, pt, x, h => by rw [zBz]; exact h
 | n + 1, c, i, pt, x, h => by
  have := mN (n := n) (c := c) (i := (leap mask i pt).1) (pt := (leap mask i pt).2) x h
  rw [show n + 1 + c = (n + c) + 1 by omega]
  exact zAm _ this
theorem wO {mask c i pt : Nat} (h : i <= mask) : i ∈ runs mask (c + 1) i pt := by
 refine zBj _ ?_
 rw [List.mem_range'_1]
 have := fe h
 omega
theorem qz (mask : Nat) : ∀ (n : Nat) (p : Nat × Nat), (bM mask n p).2 = p.2 / 32 ^ n
 | 0, p => by simp [bM]
 | n + 1, p => by
  show (bM mask n (leap mask p.1 p.2)).2 = _
  rw [qz mask n]
  show p.2 / 32 / 32 ^ n = _
  rw [Nat.div_div_eq_div_mul, zA4, Nat.mul_comm]
theorem mD {mask k : Nat} (hk : mask + 1 = 2 ^ k) : ∀ (n i : Nat), i <= mask -> (bM mask n (i, 0)).1 = (5 ^ n * i + S n) % 2 ^ k
 | 0, i, h => by
  show i = _
  rw [Nat.pow_zero, Nat.one_mul]
  show i = (i + 0) % 2 ^ k
  rw [Nat.add_zero, zBQ (by omega)]
 | n + 1, i, h => by
  have e : leap mask i 0 = ((i * 5 + 1) % (mask + 1), 0) := by unfold leap; simp
  show (bM mask n (leap mask i 0)).1 = _
  rw [e, mD hk n _ (by have := zBk (i * 5 + 1) (show 0 < mask + 1 by omega); omega), hk]
  have a : (5 ^ n * ((i * 5 + 1) % 2 ^ k) + S n) % 2 ^ k = (5 ^ n * (i * 5 + 1) + S n) % 2 ^ k := by
   rw [Nat.add_mod, Nat.mul_mod, Nat.mod_mod, <- Nat.mul_mod, <- Nat.add_mod]
  rw [a, zA4]
  congr 1
  show _ = 5 ^ n * 5 * i + (5 * S n + 1)
  have := lM n
  rw [this]
  grind
theorem oz (mask : Nat) : ∀ (m n : Nat) (p : Nat × Nat), bM mask (m + n) p = bM mask n (bM mask m p)
 | 0, n, p => by rw [zBz]; rfl
 | m + 1, n, p => by
  rw [show m + 1 + n = (m + n) + 1 by omega]
  exact oz mask m n _
theorem qy (mask : Nat) : ∀ (n : Nat) (p : Nat × Nat), p.1 <= mask -> (bM mask n p).1 <= mask
 | 0, _, h => h
 | n + 1, p, _ => qy mask n _ (kG _ _ _)
theorem cover {mask k : Nat} (hk : mask + 1 = 2 ^ k) (h : Int) {e : Nat} (he : e <= mask) : e ∈ bI mask h := by
 have hb : bits h < 2 ^ 64 := by
  unfold bits
  have := Int.emod_lt_of_pos h (show (0 : Int) < 2 ^ 64 by decide)
  have := Int.emod_nonneg h (show (2 ^ 64 : Int) ≠ 0 by decide)
  omega
 have hi : bits h % (mask + 1) <= mask := by have := zBk (bits h) (show 0 < mask + 1 by omega); omega
 generalize hp : (bits h % (mask + 1), bits h) = p
 have p1 : p.1 <= mask := by rw [<- hp]; exact hi
 have z : (bM mask 13 p).2 = 0 := by
  rw [qz, <- hp]
  exact Nat.div_eq_of_lt (zAS hb (by decide))
 have q1 := qy mask 13 p p1
 obtain ⟨n, hn, en⟩ := round k (bM mask 13 p).1 e (by omega)
 have ee : (bM mask (13 + n) p).1 = e := by
  rw [oz]
  have : bM mask 13 p = ((bM mask 13 p).1, 0) := zBx rfl z
  rw [this, mD hk n _ q1]
  exact en
 have := mN (mask := mask) (n := 13 + n) (c := (mask - n) + 2) (i := bits h % (mask + 1)) (pt := bits h) e (by
  have hp' : (bits h % (mask + 1), bits h) = p := hp
  rw [hp', ee]
  exact wO he)
 unfold bI turns
 rw [show mask + 15 = 13 + n + (mask - n + 2) by omega]
 exact this
def fk (xs : Array Nat) : Prop := ∀ a b : Nat, a < b -> b < xs.size -> xs.getD a 0 < xs.getD b 0
theorem lu {xs : Array Nat} {j : Nat} (hr : fk xs) : ∀ (fuel lo hi : Nat), lo <= hi -> hi <= xs.size -> hi - lo <= fuel -> (∀ a, a < lo -> xs.getD a 0 < j) -> (∀ a, hi <= a -> a < xs.size -> j <= xs.getD a 0) →
  (below.go xs j fuel lo hi <= xs.size) /\ (∀ a, a < below.go xs j fuel lo hi -> xs.getD a 0 < j) /\ ∀ a, below.go xs j fuel lo hi <= a -> a < xs.size -> j <= xs.getD a 0
 | 0, lo, hi, h1, h2, h3, h4, h5 => by
  have : lo = hi := by omega
  subst this
  exact ⟨h2, h4, h5⟩
 | fuel + 1, lo, hi, h1, h2, h3, h4, h5 => by
  unfold below.go
  by_cases hlt : lo < hi
  ·rw [if_pos hlt]
   have hm : (lo + hi) / 2 < hi /\ lo <= (lo + hi) / 2 := by omega
   have hg : xs.getD ((lo + hi) / 2) j = xs.getD ((lo + hi) / 2) 0 := by
    have : (lo + hi) / 2 < xs.size := by omega
    simp [Array.getD, this]
   simp only [hg]
   split
   ·rename_i z
    refine lu hr fuel _ hi (by omega) h2 (by omega) (fun a ha => ?_) h5
    by_cases e : a = (lo + hi) / 2
    ·rw [e]; exact z
    ·exact Nat.lt_trans (hr a ((lo + hi) / 2) (by omega) (by omega)) z
   ·rename_i z
    refine lu hr fuel lo _ (by omega) (by omega) (by omega) h4 fun a ha hs => ?_
    by_cases e : a = (lo + hi) / 2
    ·rw [e]; omega
    ·have := hr ((lo + hi) / 2) a (by omega) hs
     omega
  ·rw [if_neg hlt]
   have : lo = hi := by omega
   subst this
   exact ⟨h2, h4, h5⟩
theorem fK {xs : Array Nat} (hr : fk xs) (j : Nat) : below xs j <= xs.size /\ (∀ a, a < below xs j -> xs.getD a 0 < j) /\ ∀ a, below xs j <= a -> a < xs.size -> j <= xs.getD a 0 :=
 lu hr xs.size 0 xs.size (zAi _) (zAE _) (by omega) (fun a h => absurd h (Nat.not_lt_zero _)) fun a h h' => by omega
theorem cy {xs : Array Nat} {a x : Nat} (h : xs[a]? = some x) : xs.getD a 0 = x /\ a < xs.size := by
 obtain ⟨l, e⟩ := zAv.mp h
 exact ⟨by simp [Array.getD, l, e], l⟩
theorem mn {xs : Array Nat} {a : Nat} (h : a < xs.size) : xs[a]? = some (xs.getD a 0) := by simp [Array.getD, h]
theorem below_at {xs : Array Nat} (hr : fk xs) {a j : Nat} (h : xs[a]? = some j) : below xs j = a := by
 obtain ⟨e, l⟩ := cy h
 obtain ⟨b1, b2, b3⟩ := fK hr j
 have h1 : ¬ a < below xs j := fun z => by have := b2 a z; omega
 have h2 : ¬ below xs j < a := fun z => by
  have := b3 (below xs j) (zAE _) (by omega)
  have := hr _ a z l
  omega
 omega
theorem oF {t : SetTable} (hr : fk t.place) {a j : Nat} (h : t.place[a]? = some j) : t.slot j = .live a := by
 unfold SetTable.slot
 rw [below_at hr h]
 simp [h]
theorem u7 {t : SetTable} (hr : fk t.place) (hd : t.dummies = #[]) {j : Nat} (h : j ∉ t.place.toList) : t.slot j = .empty := by
 have n : ¬ ((t.place[below t.place j]? == some j) = true) := fun z => by
  have e : t.place[below t.place j]? = some j := by simpa using z
  exact h (by
   obtain ⟨l, q⟩ := zAv.mp e
   rw [<- q]
   exact Array.getElem_mem_toList l)
 unfold SetTable.slot
 simp only [n, hd]
 have : has #[] j = false := by unfold has; simp
 simp [this]
def ahead (mask : Nat) (c : Nat) (p : Probe) : List Nat := List.range' p.j (p.more + 1) ++ runs mask c (leap mask p.i p.perturb).1 (leap mask p.i p.perturb).2
theorem rF (t : SetTable) (h : Int) : ∃ c, bI t.mask h = ahead t.mask c (t.probeStart h) := by
 refine ⟨t.mask + 14, ?_⟩
 unfold bI ahead turns probeStart
 show runs t.mask ((t.mask + 14) + 1) _ _ = _
 rw [j8]
 have hi : bits h % (t.mask + 1) <= t.mask := by have := zBk (bits h) (show 0 < t.mask + 1 by omega); omega
 have := fe hi
 simp only
 rw [show runEnd t.mask (bits h % (t.mask + 1)) + 1 - bits h % (t.mask + 1) = runEnd t.mask (bits h % (t.mask + 1)) - bits h % (t.mask + 1) + 1 by omega]
theorem t8 (t : SetTable) {c : Nat} {p : Probe} {x : Nat} {r : List Nat} (e : ahead t.mask c p = x :: r) : p.j = x /\ (r = [] ∨ ∃ c', r = ahead t.mask c' (t.advance p)) := by
 unfold ahead at e
 rw [List.range'_succ, zB2] at e
 obtain ⟨e1, e2⟩ := List.cons.inj e
 refine ⟨e1, ?_⟩
 unfold SetTable.advance
 by_cases hm : p.more > 0
 ·right
  refine ⟨c, ?_⟩
  rw [if_pos hm, <- e2]
  unfold ahead
  simp only
  rw [show p.more - 1 + 1 = p.more by omega]
 ·have m0 : p.more = 0 := by omega
  rw [m0] at e2
  simp only [List.range'_zero, zBv] at e2
  cases c with
  | zero => left; rw [<- e2]; rfl
  | succ c =>
   right
   refine ⟨c, ?_⟩
   rw [if_neg hm, <- e2]
   have hl := kG t.mask p.i p.perturb
   have := fe hl
   unfold ahead
   rw [j8]
   simp only
   rw [show runEnd t.mask (leap t.mask p.i p.perturb).1 + 1 - (leap t.mask p.i p.perturb).1 = runEnd t.mask (leap t.mask p.i p.perturb).1 - (leap t.mask p.i p.perturb).1 + 1 by omega]
theorem qS {t : SetTable} (hr : fk t.place) (hd : t.dummies = #[]) (hashAt : Nat -> Int) (h : Int) : ∀ (l : List Nat) (fuel c : Nat) (p : Probe), ahead t.mask c p = l -> l.length <= fuel -> (∃ x ∈ l, x ∉ t.place.toList) -> p.dummy = none →
  (∃ pre j post, l = pre ++ j :: post /\ (∀ x ∈ pre, ∃ a, t.place[a]? = some x /\ hashAt a ≠ h) /\ j ∉ t.place.toList /\ probe.go t hashAt h fuel p = some (.empty j none)) ∨
  ∃ pre j post a q c', l = pre ++ j :: post /\ (∀ x ∈ pre, ∃ a, t.place[a]? = some x /\ hashAt a ≠ h) /\ t.place[a]? = some j /\ hashAt a = h /\ post = ahead t.mask c' q /\ q.dummy = none /\ probe.go t hashAt h fuel p = some (.candidate j a q)
 | [], _, _, _, _, _, hx, _ => by obtain ⟨x, hx, _⟩ := hx; cases hx
 | x :: r, 0, _, _, _, hl, _, _ => by simp at hl
 | x :: r, fuel + 1, c, p, e, hl, hx, hdm => by
  obtain ⟨ej, er⟩ := t8 t e
  subst ej
  unfold probe.go
  by_cases hin : p.j ∈ t.place.toList
  ·obtain ⟨a, hla, ea⟩ := zAr hin
   have ha : t.place[a]? = some p.j := by
    rw [<- zAC, zAH hla, ea]
   rw [oF hr ha]
   have hx' : ∃ x ∈ r, x ∉ t.place.toList := by
    obtain ⟨y, hy, ny⟩ := hx
    rcases zAN.mp hy with z | z
    ·subst z; exact absurd hin ny
    ·exact ⟨y, z, ny⟩
   have er' : ∃ c', r = ahead t.mask c' (t.advance p) := by
    rcases er with z | z
    ·obtain ⟨y, hy, _⟩ := hx'; rw [z] at hy; cases hy
    ·exact z
   have hda : (t.advance p).dummy = none := by unfold SetTable.advance; split <;> exact hdm
   obtain ⟨c', ec⟩ := er'
   simp only
   by_cases hh : hashAt a = h
   ·right
    rw [if_pos (by simpa using hh)]
    exact ⟨[], p.j, r, a, t.advance p, c', rfl, by simp, ha, hh, ec, hda, rfl⟩
   ·rw [if_neg (by simpa using hh)]
    have good : ∃ a, t.place[a]? = some p.j /\ hashAt a ≠ h := ⟨a, ha, hh⟩
    rcases qS hr hd hashAt h r fuel c' (t.advance p) ec.symm (by simp at hl; omega) hx' hda with ⟨pre, j, post, e1, e2, e3, e4⟩ | ⟨pre, j, post, b, q, c2, e1, e2, e3, e4, e5, e6, e7⟩
    ·left
     refine ⟨p.j :: pre, j, post, by rw [e1]; rfl, fun y hy => ?_, e3, e4⟩
     rcases zAN.mp hy with z | z
     ·rw [z]; exact good
     ·exact e2 y z
    ·right
     refine ⟨p.j :: pre, j, post, b, q, c2, by rw [e1]; rfl, fun y hy => ?_, e3, e4, e5, e6, e7⟩
     rcases zAN.mp hy with z | z
     ·rw [z]; exact good
     ·exact e2 y z
  ·left
   rw [u7 hr hd hin]
   exact ⟨[], p.j, r, rfl, by simp, hin, by simp [hdm]⟩
structure Tab (t : SetTable) (hs : List Int) : Prop where
 k : ∃ k, t.mask + 1 = 2 ^ (k + 1)
 rise : fk t.place
 le : ∀ x ∈ t.place.toList, x <= t.mask
 dum : t.dummies = #[]
 len : t.place.size = hs.length
 room : t.place.size <= t.mask
 reach : ∀ (a x : Nat) (h : Int), t.place[a]? = some x -> hs[a]? = some h -> ∃ pre post, bI t.mask h = pre ++ x :: post /\ ∀ y ∈ pre, y ∈ t.place.toList
theorem Tab.fits {t : SetTable} {hs : List Int} (T : Tab t hs) : t.fits hs.length = true := by
 unfold SetTable.fits SetTable.fill
 rw [T.dum]
 simp [T.len]
 have := T.len
 have := T.room
 omega
theorem Tab.stays {t : SetTable} {hs : List Int} (T : Tab t hs) : t.gaveWay = false := by
 obtain ⟨k, e⟩ := T.k
 unfold SetTable.gaveWay
 rw [zA4] at e
 have : t.mask % 2 = 1 := by omega
 rw [this]
 rfl
theorem ye {xs : Array Nat} (hr : fk xs) {a b x y : Nat} (ha : xs[a]? = some x) (hb : xs[b]? = some y) (h : x < y) : a < b := by
 obtain ⟨e1, l1⟩ := cy ha
 obtain ⟨e2, l2⟩ := cy hb
 rcases Nat.lt_trichotomy a b with z | z | z
 ·exact z
 ·subst z; omega
 ·have := hr b a z l1
  omega
theorem tD {xs : Array Nat} {x : Nat} (h : x ∈ xs.toList) : ∃ a : Nat, xs[a]? = some x := by
 obtain ⟨a, hla, ea⟩ := zAr h
 exact ⟨a, by rw [<- zAC, zAH hla, ea]⟩
theorem get_mem {xs : Array Nat} {a x : Nat} (h : xs[a]? = some x) : x ∈ xs.toList := by
 obtain ⟨l, q⟩ := zAv.mp h
 rw [<- q]
 exact Array.getElem_mem_toList l
theorem y7 {xs : Array Nat} (hr : fk xs) {mask : Nat} (hs : xs.size <= mask) : ∃ e, e <= mask /\ e ∉ xs.toList := by
 refine zAl fun no => ?_
 have all : ∀ e, e <= mask -> e ∈ xs.toList := fun e he => zAl fun n => no ⟨e, he, n⟩
 have up : ∀ j, j <= mask -> ∃ a, xs[a]? = some j /\ j <= a := by
  intro j
  induction j with
  | zero => intro h; obtain ⟨a, ha⟩ := tD (all 0 h); exact ⟨a, ha, zAi _⟩
  | succ j ih =>
   intro h
   obtain ⟨a, ha, hja⟩ := ih (by omega)
   obtain ⟨b, hb⟩ := tD (all (j + 1) h)
   have := ye hr ha hb (by omega)
   exact ⟨b, hb, by omega⟩
 obtain ⟨a, ha, hm⟩ := up mask (zAE _)
 have := (cy ha).2
 omega
theorem Tab.empty {t : SetTable} {hs : List Int} (T : Tab t hs) (h : Int) : ∃ x ∈ bI t.mask h, x ∉ t.place.toList := by
 obtain ⟨e, he, ne⟩ := y7 T.rise T.room
 obtain ⟨k, hk⟩ := T.k
 exact ⟨e, cover hk h he, ne⟩
theorem mZ (mask : Nat) (h : Int) : (bI mask h).length <= 10 * turns mask := qZ (by have := zBk (bits h) (show 0 < mask + 1 by omega); omega)
theorem kj (mask : Nat) (h : Int) : ∀ x ∈ bI mask h, x <= mask := tR (by have := zBk (bits h) (show 0 < mask + 1 by omega); omega)
theorem jb {α : Type} (xs : Array α) (p : Nat) (x : α) : (insertAt xs p x).toList = xs.toList.take p ++ x :: xs.toList.drop p := by
 unfold insertAt
 simp
 exact zAh (by rw [zAo, zAT]; exact zAE _)
theorem get_ins {α : Type} {l : List α} {p : Nat} (hp : p <= l.length) (x : α) (a : Nat) : (l.take p ++ x :: l.drop p)[a]? = if a < p then l[a]? else if a = p then some x else l[a - 1]? := by
 by_cases h : a < p
 ·rw [if_pos h, zAa (by rw [zAc]; omega), zBt, if_pos h]
 ·rw [if_neg h, zAM (by rw [zAc]; omega), zAc, zBD hp]
  by_cases e : a = p
  ·rw [if_pos e, e, zCF]; rfl
  ·rw [if_neg e, show a - p = (a - p - 1) + 1 by omega, List.getElem?_cons_succ, zBa, show p + (a - p - 1) = a - 1 by omega]
theorem Tab.put {t : SetTable} {hs : List Int} (T : Tab t hs) {h : Int} {j : Nat} {pre post : List Nat} (hj : j ∉ t.place.toList) (hv : bI t.mask h = pre ++ j :: post) (hp : ∀ y ∈ pre, y ∈ t.place.toList) (hroom : t.place.size + 1 <= t.mask) :
  Tab (t.put j).1 (hs.take (t.put j).2 ++ h :: hs.drop (t.put j).2) /\ (t.put j).2 <= hs.length /\ (t.put j).1.mask = t.mask /\ (t.put j).1.place.size = t.place.size + 1 := by
 have e1 : (t.put j).1.place = insertAt t.place (below t.place j) j := rfl
 have e2 : (t.put j).2 = below t.place j := rfl
 have e3 : (t.put j).1.mask = t.mask := rfl
 have e4 : (t.put j).1.dummies = #[] := by
  show (if has t.dummies j then _ else t.dummies) = _
  rw [T.dum]
  have : has #[] j = false := by unfold has; simp
  rw [this]
  rfl
 obtain ⟨b1, b2, b3⟩ := fK T.rise j
 have bp : below t.place j <= t.place.toList.length := by rw [zAT]; exact b1
 have bh : below t.place j <= hs.length := by rw [<- T.len]; exact b1
 have gl : ∀ a, (t.put j).1.place[a]? = if a < below t.place j then t.place[a]? else if a = below t.place j then some j else t.place[a - 1]? := fun a => by
  rw [e1, <- zAC, jb, get_ins bp, zAC, zAC]
 have sz : (t.put j).1.place.size = t.place.size + 1 := by
  rw [e1, <- zAT, jb, zAR, zAc, zAn, zAo, zAT]
  omega
 have mem : ∀ x, x ∈ (t.put j).1.place.toList ↔ x = j ∨ x ∈ t.place.toList := fun x => by
  rw [e1, jb, zAW, zAN]
  constructor
  ·rintro (z | z | z)
   ·exact .inr (zA3 z)
   ·exact .inl z
   ·exact .inr (zA7 z)
  ·rintro (z | z)
   ·exact .inr (.inl z)
   ·rw [<- zAf (below t.place j) t.place.toList] at z
    rcases zAW.mp z with q | q
    ·exact .inl q
    ·exact .inr (.inr q)
 refine ⟨⟨T.k, ?_, ?_, e4, ?_, by rw [sz]; exact hroom, ?_⟩, bh, e3, sz⟩
 ·intro a b hab hb
  rw [sz] at hb
  have ga := mn (xs := (t.put j).1.place) (a := a) (by rw [sz]; omega)
  have gb := mn (xs := (t.put j).1.place) (a := b) (by rw [sz]; exact hb)
  rw [gl a] at ga
  rw [gl b] at gb
  have jn : ∀ c, c < t.place.size -> t.place.getD c 0 ≠ j := fun c hc e => hj (by rw [<- e]; exact get_mem (mn hc))
  by_cases a1 : a < below t.place j
  ·rw [if_pos a1] at ga
   obtain ⟨ea, la⟩ := cy ga
   have := b2 a a1
   by_cases c1 : b < below t.place j
   ·rw [if_pos c1] at gb
    obtain ⟨eb, lb⟩ := cy gb
    have := T.rise a b hab lb
    omega
   ·rw [if_neg c1] at gb
    by_cases c2 : b = below t.place j
    ·rw [if_pos c2] at gb
     have := zAd gb
     omega
    ·rw [if_neg c2] at gb
     obtain ⟨eb, lb⟩ := cy gb
     have := T.rise a (b - 1) (by omega) lb
     omega
  ·rw [if_neg a1] at ga
   have c1 : ¬ b < below t.place j := by omega
   have c2 : ¬ b = below t.place j := by omega
   rw [if_neg c1, if_neg c2] at gb
   obtain ⟨eb, lb⟩ := cy gb
   by_cases a2 : a = below t.place j
   ·rw [if_pos a2] at ga
    have := zAd ga
    have := b3 (b - 1) (by omega) lb
    have := jn (b - 1) lb
    omega
   ·rw [if_neg a2] at ga
    obtain ⟨ea, la⟩ := cy ga
    have := T.rise (a - 1) (b - 1) (by omega) lb
    omega
 ·intro x hx
  rcases (mem x).mp hx with z | z
  ·subst z
   exact kj t.mask h x (by rw [hv]; simp)
  ·exact T.le x z
 ·rw [sz, e2, zAR, zAc, zAn, zAo, <- T.len]
  omega
 ·intro a x h' hx hh
  rw [gl a] at hx
  rw [e2, get_ins bh] at hh
  have up : ∀ {l : List Nat}, (∀ y ∈ l, y ∈ t.place.toList) -> ∀ y ∈ l, y ∈ (t.put j).1.place.toList := fun hl y hy => (mem y).mpr (.inr (hl y hy))
  by_cases a1 : a < below t.place j
  ·rw [if_pos a1] at hx hh
   obtain ⟨p1, p2, q1, q2⟩ := T.reach a x h' hx hh
   exact ⟨p1, p2, q1, up q2⟩
  ·rw [if_neg a1] at hx hh
   by_cases a2 : a = below t.place j
   ·rw [if_pos a2] at hx hh
    cases hx
    cases hh
    exact ⟨pre, post, hv, up hp⟩
   ·rw [if_neg a2] at hx hh
    obtain ⟨p1, p2, q1, q2⟩ := T.reach (a - 1) x h' hx hh
    exact ⟨p1, p2, q1, up q2⟩
theorem oo (mask : Nat) (owner : Array (Option Nat)) : ∀ (fuel i pt : Nat), layClean.free mask owner fuel i pt = (runs mask fuel i pt).find? fun y => (owner.getD y (some 0)).isNone
 | 0, _, _ => rfl
 | fuel + 1, i, pt => by
  rw [j8, List.find?_append, List.range'_eq_map_range, List.find?_map]
  unfold layClean.free
  have ih := oo mask owner fuel (leap mask i pt).1 (leap mask i pt).2
  have ef : ((fun y => (owner.getD y (some 0)).isNone) ∘ fun x => i + x) = fun k => (owner.getD (i + k) (some 0)).isNone := rfl
  rw [ef]
  cases (List.range (runEnd mask i + 1 - i)).find? fun k => (owner.getD (i + k) (some 0)).isNone with
  | some k => rfl
  | none => exact ih
structure Ow (mask : Nat) (hs : List Int) (owner : Array (Option Nat)) : Prop where
 size : owner.size = mask + 1
 cnt : (owner.toList.filter Option.isSome).length = hs.length
 at_ : ∀ (i : Nat) (h : Int), hs[i]? = some h -> ∃ j : Nat, owner[j]? = some (some i) /\ ∃ pre post, bI mask h = pre ++ j :: post /\ ∀ y ∈ pre, ∃ q, owner[y]? = some (some q)
 lt : ∀ j i : Nat, owner[j]? = some (some i) -> i < hs.length
 inj : ∀ j j' i : Nat, owner[j]? = some (some i) -> owner[j']? = some (some i) -> j = j'
theorem mj {α : Type} {p : α -> Bool} : ∀ {l : List α} {x : α}, l.find? p = some x -> ∃ pre post, l = pre ++ x :: post /\ p x = true /\ ∀ y ∈ pre, p y = false
 | [], _, h => by cases h
 | a :: r, x, h => by
  rw [zA2] at h
  cases pa : p a with
  | true => rw [pa] at h; cases h; exact ⟨[], r, rfl, pa, by simp⟩
  | false =>
   rw [pa] at h
   obtain ⟨pre, post, e, q1, q2⟩ := mj h
   refine ⟨a :: pre, post, by rw [e]; rfl, q1, fun y hy => ?_⟩
   rcases zAN.mp hy with z | z
   ·rw [z]; exact pa
   ·exact q2 y z
theorem mi {α : Type} {p : α -> Bool} : ∀ {l : List α} {j : Nat} {a b : α}, l[j]? = some a -> p a = false -> p b = true -> ((l.set j b).filter p).length = (l.filter p).length + 1
 | [], _, _, _, h, _, _ => by simp at h
 | x :: r, 0, a, b, h, ha, hb => by
  simp at h
  subst h
  rw [zCD, zBI hb, zBH (by simp [ha]), zAn]
 | x :: r, j + 1, a, b, h, ha, hb => by
  have ih := mi (l := r) (j := j) (by simpa using h) ha hb
  rw [List.set_cons_succ]
  by_cases c : p x = true
  ·rw [zBI c, zBI c, zAn, zAn, ih]
  ·rw [zBH c, zBH c, ih]
theorem Ow.step {mask k : Nat} (hk : mask + 1 = 2 ^ k) {hs : List Int} {owner : Array (Option Nat)} (O : Ow mask hs owner) (hn : hs.length <= mask) (h : Int) :
  ∃ j, layClean.free mask owner (turns mask) (bits h % (mask + 1)) (bits h) = some j /\ Ow mask (hs ++ [h]) (owner.setIfInBounds j (some hs.length)) := by
 have ex : ∃ e : Nat, e <= mask /\ owner[e]? = some none := by
  refine zAl fun no => ?_
  have all : ∀ x ∈ owner.toList, Option.isSome x = true := fun x hx => by
   obtain ⟨e, le, ee⟩ := zAr hx
   rw [zAT, O.size] at le
   cases x with
   | some _ => rfl
   | none => exact absurd ⟨e, by omega, by rw [<- zAC, zAH (by rw [zAT, O.size]; exact le), ee]⟩ no
  have := O.cnt
  rw [zBp.mpr all, zAT, O.size] at this
  omega
 have emp : ∀ y, y <= mask -> ((owner.getD y (some 0)).isNone = true ↔ owner[y]? = some none) := fun y hy => by
  have l : y < owner.size := by rw [O.size]; omega
  rw [zAZ l]
  simp [Array.getD, l]
 obtain ⟨e, he, ee⟩ := ex
 have fs : ((bI mask h).find? fun y => (owner.getD y (some 0)).isNone).isSome = true := by
  rw [List.find?_isSome]
  exact ⟨e, cover hk h he, (emp e he).mpr ee⟩
 obtain ⟨j, fj⟩ := Option.isSome_iff_exists.mp fs
 obtain ⟨pre, post, ev, pj, pp⟩ := mj fj
 have jm : j <= mask := kj mask h j (by rw [ev]; simp)
 have oj := (emp j jm).mp pj
 have jl : j < owner.size := by rw [O.size]; omega
 refine ⟨j, by rw [oo]; exact fj, ?_⟩
 have gs : ∀ y : Nat, (owner.setIfInBounds j (some hs.length))[y]? = if j = y then some (some hs.length) else owner[y]? := fun y => by
  rw [Array.getElem?_setIfInBounds]
  by_cases c : j = y
  ·rw [if_pos c, if_pos c, if_pos jl]
  ·rw [if_neg c, if_neg c]
 have keep : ∀ (y q : Nat), owner[y]? = some (some q) -> (owner.setIfInBounds j (some hs.length))[y]? = some (some q) := fun y q hy => by
  rw [gs, if_neg (fun c => by subst c; rw [oj] at hy; cases hy)]
  exact hy
 refine ⟨by rw [Array.size_setIfInBounds]; exact O.size, ?_, ?_, ?_, ?_⟩
 ·rw [zB5, mi (a := none) (by rw [zAC]; exact oj) rfl rfl, O.cnt, zAR]
  rfl
 ·intro i h' hi
  by_cases c : i < hs.length
  ·rw [zAa c] at hi
   obtain ⟨j', o', p1, p2, q1, q2⟩ := O.at_ i h' hi
   exact ⟨j', keep _ _ o', p1, p2, q1, fun y hy => let ⟨q, z⟩ := q2 y hy; ⟨q, keep _ _ z⟩⟩
  ·rw [zAM (by omega)] at hi
   have ei : i = hs.length := by
    have := (zAF.mp hi).1
    simp at this
    omega
   subst ei
   simp at hi
   subst hi
   refine ⟨j, by rw [gs, if_pos rfl], pre, post, ev, fun y hy => ?_⟩
   have ym : y <= mask := kj mask h y (by rw [ev]; simp [hy])
   have ny := pp y hy
   have yl : y < owner.size := by rw [O.size]; omega
   cases oy : owner[y] with
   | none =>
    have := (emp y ym).mpr (by rw [zAZ yl, oy])
    rw [this] at ny
    cases ny
   | some q => exact ⟨q, keep y q (by rw [zAZ yl, oy])⟩
 ·intro y i hy
  rw [gs] at hy
  rw [zAR]
  by_cases c : j = y
  ·rw [if_pos c] at hy
   cases hy
   simp
  ·rw [if_neg c] at hy
   have := O.lt y i hy
   simp
   omega
 ·intro y y' i hy hy'
  rw [gs] at hy hy'
  by_cases c : j = y <;> by_cases c' : j = y'
  ·omega
  ·rw [if_pos c] at hy
   rw [if_neg c'] at hy'
   cases hy
   have := O.lt y' _ hy'
   omega
  ·rw [if_neg c] at hy
   rw [if_pos c'] at hy'
   cases hy'
   have := O.lt y _ hy
   omega
  ·rw [if_neg c] at hy
   rw [if_neg c'] at hy'
   exact O.inj y y' i hy hy'
theorem qx {mask k : Nat} (hk : mask + 1 = 2 ^ k) : ∀ (rest hs : List Int) (owner : Array (Option Nat)), Ow mask hs owner -> hs.length + rest.length <= mask + 1 →
  ∃ owner', rest.foldl (fun (acc : Option (Array (Option Nat) × Nat)) h => do
   let (owner, k) ← acc
   let j ← layClean.free mask owner (turns mask) (bits h % (mask + 1)) (bits h)
   pure (owner.setIfInBounds j (some k), k + 1)) (some (owner, hs.length)) = some (owner', (hs ++ rest).length) /\ Ow mask (hs ++ rest) owner'
 | [], hs, owner, O, _ => ⟨owner, by simp, by rw [zBC]; exact O⟩
 | h :: r, hs, owner, O, hl => by
  rw [zAn] at hl
  obtain ⟨j, fj, O'⟩ := O.step hk (by omega) h
  obtain ⟨o', e', Q⟩ := qx hk r (hs ++ [h]) _ O' (by rw [zAR]; simp; omega)
  refine ⟨o', ?_, by rw [zAw] at Q; exact Q⟩
  rw [List.foldl_cons]
  have : (do
   let (owner, k) ← (some (owner, hs.length) : Option (Array (Option Nat) × Nat))
   let j ← layClean.free mask owner (turns mask) (bits h % (mask + 1)) (bits h)
   pure (owner.setIfInBounds j (some k), k + 1)) = some (owner.setIfInBounds j (some hs.length), (hs ++ [h]).length) := by
   show (layClean.free mask owner (turns mask) (bits h % (mask + 1)) (bits h) >>= _) = _
   rw [fj]
   simp
  rw [this, e']
  simp
theorem rO {mask k : Nat} (hk : mask + 1 = 2 ^ k) (hashes : Array Int) (hl : hashes.size <= mask + 1) : ∃ owner, layClean mask hashes = some owner /\ Ow mask hashes.toList owner := by
 have O : Ow mask [] (Array.replicate (mask + 1) none) := by
  refine ⟨by simp, by simp, by simp, fun j i h => ?_, fun j j' i h _ => ?_⟩
  ·rw [Array.getElem?_replicate] at h
   split at h <;> cases h
  ·rw [Array.getElem?_replicate] at h
   split at h <;> cases h
 obtain ⟨o, e, Q⟩ := qx hk hashes.toList [] _ O (by rw [zAT]; simp; omega)
 refine ⟨o, ?_, by simpa using Q⟩
 unfold layClean
 rw [<- Array.foldl_toList]
 show Option.map _ (List.foldl _ (some (Array.replicate (mask + 1) none, ([] : List Int).length)) _) = _
 rw [e]
 rfl
def live (mask : Nat) (owner : Array (Option Nat)) : List (Nat × Nat) := (List.range (mask + 1)).filterMap fun j => (owner.getD j none).map (j, ·)
theorem d6 {mask : Nat} {hs : List Int} {owner : Array (Option Nat)} (O : Ow mask hs owner) {j i : Nat} : (j, i) ∈ live mask owner ↔ owner[j]? = some (some i) := by
 unfold live
 rw [zBu]
 constructor
 ·rintro ⟨y, hy, e⟩
  rw [List.mem_range] at hy
  obtain ⟨q, e1, e2⟩ := zAp.mp e
  cases e2
  have l : j < owner.size := by rw [O.size]; exact hy
  rw [zAZ l, <- e1]
  simp [Array.getD, l]
 ·intro h
  obtain ⟨l, e⟩ := zAv.mp h
  refine ⟨j, by rw [List.mem_range, <- O.size]; exact l, ?_⟩
  rw [show owner.getD j none = some i by simp [Array.getD, l, e]]
  rfl
theorem lC (mask : Nat) (owner : Array (Option Nat)) : (live mask owner).map (·.1) = (List.range (mask + 1)).filter fun j => (owner.getD j none).isSome := by
 unfold live
 induction List.range (mask + 1) with
 | nil => rfl
 | cons a r ih =>
  cases e : owner.getD a none with
  | none => rw [List.filterMap_cons_none (by rw [e]; rfl), zBH (by simp [e]), ih]
  | some q => rw [zBn (by rw [e]; rfl), zBI (by simp [e]), zAG, ih]
theorem xJ {mask : Nat} {hs : List Int} {owner : Array (Option Nat)} (O : Ow mask hs owner) : (live mask owner).length = hs.length := by
 have e1 : (live mask owner).length = ((live mask owner).map (·.1)).length := by simp
 have e2 : owner.toList = (List.range (mask + 1)).map fun j => owner.getD j none := by
  apply List.ext_getElem?
  intro j
  rw [zAO, zAC]
  by_cases c : j < mask + 1
  ·have l : j < owner.size := by rw [O.size]; exact c
   rw [List.getElem?_range c, zAZ l]
   simp [Array.getD, l]
  ·rw [List.getElem?_eq_none (by rw [List.length_range]; omega), zBY (by rw [O.size]; omega)]
   rfl
 rw [e1, lC, <- O.cnt, e2, List.filter_map, zAA]
 rfl
theorem oA (mask : Nat) (owner : Array (Option Nat)) : ((live mask owner).map (·.1)).Pairwise (· < ·) := by
 rw [lC]
 exact List.Pairwise.filter _ List.pairwise_lt_range
theorem zN {l : List Nat} (h : l.Pairwise (· < ·)) : fk l.toArray := by
 intro a b hab hb
 have hb' : b < l.length := by simpa using hb
 have := zAs.mp h a b (by omega) hb' hab
 simp [Array.getD, show a < l.length by omega, hb']
 exact this
theorem ze {mask k : Nat} (hk : mask + 1 = 2 ^ (k + 1)) (finger moves : Nat) (led plain : Bool) {V : Type} (es : Array (Int × V)) (hl : es.size <= mask) :
  ∃ t order, laid mask finger moves led plain (es.map (·.1)) = some (t, order) /\ t.mask = mask /\ t.led = led /\ t.plain = plain ∧
   ∃ es' : List (Int × V), (order.filterMap (es[·]?)).toList = es' /\ es'.length = es.size /\ Tab t (es'.map (·.1)) /\ t.place.size = es.size ∧
    (∀ (a : Nat) (e : Int × V), es'[a]? = some e -> ∃ i : Nat, order[a]? = some i /\ es[i]? = some e) /\ (∀ i : Nat, i < es.size -> ∃ a : Nat, order[a]? = some i) /\ ∀ (a b i : Nat), order[a]? = some i -> order[b]? = some i -> a = b := by
 obtain ⟨owner, eo, O⟩ := rO hk (es.map (·.1)) (by rw [Array.size_map]; omega)
 have hsl : (es.map (·.1)).toList.length = es.size := by simp
 refine ⟨{ mask, place := ((live mask owner).map (·.1)).toArray, dummies := #[], finger, led, moves, plain }, ((live mask owner).map (·.2)).toArray, by unfold laid; rw [eo]; rfl, rfl, rfl, rfl, ?_⟩
 have ll := xJ O
 rw [hsl] at ll
 have lt : ∀ p ∈ live mask owner, p.2 < es.size := fun p hp => by
  have := O.lt p.1 p.2 ((d6 O).mp hp)
  rw [hsl] at this
  exact this
 have els : ∀ l : List (Nat × Nat), (∀ p ∈ l, p.2 < es.size) -> (((l.map (·.2)).filterMap fun i => es[i]?).map some) = l.map fun p => es[p.2]? := fun l hl => by
  induction l with
  | nil => rfl
  | cons p r ih =>
   have lp := hl p (by simp)
   rw [zAG, zBn (zAZ lp), zAG, zAG, ih fun q hq => hl q (by simp [hq]), zAZ lp]
 have ge : ∀ a : Nat, ((((live mask owner).map (·.2)).filterMap fun i => es[i]?)[a]?).map some = ((live mask owner)[a]?).map fun p => es[p.2]? := fun a => by
  have := congrArg (fun l => l[a]?) (els _ lt)
  simp only [zAO] at this
  exact this
 refine ⟨((live mask owner).map (·.2)).filterMap fun i => es[i]?, by simp, ?_, ?_, ?_, ?_, ?_, ?_⟩
 ·have := congrArg List.length (els _ lt)
  rw [zAA, zAA] at this
  rw [this, ll]
 ·refine ⟨⟨k, hk⟩, zN (oA mask owner), ?_, rfl, ?_, ?_, ?_⟩
  ·intro x hx
   have hx' : x ∈ (live mask owner).map (·.1) := by simpa using hx
   rw [lC, zBJ, List.mem_range] at hx'
   show x <= mask
   omega
  ·have := congrArg List.length (els _ lt)
   rw [zAA, zAA] at this
   show ((live mask owner).map (·.1)).toArray.size = _
   rw [zAP, zAA, zAA, this]
  ·show ((live mask owner).map (·.1)).toArray.size <= mask
   rw [zAP, zAA, ll]
   exact hl
  ·intro a x h hx hh
   have hx' : ((live mask owner).map (·.1))[a]? = some x := by simpa using hx
   rw [zAO] at hx'
   obtain ⟨p, ep, e1⟩ := zAp.mp hx'
   have g := ge a
   rw [ep] at g
   have lp := lt p (zAV ep)
   rw [zAO] at hh
   obtain ⟨e, ee, eh⟩ := zAp.mp hh
   rw [ee, Option.map_some, Option.map_some, zAZ lp] at g
   have ge' := zAd (zAd g)
   obtain ⟨j', o', pre, post, ev, q⟩ := O.at_ p.2 h (by
    rw [<- eh, ge', <- zAC] at *
    rw [zAC, Array.getElem?_map, zAZ lp]
    rfl)
   have oj := (d6 O).mp (show (p.1, p.2) ∈ live mask owner from zAV ep)
   have := O.inj j' p.1 p.2 o' oj
   subst this
   subst e1
   refine ⟨pre, post, ev, fun y hy => ?_⟩
   obtain ⟨z, hz⟩ := q y hy
   show y ∈ ((live mask owner).map (·.1)).toArray.toList
   simp only [zAU]
   exact ⟨(y, z), (d6 O).mpr hz, rfl⟩
 ·show ((live mask owner).map (·.1)).toArray.size = _
  rw [zAP, zAA, ll]
 ·intro a e he
  have g := ge a
  rw [he] at g
  cases ep : (live mask owner)[a]? with
  | none => rw [ep] at g; cases g
  | some p =>
   rw [ep] at g
   exact ⟨p.2, by simp [ep], (zAd g).symm⟩
 ·intro i hi
  obtain ⟨h, hh⟩ : ∃ h, (es.map (·.1)).toList[i]? = some h := ⟨_, zAH (by rw [hsl]; exact hi)⟩
  obtain ⟨j, oj, _⟩ := O.at_ i h hh
  obtain ⟨a, la, ea⟩ := zAr ((d6 O).mpr oj)
  exact ⟨a, by simp [zAH la, ea]⟩
 ·intro a b i ha hb
  have ha' : ((live mask owner).map (·.2))[a]? = some i := by simpa using ha
  have hb' : ((live mask owner).map (·.2))[b]? = some i := by simpa using hb
  rw [zAO] at ha' hb'
  obtain ⟨p, ep, e1⟩ := zAp.mp ha'
  obtain ⟨q, eq, e2⟩ := zAp.mp hb'
  have o1 := (d6 O).mp (show (p.1, p.2) ∈ live mask owner from zAV ep)
  have o2 := (d6 O).mp (show (q.1, q.2) ∈ live mask owner from zAV eq)
  have ej := O.inj p.1 q.1 i (by rw [<- e1]; exact o1) (by rw [<- e2]; exact o2)
  have r := oA mask owner
  have la := (zAF.mp ep)
  have lb := (zAF.mp eq)
  obtain ⟨la1, la2⟩ := la
  obtain ⟨lb1, lb2⟩ := lb
  rcases Nat.lt_trichotomy a b with z | z | z
  ·have := zAs.mp r a b (by rw [zAA]; exact la1) (by rw [zAA]; exact lb1) z
   rw [zBF, zBF, la2, lb2] at this
   omega
  ·exact z
  ·have := zAs.mp r b a (by rw [zAA]; exact lb1) (by rw [zAA]; exact la1) z
   rw [zBF, zBF, la2, lb2] at this
   omega
theorem pH : ∀ (fuel size n : Nat), n < size * 2 ^ fuel -> ∃ m, sizeAbove.go n fuel size = size * 2 ^ m /\ n < size * 2 ^ m
 | 0, size, n, h => ⟨0, by simp [sizeAbove.go], h⟩
 | fuel + 1, size, n, h => by
  unfold sizeAbove.go
  by_cases c : size <= n
  ·rw [if_pos c]
   obtain ⟨m, e1, e2⟩ := pH fuel (size * 2) n (by rw [zA4] at h; rw [Nat.mul_assoc, Nat.mul_comm 2]; exact h)
   refine ⟨m + 1, ?_, ?_⟩
   ·rw [e1, zA4, Nat.mul_assoc, Nat.mul_comm 2]
   ·rw [zA4, Nat.mul_comm (2 ^ m), <- Nat.mul_assoc]; exact e2
  ·rw [if_neg c]
   exact ⟨0, by simp, by simp; omega⟩
theorem above {n : Nat} (h : n < 2 ^ 60) : ∃ k, sizeAbove n - 1 + 1 = 2 ^ (k + 1) /\ n <= sizeAbove n - 1 := by
 obtain ⟨m, e1, e2⟩ := pH 64 8 n (zAS h (by decide))
 have e : sizeAbove n = 8 * 2 ^ m := e1
 have hp := Nat.two_pow_pos m
 refine ⟨m + 2, ?_, by omega⟩
 rw [e, show 2 ^ (m + 2 + 1) = 8 * 2 ^ m by rw [zA4, zA4, zA4]; omega]
 omega
end ST
namespace SW
open PySem PySem.SetTable ST
section
variable {prog : Program} {w : World} {A : Around} {E : Value -> Shared -> Prop} {s : Shared}
abbrev TK (prog : Program) (w : World) : HeapKind prog w (List Int) := tupleKind (intKind prog w)
theorem items_int : ∀ {ks : List Int} {vs : List Value}, ItemsAre (intKind prog w) ks vs -> ∀ v ∈ vs, ∃ n t, v = Value.int n t
 | _, _, .nil, v, h => by cases h
 | _, _, .cons h t, v, hv => by
  rcases zAN.mp hv with z | z
  ·subst z
   obtain ⟨t, e⟩ := Value.isInt_shape h
   exact ⟨_, t, e⟩
  ·exact items_int t v z
theorem zr (d : Nat) (n : Int) (t : Tok) : ofAClassStatement d (.int n t) = pure false := by cases d <;> rfl
theorem oC {k : List Int} {b : Addr} {Q : Bool -> Shared -> Prop} (hk : (TK prog w).is s.heap k b) (hQ : Q false s) : wpAny (model prog w) A (ofAClassStatement 8 (.ref b)) Q E s := by
 obtain ⟨o, items, n, ho, hc, hd, hi⟩ := hk
 unfold ofAClassStatement
 refine wpAny_bind (wpAny_typeOf (T := "tuple") ⟨o, ho, hc⟩ ?_)
 dsimp only
 rw [if_pos (by decide)]
 refine wpAny_bind (wpAny_pure ?_)
 rw [if_neg (by decide)]
 refine wpAny_bind (wpAny_seqItems ho hd ?_)
 dsimp only
 refine wpAny_bind ?_
 rw [<- Array.forIn_toList]
 refine wpAny_forIn_list _ (fun rest r s' => r.1 = none /\ s' = s /\ ∀ v ∈ rest, ∃ n t, v = Value.int n t) _ ?_ ?_ _ _ ⟨rfl, rfl, items_int hi⟩
 ·rintro v rest r s' ⟨hr, rfl, hall⟩
  obtain ⟨m, t, rfl⟩ := hall v zAK
  rw [zr]
  refine wpAny_bind (wpAny_pure ?_)
  simp only [zAY, if_false]
  exact wpAny_pure ⟨rfl, rfl, fun u hu' => hall u (zAI _ hu')⟩
 ·rintro ⟨r1, r2⟩ s' ⟨hr, rfl, _⟩
  simp only at hr
  subst hr
  exact wpAny_pure hQ
theorem zb (d : Nat) (n : Int) (t : Tok) : hashByValue d (.int n t) = pure true := by cases d <;> rfl
theorem vW {k : List Int} {b : Addr} {Q : Bool -> Shared -> Prop} (hk : (TK prog w).is s.heap k b) (hQ : Q true s) : wpAny (model prog w) A (hashByValue 8 (.ref b)) Q E s := by
 obtain ⟨o, items, n, ho, hc, hd, hi⟩ := hk
 unfold hashByValue
 refine wpAny_bind (wpAny_specialOf (T := "tuple") ⟨o, ho, hc⟩ F.slot_tuple_hash.lookup ?_)
 show wpAny _ _ (seqItems? (.ref b) >>= _) _ _ s
 refine wpAny_bind (wpAny_seqItems ho hd ?_)
 dsimp only [Option.getD_some]
 refine wpAny_bind ?_
 rw [<- Array.forIn_toList]
 refine wpAny_forIn_list _ (fun rest r s' => r.1 = none /\ s' = s /\ ∀ v ∈ rest, ∃ n t, v = Value.int n t) _ ?_ ?_ _ _ ⟨rfl, rfl, items_int hi⟩
 ·rintro v rest r s' ⟨hr, rfl, hall⟩
  obtain ⟨m, t, rfl⟩ := hall v zAK
  rw [zb]
  refine wpAny_bind (wpAny_pure ?_)
  simp only [zB6, zAY, if_false]
  exact wpAny_pure ⟨rfl, rfl, fun u hu' => hall u (zAI _ hu')⟩
 ·rintro ⟨r1, r2⟩ s' ⟨hr, rfl, _⟩
  simp only at hr
  subst hr
  exact wpAny_pure hQ
theorem u6 {k : List Int} {b : Addr} {vs : List Value} {Q : Bool -> Shared -> Prop} (hk : (TK prog w).is s.heap k b) (hv : ∀ v ∈ vs, ∃ k' c, v = Value.ref c /\ (TK prog w).is s.heap k' c) (hQ : Q false s) :
  wpAny (model prog w) A (searchCouldBeSeen (.ref b) vs) Q E s := by
 unfold searchCouldBeSeen
 refine wpAny_bind (wpAny_forIn_list _ (fun rest r s' => r.1 = none /\ s' = s /\ ∀ v ∈ rest, ∃ k' c, v = Value.ref c /\ (TK prog w).is s.heap k' c) _ ?_ ?_ _ _ ⟨rfl, rfl, hv⟩)
 ·rintro v rest r s' ⟨hr, rfl, hall⟩
  have rest' : ∀ u ∈ rest, ∃ k' c, u = Value.ref c /\ (TK prog w).is s'.heap k' c := fun u hu => hall u (zAI _ hu)
  obtain ⟨k', c, rfl, hc⟩ := hall v zAK
  dsimp only
  by_cases very : ((b == c) || (carriedByValue (.ref b) && carriedByValue (.ref c))) = true
  ·rw [if_pos very]
   exact wpAny_pure ⟨rfl, rfl, rest'⟩
  ·rw [if_neg very]
   refine wpAny_bind ((TK prog w).quiet hk ?_)
   simp only [zB6, zAY, if_false]
   refine wpAny_bind ((TK prog w).quiet hc ?_)
   simp only [zB6, zAY, if_false]
   refine wpAny_bind (oC hk ?_)
   simp only [zAY, if_false]
   refine wpAny_bind (oC hc ?_)
   simp only [zAY, if_false]
   exact wpAny_pure ⟨rfl, rfl, rest'⟩
 ·rintro ⟨r1, r2⟩ s' ⟨hr, rfl, _⟩
  simp only at hr
  subst hr
  exact wpAny_pure hQ
theorem kX {a b : Addr} {k : List Int} {o : Obj} {es : Array (Int × Value)} {ep : Nat} {t : SetTable} {xs : List (List Int × Addr)} {Q : SetFound -> Shared -> Prop} (hu : A.units < cLine) (hk : (TK prog w).is s.heap k b)
  (ho : s.heap.get? a = some o) (hd : o.data = .set es ep t) (he : es.toList = xs.map fun x => ((TK prog w).hash x.1, Value.ref x.2)) (his : ∀ x ∈ xs, (TK prog w).is s.heap x.1 x.2) (T : Tab t (xs.map fun x => (TK prog w).hash x.1))
  (hin : k ∈ xs.map (·.1) -> Q (.there none) s) (hno : k ∉ xs.map (·.1) -> ∀ j pre post, bI t.mask ((TK prog w).hash k) = pre ++ j :: post -> (∀ y ∈ pre, y ∈ t.place.toList) -> j ∉ t.place.toList -> Q (.free j false) s) :
  ∀ (fuel : Nat) (l done : List Nat) (c : Nat) (st : Option Probe), ahead t.mask c (st.getD (t.probeStart ((TK prog w).hash k))) = l -> bI t.mask ((TK prog w).hash k) = done ++ l →
   (∀ y ∈ done, ∃ (i : Nat) (x : List Int × Addr), t.place[i]? = some y /\ xs[i]? = some x /\ x.1 ≠ k) -> l.length < fuel -> (st.getD (t.probeStart ((TK prog w).hash k))).dummy = none -> wpAny (model prog w) A (setSearchFrom a (.ref b) ((TK prog w).hash k) true fuel st) Q E s
 | 0, _, _, _, _, _, _, _, hf, _ => absurd hf (Nat.not_lt_zero _)
 | fuel + 1, l, done, c, st, e1, e2, hdn, hf, hdm => by
  have sz : es.size = xs.length := by rw [<- zAT, he, zAA]
  have fits : t.fits es.size = true := by have := T.fits; rw [zAA] at this; rw [sz]; exact this
  have psz : t.place.size = xs.length := by have := T.len; rw [zAA] at this; exact this
  have entry : ∀ (i : Nat) (x : List Int × Addr), xs[i]? = some x -> es[i]? = some ((TK prog w).hash x.1, Value.ref x.2) := fun i x hx => by
   rw [<- zAC, he, zAO, hx]
   rfl
  have ofPlace : ∀ i y : Nat, t.place[i]? = some y -> ∃ x, xs[i]? = some x := fun i y hy => by
   have := (cy hy).2
   exact ⟨xs[i]'(by omega), zAH (by omega)⟩
  have hat : ∀ (i : Nat) (x : List Int × Addr), xs[i]? = some x -> (es[i]?.map (·.1)).getD 0 = (TK prog w).hash x.1 := fun i x hx => by rw [entry i x hx]; rfl
  have dpl : ∀ y ∈ done, y ∈ t.place.toList := fun y hy => let ⟨i, _, h1, _⟩ := hdn y hy; get_mem h1
  have emp : ∃ x ∈ l, x ∉ t.place.toList := by
   obtain ⟨x, hx, nx⟩ := T.empty ((TK prog w).hash k)
   rw [e2] at hx
   rcases zAW.mp hx with z | z
   ·exact absurd (dpl x z) nx
   ·exact ⟨x, z, nx⟩
  have ll : l.length <= 10 * turns t.mask := by
   have := mZ t.mask ((TK prog w).hash k)
   rw [e2, zAR] at this
   omega
  unfold setSearchFrom
  refine wpAny_bind (wpAny_setState_of ho hd fits ?_)
  dsimp only
  rw [T.stays]
  simp only [zAY, if_false]
  generalize hm : t.probe _ ((TK prog w).hash k) (st.getD (t.probeStart ((TK prog w).hash k))) = m
  rcases qS T.rise T.dum (fun i => (es[i]?.map (·.1)).getD 0) ((TK prog w).hash k) l (10 * turns t.mask) c _ e1 ll emp hdm with ⟨pre, j, post, q1, q2, q3, q4⟩ | ⟨pre, j, post, i, q, c', q1, q2, q3, q4, q5, q6, q7⟩
  ·have em : m = some (.empty j none) := hm.symm.trans q4
   subst em
   dsimp only
   have hv : bI t.mask ((TK prog w).hash k) = (done ++ pre) ++ j :: post := by rw [e2, q1, zAw]
   have hpp : ∀ y ∈ done ++ pre, y ∈ t.place.toList := fun y hy => by
    rcases zAW.mp hy with z | z
    ·exact dpl y z
    ·obtain ⟨i, h1, _⟩ := q2 y z
     exact get_mem h1
   refine wpAny_pure (hno (fun hin' => ?_) j _ post hv hpp q3)
   obtain ⟨x, hx, ek⟩ := zAU.mp hin'
   obtain ⟨i0, li, ei⟩ := zAr hx
   have gx : xs[i0]? = some x := by rw [zAH li, ei]
   have gp0 := mn (xs := t.place) (a := i0) (by omega)
   obtain ⟨pre0, post0, v0, p0⟩ := T.reach i0 _ ((TK prog w).hash k) gp0 (by rw [zAO, gx, <- ek]; rfl)
   have x0 : t.place.getD i0 0 ∈ done ++ pre := by
    have hz : pre0.length < (done ++ pre).length := by
     refine zAl fun nl => ?_
     have g1 : (bI t.mask ((TK prog w).hash k))[(done ++ pre).length]? = some j := by rw [hv, zAM (zAE _), zCF]; rfl
     rw [v0] at g1
     by_cases c1 : (done ++ pre).length < pre0.length
     ·rw [zAa c1] at g1
      exact q3 (p0 j (zAV g1))
     ·have c2 : (done ++ pre).length = pre0.length := by omega
      rw [c2, zAM (zAE _), zCF] at g1
      have : t.place.getD i0 0 = j := zAd g1
      exact q3 (by rw [<- this]; exact get_mem gp0)
    have g2 : (bI t.mask ((TK prog w).hash k))[pre0.length]? = some (t.place.getD i0 0) := by rw [v0, zAM (zAE _), zCF]; rfl
    rw [hv, zAa hz] at g2
    exact zAV g2
   have same : ∀ i' : Nat, t.place[i']? = some (t.place.getD i0 0) -> i' = i0 := fun i' h' => (below_at T.rise h').symm.trans (below_at T.rise gp0)
   rcases zAW.mp x0 with z | z
   ·obtain ⟨i', x', h1, h2, h3⟩ := hdn _ z
    have := same i' h1
    subst this
    rw [gx] at h2
    cases h2
    exact h3 ek
   ·obtain ⟨i', h1, h2⟩ := q2 _ z
    have := same i' h1
    subst this
    exact h2 (by rw [hat i' x gx, ek])
  ·have em : m = some (.candidate j i q) := hm.symm.trans q7
   subst em
   dsimp only
   obtain ⟨x, gx⟩ := ofPlace i j q3
   have hx := his x (zAV gx)
   have stored : ∀ v ∈ (es.filter (·.1 == (TK prog w).hash k)).toList.map (·.2), ∃ k' c, v = Value.ref c /\ (TK prog w).is s.heap k' c := fun v hv => by
    obtain ⟨e, he', rfl⟩ := zAU.mp hv
    have he2 : e ∈ es.toList := by
     have := Array.mem_toList_iff.mp he'
     exact Array.mem_toList_iff.mpr (Array.mem_filter.mp this).1
    rw [he] at he2
    obtain ⟨y, hy, rfl⟩ := zAU.mp he2
    exact ⟨y.1, y.2, rfl, his y hy⟩
   have go : wpAny (model prog w) A (do
     let some (_, y) := es[i]? | unsupported "internal:set-entry"
     let equal ← holding [y] (eqBool y (.ref b))
     let (es', _, t') ← setState a
     if true && equal then return SetFound.there none
     let some same := t'.sameMemory t.moves t.mask | unsupported "set.changed-during-lookup:is-the-new-block-at-the-old-address"
     let still ← match (if same then t'.slot j else .empty) with
      | .live i' => match es'[i']? with
       | some (_, y') => do pure (if ← isSame y' y then some i' else none)
       | none => pure none
      | _ => pure none
     match still with
     | none => rule "set.search.anew"; setSearchFrom a (.ref b) ((TK prog w).hash k) true fuel none
     | some i' => if equal then return .there (some i') else setSearchFrom a (.ref b) ((TK prog w).hash k) true fuel (some q)) Q E s := by
    rw [entry i x gx]
    dsimp only
    refine wpAny_bind (wpAny_holding ((TK prog w).eqBool hu hx hk ?_))
    refine wpAny_bind (wpAny_setState_of ho hd fits ?_)
    dsimp only
    by_cases ek : x.1 = k
    ·rw [if_pos (by simp [ek])]
     exact wpAny_pure (hin (zAU.mpr ⟨x, zAV gx, ek⟩))
    ·rw [if_neg (by simp [ek])]
     have sm : t.sameMemory t.moves t.mask = some true := by unfold SetTable.sameMemory; simp
     rw [sm]
     dsimp only
     rw [if_pos rfl, oF T.rise q3]
     dsimp only
     rw [entry i x gx]
     dsimp only
     refine wpAny_bind (wpAny_isSame_ref_self ?_)
     simp only [if_true]
     refine wpAny_bind (wpAny_pure ?_)
     dsimp only
     rw [if_neg (by simp [ek])]
     refine kX hu hk ho hd he his T hin hno fuel post (done ++ pre ++ [j]) c' (some q) q5.symm (by rw [e2, q1]; simp) (fun y hy => ?_) (by rw [q1, zAR, zAn] at hf; omega) q6
     rcases zAW.mp hy with z | z
     ·rcases zAW.mp z with z | z
      ·exact hdn y z
      ·obtain ⟨i', h1, h2⟩ := q2 y z
       obtain ⟨x', gx'⟩ := ofPlace i' y h1
       exact ⟨i', x', h1, gx', fun ek' => h2 (by rw [hat i' x' gx', ek'])⟩
     ·simp at z
      subst z
      exact ⟨i, x, q3, gx, ek⟩
   by_cases hled : t.led = true
   ·rw [if_neg (by simp [hled])]
    exact go
   ·rw [if_pos (by simp [hled])]
    refine wpAny_bind (u6 hk stored ?_)
    simp only [zAY, if_false]
    exact go
theorem pI : ∀ (fuel size n : Nat), sizeAbove.go n fuel size <= max size (2 * n)
 | 0, size, n => by unfold sizeAbove.go; omega
 | fuel + 1, size, n => by
  unfold sizeAbove.go
  split
  ·have := pI fuel (size * 2) n
   omega
  ·omega
structure fq (prog : Program) (w : World) (h : Heap) (a : Addr) (xs : List (List Int × Addr)) : Prop where
 ex : ∃ o es ep t, h.get? a = some o /\ o.ExactSet /\ o.data = .set es ep t /\ es.toList = xs.map (fun x => ((TK prog w).hash x.1, Value.ref x.2)) /\ Tab t (xs.map fun x => (TK prog w).hash x.1) /\ (t.plain = true /\ t.led = !w.params.followText "set-order") /\ t.place.size * 5 < t.mask * 3 /\ t.mask <= 8191
 is_ : ∀ x ∈ xs, (TK prog w).is h x.1 x.2
 nd : (xs.map (·.1)).Nodup
theorem gN {h h' : Heap} {a b : Addr} {k : List Int} {o : Obj} (hk : (TK prog w).is h k b) (ho : h.get? a = some o) (hc : o.cls = .type "set") (hs : Heap.SameBut a h h') : (TK prog w).is h' k b := by
 obtain ⟨o', items, n, ho', hc', hd, hi⟩ := hk
 have ne : b ≠ a := fun e => by
  subst e
  rw [ho] at ho'
  cases ho'
  rw [hc] at hc'
  injection hc' with z
  exact absurd z (by decide)
 exact ⟨o', items, n, hs.extBut b o' ne ho', hc', hd, hi⟩
theorem yc {a : Addr} {xs : List (List Int × Addr)} {o : Obj} {es : Array (Int × Value)} {ep wanted : Nat} {t : SetTable} {Q : Unit -> Shared -> Prop} (ho : s.heap.get? a = some o) (hex : o.ExactSet) (hd : o.data = .set es ep t) (he : es.toList = xs.map fun x => ((TK prog w).hash x.1, Value.ref x.2))
  (T : Tab t (xs.map fun x => (TK prog w).hash x.1)) (hpl : t.plain = true /\ t.led = !w.params.followText "set-order") (his : ∀ x ∈ xs, (TK prog w).is s.heap x.1 x.2) (nd : (xs.map (·.1)).Nodup) (hw : wanted = 4 * xs.length) (hn : 0 < xs.length) (hl : xs.length <= 1000)
  (hQ : ∀ h' ys, Heap.SameBut a s.heap h' -> fq prog w h' a ys -> ys.length = xs.length -> (∀ y, y ∈ ys ↔ y ∈ xs) -> Q () { s with heap := h' }) : wpAny (model prog w) A (setRelay a wanted) Q E s := by
 have sz : es.size = xs.length := by rw [<- zAT, he, zAA]
 have fits : t.fits es.size = true := by have := T.fits; rw [zAA] at this; rw [sz]; exact this
 obtain ⟨k, ek, eb⟩ := above (n := wanted) (by omega)
 have up : sizeAbove wanted <= max 8 (2 * wanted) := pI 64 8 wanted
 generalize hzs : (xs.map fun x => ((TK prog w).hash x.1, x)).toArray = zs
 have zz : zs.size = xs.length := by rw [<- hzs]; simp
 have zg : ∀ i : Nat, zs[i]? = xs[i]?.map fun x => ((TK prog w).hash x.1, x) := fun i => by rw [<- hzs]; simp
 have eg : ∀ i : Nat, es[i]? = xs[i]?.map fun x => ((TK prog w).hash x.1, Value.ref x.2) := fun i => by rw [<- zAC, he, zAO]
 have em : es.map (·.1) = zs.map (·.1) := by
  apply Array.ext_getElem?
  intro i
  rw [Array.getElem?_map, Array.getElem?_map, zg, eg]
  cases xs[i]? <;> rfl
 obtain ⟨t', order, el, m1, m2, m3, es', f1, f2, T', f3, f4, f5, f6⟩ := ze ek t.finger (t.movedTo (sizeAbove wanted - 1)) t.led t.plain zs (by omega)
 have er : t.relaid (es.map (·.1)) wanted = some (t', order) := by unfold SetTable.relaid; rw [em]; exact el
 generalize hys : es'.map (·.2) = ys
 have fo : ∀ l : List Nat, (l.filterMap fun i => es[i]?) = (l.filterMap fun i => zs[i]?).map fun z => (z.1, Value.ref z.2.2) := fun l => by
  induction l with
  | nil => rfl
  | cons i r ih =>
   cases e : xs[i]? with
   | none => rw [List.filterMap_cons_none (by rw [eg, e]; rfl), List.filterMap_cons_none (by rw [zg, e]; rfl), ih]
   | some x => rw [zBn (by rw [eg, e]; rfl), zBn (by rw [zg, e]; rfl), zAG, ih]
 have f1' : order.toList.filterMap (fun i => zs[i]?) = es' := by rw [<- f1]; simp
 have zform : ∀ z ∈ es', z = ((TK prog w).hash z.2.1, z.2) /\ z.2 ∈ xs := fun z hz => by
  obtain ⟨q, lq, eq⟩ := zAr hz
  obtain ⟨i, _, hi⟩ := f4 q z (by rw [zAH lq, eq])
  rw [zg] at hi
  obtain ⟨x, ex, e⟩ := zAp.mp hi
  subst e
  exact ⟨rfl, zAV ex⟩
 have new : (order.filterMap fun i => es[i]?).toList = ys.map fun x => ((TK prog w).hash x.1, Value.ref x.2) := by
  have : (order.filterMap fun i => es[i]?).toList = order.toList.filterMap fun i => es[i]? := by simp
  rw [this, fo, f1', <- hys, zAg]
  apply List.map_congr_left
  intro z hz
  obtain ⟨e, _⟩ := zform z hz
  show (z.1, Value.ref z.2.2) = ((TK prog w).hash z.2.1, Value.ref z.2.2)
  rw [show z.1 = (TK prog w).hash z.2.1 from congrArg (·.1) e]
 have hsh : es'.map (·.1) = ys.map fun x => (TK prog w).hash x.1 := by
  rw [<- hys, zAg]
  apply List.map_congr_left
  intro z hz
  obtain ⟨e, _⟩ := zform z hz
  exact congrArg (·.1) e
 have yl : ys.length = xs.length := by rw [<- hys, zAA, f2, zz]
 have ym : ∀ y, y ∈ ys ↔ y ∈ xs := fun y => by
  rw [<- hys]
  constructor
  ·intro hy
   obtain ⟨z, hz, rfl⟩ := zAU.mp hy
   exact (zform z hz).2
  ·intro hy
   obtain ⟨i, li, ei⟩ := zAr hy
   obtain ⟨q, hq⟩ := f5 i (by rw [zz]; exact li)
   have hz : ((TK prog w).hash y.1, y) ∈ es' := by
    rw [<- f1', zBu]
    refine ⟨i, ?_, by rw [zg, zAH li, ei]; rfl⟩
    rw [<- zAC] at hq
    exact zAV hq
   exact zAU.mpr ⟨_, hz, rfl⟩
 have ynd : (ys.map (·.1)).Nodup := by
  rw [<- hys, zAg]
  refine zAs.mpr fun p q lp lq hpq e => ?_
  rw [zAA] at lp lq
  simp only [zBF, Function.comp] at e
  obtain ⟨i, oi, gi⟩ := f4 p es'[p] (zAH lp)
  obtain ⟨i', oi', gi'⟩ := f4 q es'[q] (zAH lq)
  rw [zg] at gi gi'
  obtain ⟨x, ex, e1⟩ := zAp.mp gi
  obtain ⟨x', ex', e1'⟩ := zAp.mp gi'
  rw [<- e1, <- e1'] at e
  have e2 : x.1 = x'.1 := e
  obtain ⟨l1, l2⟩ := zAF.mp ex
  obtain ⟨l1', l2'⟩ := zAF.mp ex'
  have ii : i = i' := by
   rcases Nat.lt_trichotomy i i' with z | z | z
   ·have := zAs.mp nd i i' (by rw [zAA]; exact l1) (by rw [zAA]; exact l1') z
    rw [zBF, zBF, l2, l2'] at this
    exact absurd e2 this
   ·exact z
   ·have := zAs.mp nd i' i (by rw [zAA]; exact l1') (by rw [zAA]; exact l1) z
    rw [zBF, zBF, l2, l2'] at this
    exact absurd e2.symm this
  subst ii
  have := f6 p q i oi oi'
  omega
 unfold setRelay
 refine wpAny_bind (wpAny_setState_of ho hd fits ?_)
 dsimp only
 rw [if_neg (by rw [sizeLine_eq]; omega), er]
 have nsz : (order.filterMap fun i => es[i]?).size = es.size := by rw [<- zAT, new, zAA, yl, sz]
 refine wpAny_bind ?_
 show wpAny _ _ (if ((order.filterMap fun i => es[i]?).size != es.size) = true then _ else pure (order.filterMap (fun i => es[i]?), t')) _ _ _
 rw [if_neg (by rw [nsz]; simp)]
 refine wpAny_pure ?_
 refine wpAny_storeSet_of ho hd ?_ (by rw [nsz, sz, sizeLine_eq]; omega)
 have hg : (s.heap.update a (Obj.putSet (order.filterMap fun i => es[i]?) t')).get? a = some { o with data := .set (order.filterMap fun i => es[i]?) (ep + 1) t' } := by
  have := zA1 (Obj.putSet (order.filterMap fun i => es[i]?) t') ho (by rw [putSet_of _ _ hd]; rfl)
  rw [putSet_of _ _ hd] at this
  exact this
 rw [hsh] at T'
 refine hQ _ ys (zBB ..) ⟨⟨_, _, ep + 1, t', hg, hex, rfl, new, T', ⟨by rw [m3]; exact hpl.1, by rw [m2]; exact hpl.2⟩, by rw [m1, f3, zz]; omega, by rw [m1]; omega⟩, fun y hy => gN (his y ((ym y).mp hy)) ho hex.1 (zBB ..), ynd⟩ yl ym
theorem Aa {a b : Addr} {k : List Int} {xs : List (List Int × Addr)} {Q : Bool -> Shared -> Prop} (hu : A.units < cLine) (S : fq prog w s.heap a xs) (hk : (TK prog w).is s.heap k b) (hl : xs.length < 1000)
  (hQ : ∀ h' ys b', Heap.SameBut a s.heap h' -> fq prog w h' a ys -> ys.length <= xs.length + 1 -> (∀ k', k' ∈ ys.map (·.1) ↔ k' ∈ xs.map (·.1) ∨ k' = k) -> (∀ y ∈ ys, y ∈ xs ∨ y = (k, b)) -> Q b' { s with heap := h', toks := s.toks + (TK prog w).draws k }) :
  wpAny (model prog w) A (setAdd a (.ref b)) Q E s := by
 unfold setAdd
 refine wpAny_holding (wpAny_bind ((TK prog w).pyHash hu hk ?_))
 generalize hs' : ({ s with toks := s.toks + (TK prog w).draws k } : Shared) = s'
 have hh : s'.heap = s.heap := by rw [<- hs']
 obtain ⟨⟨o, es, ep, t, ho, hex, hd, he, T, hpl, hlo, hma⟩, his, nd⟩ := S
 rw [<- hh] at ho hk
 have his' : ∀ x ∈ xs, (TK prog w).is s'.heap x.1 x.2 := by rw [hh]; exact his
 have sz : es.size = xs.length := by rw [<- zAT, he, zAA]
 have fits : t.fits es.size = true := by have := T.fits; rw [zAA] at this; rw [sz]; exact this
 have psz : t.place.size = xs.length := by have := T.len; rw [zAA] at this; exact this
 have back : ∀ (h' : Heap) (b' : Bool), Q b' { s with heap := h', toks := s.toks + (TK prog w).draws k } -> Q b' { s' with heap := h' } := fun h' b' q => by rw [<- hs']; exact q
 unfold setAddHashed
 refine wpAny_holding ?_
 unfold setAddHashedIn
 refine wpAny_bind (wpAny_setState_of ho hd fits ?_)
 dsimp only
 rw [if_neg (by unfold byScan; simp [Value.scannable])]
 obtain ⟨c, ec⟩ := rF t ((TK prog w).hash k)
 have vl := mZ t.mask ((TK prog w).hash k)
 unfold setSearch
 refine wpAny_bind (kX hu hk ho hd he his' T (fun hin => ?_) (fun hno j pre post hv hp hj => ?_) 100000 _ [] c none ec.symm (by simp) (by simp) (by unfold turns at vl; omega) rfl)
 ·dsimp only
  refine wpAny_pure ?_
  have e : s' = { s' with heap := s'.heap } := by cases s'; rfl
  rw [e]
  refine back _ _ (hQ s'.heap xs _ (by rw [hh]; exact Heap.SameBut.refl a s.heap) ⟨⟨o, es, ep, t, ho, hex, hd, he, T, hpl, hlo, hma⟩, his', nd⟩ (by omega) (fun k' => ⟨.inl, fun z => z.elim id fun z => by subst z; exact hin⟩) fun y hy => .inl hy)
 ·dsimp only
  refine wpAny_bind (wpAny_setState_of ho hd fits ?_)
  dsimp only
  obtain ⟨T', pl, pm, ps⟩ := T.put hj hv hp (by omega)
  rw [zAA] at pl
  have hpp : (t.put j).1.plain = true := hpl.1
  have hpq : (t.put j).1.plain = true /\ (t.put j).1.led = !w.params.followText "set-order" := hpl
  rw [hpp]
  simp only [if_true]
  refine wpAny_bind (vW hk ?_)
  simp only [if_true]
  generalize hp2 : (t.put j).2 = p at *
  generalize ht2 : (t.put j).1 = t2 at *
  have isz : (insertAt es p ((TK prog w).hash k, Value.ref b)).toList = (xs.take p ++ (k, b) :: xs.drop p).map fun x => ((TK prog w).hash x.1, Value.ref x.2) := by
   rw [jb, he, zAb, zAG, List.map_take, List.map_drop]
  have hlen : (xs.take p ++ (k, b) :: xs.drop p).length = xs.length + 1 := by
   rw [zAR, zAc, zAn, zAo]
   omega
  have isz2 : (insertAt es p ((TK prog w).hash k, Value.ref b)).size = xs.length + 1 := by rw [<- zAT, isz, zAA, hlen]
  have mem : ∀ y, y ∈ xs.take p ++ (k, b) :: xs.drop p ↔ y = (k, b) ∨ y ∈ xs := fun y => by
   rw [zAW, zAN]
   constructor
   ·rintro (z | z | z)
    ·exact .inr (zA3 z)
    ·exact .inl z
    ·exact .inr (zA7 z)
   ·rintro (z | z)
    ·exact .inr (.inl z)
    ·rw [<- zAf p xs] at z
     rcases zAW.mp z with q | q
     ·exact .inl q
     ·exact .inr (.inr q)
  have nd2 : ((xs.take p ++ (k, b) :: xs.drop p).map (·.1)).Nodup := by
   rw [zAb, zAG]
   have n0 := nd
   have h0 := hno
   rw [<- zAf p xs, zAb] at n0 h0
   rw [List.nodup_append] at n0 ⊢
   obtain ⟨n1, n2, n3⟩ := n0
   rw [zAW, not_or] at h0
   refine ⟨n1, zBd.mpr ⟨h0.2, n2⟩, fun x hx y hy => ?_⟩
   rcases zAN.mp hy with z | z
   ·intro e; subst e; subst z; exact h0.1 hx
   ·exact n3 x hx y z
  have keyiff : ∀ zs : List (List Int × Addr), (∀ y, y ∈ zs ↔ y ∈ xs.take p ++ (k, b) :: xs.drop p) -> ∀ k', k' ∈ zs.map (·.1) ↔ k' ∈ xs.map (·.1) ∨ k' = k := fun zs hz k' => by
   constructor
   ·intro h1
    obtain ⟨y, hy, e⟩ := zAU.mp h1
    rcases (mem y).mp ((hz y).mp hy) with q | q
    ·subst q; exact .inr e.symm
    ·exact .inl (zAU.mpr ⟨y, q, e⟩)
   ·rintro (h1 | h1)
    ·obtain ⟨y, hy, e⟩ := zAU.mp h1
     exact zAU.mpr ⟨y, (hz y).mpr ((mem y).mpr (.inr hy)), e⟩
    ·subst h1
     exact zAU.mpr ⟨(k', b), (hz _).mpr ((mem _).mpr (.inl rfl)), rfl⟩
  refine wpAny_bind (wpAny_storeSet_of ho hd ?_ (by rw [isz2, sizeLine_eq]; omega))
  have hg : (s'.heap.update a (Obj.putSet (insertAt es p ((TK prog w).hash k, Value.ref b)) t2)).get? a = some { o with data := .set (insertAt es p ((TK prog w).hash k, Value.ref b)) (ep + 1) t2 } := by
   have := zA1 (Obj.putSet (insertAt es p ((TK prog w).hash k, Value.ref b)) t2) ho (by rw [putSet_of _ _ hd]; rfl)
   rw [putSet_of _ _ hd] at this
   exact this
  have sb := zBB s'.heap a (Obj.putSet (insertAt es p ((TK prog w).hash k, Value.ref b)) t2)
  generalize hh2 : s'.heap.update a (Obj.putSet (insertAt es p ((TK prog w).hash k, Value.ref b)) t2) = h2 at hg sb ⊢
  have T2 : Tab t2 ((xs.take p ++ (k, b) :: xs.drop p).map fun x => (TK prog w).hash x.1) := by
   rw [zAb, zAG, List.map_take, List.map_drop]
   exact T'
  have is2 : ∀ x ∈ xs.take p ++ (k, b) :: xs.drop p, (TK prog w).is h2 x.1 x.2 := fun x hx => by
   rcases (mem x).mp hx with z | z
   ·subst z; exact gN hk ho hex.1 sb
   ·exact gN (his' x z) ho hex.1 sb
  by_cases tf : t2.tooFull = true
  ·rw [if_pos (by simp [tf])]
   refine wpAny_bind (yc (s := { s' with heap := h2 }) (xs := xs.take p ++ (k, b) :: xs.drop p) hg hex rfl isz T2 hpq is2 nd2 ?_ (by omega) (by omega) fun h3 ys sb3 S3 yl ym => ?_)
   ·rw [hlen, sz]
    unfold SetTable.grown
    rw [if_neg (by omega)]
    omega
   ·refine wpAny_pure (back h3 true (hQ h3 ys true (by rw [<- hh]; exact sb.trans sb3) S3 ?_ (keyiff ys ym) fun y hy => ?_))
    ·omega
    ·rcases (mem y).mp ((ym y).mp hy) with q | q
     ·exact .inr q
     ·exact .inl q
  ·rw [if_neg (by simp [tf])]
   refine wpAny_pure (back h2 true (hQ h2 _ true (by rw [<- hh]; exact sb) ⟨⟨_, _, ep + 1, t2, hg, hex, rfl, isz, T2, hpq, ?_, by rw [pm]; exact hma⟩, is2, nd2⟩ (by omega) (keyiff _ fun _ => Iff.rfl) fun y hy => ?_))
   ·have tf' : t2.tooFull = false := by simpa using tf
    unfold SetTable.tooFull SetTable.fill at tf'
    rw [T2.dum] at tf'
    simp at tf'
    omega
   ·rcases (mem y).mp hy with q | q
    ·exact .inr q
    ·exact .inl q
end
end SW
namespace SW
open PySem PySem.SetTable ST
theorem oh : entryFor table "set.update.loop" = some Builtin.«set.update.loop» := entryFor_of_tree (by kernel_rfl)
theorem j5 : plainId "set.update.loop" = true := by decide +kernel
section
variable {prog : Program} {w : World} {A : Around} {E : Value -> Shared -> Prop} {s : Shared}
theorem iG {h h' : Heap} {b : Addr} {k : List Int} (hk : (TK prog w).is h k b) (e : ∀ o, h.get? b = some o -> h'.get? b = some o) : (TK prog w).is h' k b := by
 obtain ⟨o', items, n, ho', r⟩ := hk
 exact ⟨o', items, n, e o' ho', r⟩
theorem key_ne {h : Heap} {a b : Addr} {k : List Int} {o : Obj} {T : String} (hk : (TK prog w).is h k b) (ho : h.get? a = some o) (hc : o.cls = .type T) (hT : T ≠ "tuple") : b ≠ a := fun e => by
 subst e
 obtain ⟨o', items, n, ho', hc', _⟩ := hk
 rw [ho] at ho'
 cases ho'
 rw [hc] at hc'
 injection hc' with z
 exact hT z
theorem fq.ext {h h' : Heap} {a : Addr} {xs : List (List Int × Addr)} (S : fq prog w h a xs) (e : ∀ o, h.get? a = some o -> h'.get? a = some o) (hk : ∀ x ∈ xs, (TK prog w).is h' x.1 x.2) : fq prog w h' a xs := by
 obtain ⟨⟨o, es, ep, t, ho, r⟩, _, nd⟩ := S
 exact ⟨⟨o, es, ep, t, e o ho, r⟩, hk, nd⟩
theorem zm {a I l : Addr} {items : Array Value} {R : Result -> Shared -> Prop} (hh : A.handled = none) (hu : A.in1.units < cLine) (haI : a ≠ I) (hal : a ≠ l) (hlI : l ≠ I) (hn : items.size <= 900) (ks : Nat -> List Int) :
  ∀ (m i : Nat) (s : Shared) (xs : List (List Int × Addr)), items.size - i = m -> i <= items.size -> (s.heap.IsListIter I l i /\ s.heap.IsList l items) -> fq prog w s.heap a xs -> xs.length <= i →
   (∀ (j : Nat) (v : Value), items[j]? = some v -> ∃ c, v = .ref c /\ (TK prog w).is s.heap (ks j) c) -> (∀ k, k ∈ xs.map (·.1) ↔ ∃ j, j < i /\ k = ks j) -> (∀ x ∈ xs, ∃ j, j < i /\ items[j]? = some (.ref x.2)) →
   (∀ h' tk ys, (∀ b o, b ≠ a -> b ≠ I -> s.heap.get? b = some o -> h'.get? b = some o) -> fq prog w h' a ys -> ys.length <= items.size -> (∀ k, k ∈ ys.map (·.1) ↔ ∃ j, j < items.size /\ k = ks j) -> (∀ x ∈ ys, ∃ j, j < items.size /\ items[j]? = some (.ref x.2)) →
    R (.ok (.ret .none)) { s with heap := h', toks := tk }) -> codeAny (model prog w) A (.builtin "set.update.loop" ⟨[.ref a, .ref I], []⟩) R s := by
 have W := Walks.list (prog := prog) (w := w) (A := A.in1) (show A.in1.handled = none from hh) I l hlI items
 intro m
 induction m with
 | zero =>
  intro i s xs hm hi st S hx hk hks hxi hR
  have e : i = items.size := by omega
  subst e
  refine codeAny_builtin oh ?_
  rw [Around.under_plainId j5 _]
  show wpAny _ A.in1 (pyNext (.ref I) >>= _) _ _ s
  refine wpAny_bind (W.done s _ _ st fun h' tk kp => ?_)
  obtain ⟨⟨o, ho, hc, _⟩, _⟩ := st
  have kp' : ∀ b o, b ≠ I -> s.heap.get? b = some o -> h'.get? b = some o := fun b o hb e => kp b o (by simpa using hb) e
  refine wpAny_pure (hR h' tk xs (fun b o _ hb e => kp' b o hb e) (S.ext (fun o e => kp' a o haI e) fun x hx' => ?_) hx hks hxi)
  exact iG (S.is_ x hx') fun o' e => kp' _ o' (key_ne (S.is_ x hx') ho hc (by decide)) e
 | succ m ih =>
  intro i s xs hm hi st S hx hk hks hxi hR
  have hlt : i < items.size := by omega
  refine codeAny_builtin oh ?_
  rw [Around.under_plainId j5 _]
  show wpAny _ A.in1 (pyNext (.ref I) >>= _) _ _ s
  refine wpAny_bind (W.item i s _ _ hlt st fun v h' tk hv st' kp => ?_)
  obtain ⟨⟨o, ho, hc, _⟩, _⟩ := id st
  have kp' : ∀ b o, b ≠ I -> s.heap.get? b = some o -> h'.get? b = some o := fun b o hb e => kp b o (by simpa using hb) e
  have up : ∀ {k : List Int} {c : Addr}, (TK prog w).is s.heap k c -> (TK prog w).is h' k c := fun q => iG q fun o' e => kp' _ o' (key_ne q ho hc (by decide)) e
  have S' : fq prog w h' a xs := S.ext (fun o e => kp' a o haI e) fun x hx' => up (S.is_ x hx')
  obtain ⟨c, rfl, hkc⟩ := hk i v hv
  show wpAny _ A.in1 (holding [.ref c] (setAdd a (.ref c)) >>= _) _ _ _
  refine wpAny_bind (wpAny_holding (Aa (s := { s with heap := h', toks := tk }) hu S' (up hkc) (by omega) fun h2 ys b' sb S2 yl km ym => ?_))
  obtain ⟨⟨o2, _, _, _, ho2, hex2, _⟩, _, _⟩ := id S'
  have up2 : ∀ {k : List Int} {c : Addr}, (TK prog w).is h' k c -> (TK prog w).is h2 k c := fun q => gN q ho2 hex2.1 sb
  have st2 : h2.IsListIter I l (i + 1) /\ h2.IsList l items := W.frame _ _ _ st' fun b hb o e => by
   refine sb.extBut b o (fun q => ?_) e
   subst q
   simp only [zAN, zBP, or_false] at hb
   rcases hb with z | z
   ·exact haI z
   ·exact hal z
  refine wpAny_pure ⟨plainId_quiet j5 _, ih (i + 1) _ ys (by omega) hlt st2 S2 (by omega) (fun j v hj => ?_) (fun k => ?_) (fun x hx' => ?_) fun h3 tk3 zs kp3 S3 zl zk zi => ?_⟩
  ·obtain ⟨c', e, q⟩ := hk j v hj
   exact ⟨c', e, up2 (up q)⟩
  ·rw [km k, hks k]
   constructor
   ·rintro (⟨j, hj, e⟩ | e)
    ·exact ⟨j, by omega, e⟩
    ·exact ⟨i, by omega, e⟩
   ·rintro ⟨j, hj, e⟩
    by_cases z : j < i
    ·exact .inl ⟨j, z, e⟩
    ·have : j = i := by omega
     subst this
     exact .inr e
  ·rcases ym x hx' with z | z
   ·obtain ⟨j, hj, e⟩ := hxi x z
    exact ⟨j, by omega, e⟩
   ·subst z
    exact ⟨i, by omega, hv⟩
  ·exact hR h3 tk3 zs (fun b o h1 h2' e => kp3 b o h1 h2' (sb.extBut b o h1 (kp' b o h2' e))) S3 zl zk zi
end
end SW
namespace SW
open PySem PySem.SetTable ST
theorem o4 (a : Value) : checkTypeCall "set" ⟨[a], []⟩ = pure () := by kernel_rfl
theorem qD (a : Value) : checkBuiltinCall "set.__new__" ⟨[.type "set", a], []⟩ = pure () := by kernel_rfl
section
variable {prog : Program} {w : World} {A : Around} {E : Value -> Shared -> Prop} {s : Shared}
theorem oO (a : Value) {Q₁ : Value -> Shared -> Prop}
  (h : ∀ led : Bool, led = (!w.params.followText "set-order") -> Q₁ (.ref s.heap.objs.size) { s with heap := s.heap.push { cls := .type "set", dict := none, data := .set #[] 0 (.fresh 0 0 led) } }) :
  codeAny (model prog w) A (.call (.builtin "set.__new__") ⟨[.type "set", a], []⟩) (wants Q₁ E) s := by
 refine codeAny_of_tree ?_
 show wpAny _ A.in1 (do checkBuiltinCall "set.__new__" ⟨[.type "set", a], []⟩; again (.builtin "set.__new__" ⟨[.type "set", a], []⟩)) _ _ s
 refine wpAny_bind (wpAny_of_eq (qD a) (wpAny_pure ⟨plainId_quiet F.plain_set_new _, codeAny_builtin F.entry_set_new ?_⟩)); rw [Around.under_plainId F.plain_set_new _]
 unfold Builtin.«set.__new__» Builtin.Frozenset.newClass; have hsub := sub_set_self; obtain ⟨hp, g, d, tk, os⟩ := s
 dsimp only; wp_walk; refine wpAny_askSetting (wpAny_pure ?_); dsimp only; simp only [newObj]; refine wpAny_bind (wpAny_alloc (wpAny_pure ?_))
 exact wpAny_pure (h _ rfl)
theorem rH {M : Model} {self x : Value} {Q : Unit -> Shared -> Prop} (hT : s.TypeIs self "set") (hQ : Q () s) : wpAny M A (checkBuiltinCall "set.__init__" ⟨[self, x], []⟩) Q E s := by
 simp only [checkBuiltinCall, kind_set_init, split_set_init, sig_set_init]; refine wpAny_bind (wpAny_isInstance hT sub_set_self ?_)
 simp only [zB6, zAY, if_false]; unfold Bind.checkArgs; dsimp only
 refine wpAny_bind (m := Bind.printed "set" true _ _) (PyProof.Rows.printed_name (by decide) ?_); refine wpAny_bind (m := Bind.printed "*" false _ _) (PyProof.Rows.printed_star (self := self) rfl hT fun short => ?_)
 have hrn : (Manifest.Receiver.self == Manifest.Receiver.none) = false := by decide
 rw [show (if (Manifest.Receiver.self == Manifest.Receiver.none) = true then [self, x].length else [self, x].length - 1) = 1 by simp [hrn]]
 simp only [zA8]
 rw [show Bind.check ⟨.positional, "set", "*", .self, [⟨"iterable", .posOnly, false⟩]⟩ "set" short 1 [] = pure () by (simp [Bind.check, Bind.checkCount, Bind.isPositional]; intro z; exact absurd z (by decide))]
 exact wpAny_pure hQ
set_option maxHeartbeats 1000000 in
theorem vn {x : Value} {Q : Value -> Shared -> Prop} (h : ∀ led : Bool, led = (!w.params.followText "set-order") -> wpAny (model prog w) A.in1.in1 (Builtin.«set.__init__» ⟨[.ref s.heap.objs.size, x], []⟩)
   (fun fin s' => match fin with | .done f => wants (fun r s₂ => r = .none /\ Q (.ref s.heap.objs.size) s₂) E (.ok f) s' | .again c' => c'.quiet = true /\ codeAny (model prog w) A.in1 c' (wants (fun r s₂ => r = .none /\ Q (.ref s.heap.objs.size) s₂) E) s')
   (fun e s' => wants (fun r s₂ => r = .none /\ Q (.ref s.heap.objs.size) s₂) E (.error e) s') { s with heap := s.heap.push { cls := .type "set", dict := none, data := .set #[] 0 (.fresh 0 0 led) } }) :
  wpAny (model prog w) A (call (.type "set") [x]) Q E s := by
 obtain ⟨c, tl, hmro⟩ := F.called_set.mro; have hmade := F.called_set.made; have hsub := F.called_set.sub
 refine wpAny_call (codeAny_of_tree ?_); show wpAny _ _ (callAny (.type "set") _) _ _ _
 refine wpAny_pure ⟨Code.quiet_builtin _ (by decide +kernel), codeAny_builtin F.entry_type_call ?_⟩; rw [Around.under_plain (weight_type_call_type "set" [x] []) rfl]
 have h1 := F.called_set.notType; have h2 := F.called_set.canCreate; have hct := o4 x
 repeat (any_goals (first | assumption | wp_step))
 refine codeAny_mono (oO (E := E) x (Q₁ := fun obj s₁ => ∃ led : Bool, led = (!w.params.followText "set-order") /\ obj = .ref s.heap.objs.size /\ s₁ = { s with heap := s.heap.push { cls := .type "set", dict := none, data := .set #[] 0 (.fresh 0 0 led) } }) fun led hle => ⟨led, hle, rfl, rfl⟩) fun r s₁ hr => ?_
 cases r with
 | error e => exact hr
 | ok fl =>
  cases fl with
  | ret obj =>
   obtain ⟨led, hle, rfl, rfl⟩ := hr
   have hT : Shared.TypeIs { s with heap := s.heap.push { cls := .type "set", dict := none, data := .set #[] 0 (.fresh 0 0 led) } } (.ref s.heap.objs.size) "set" := ⟨_, zAL _ rfl, rfl⟩
   have hli := F.called_set.init.lookup; have hbi := F.called_set.init.bind (.ref s.heap.objs.size)
   repeat (any_goals (first | assumption | wp_step))
   refine codeAny_mono (codeAny_call_builtin (R := wants (fun r s₂ => r = .none /\ Q (.ref s.heap.objs.size) s₂) E) F.called_set.init.plain F.entry_set_init (rH hT (h led hle))) fun r₂ s₂ hr₂ => ?_
   cases r₂ with
   | error e => exact hr₂
   | ok fl₂ =>
    cases fl₂ with
    | ret r =>
     obtain ⟨rfl, hq⟩ := hr₂
     repeat (any_goals (first | assumption | wp_step))
    | _ => exact hr₂.elim
  | _ => exact hr.elim
theorem y8 (led : Bool) (hle : led = !w.params.followText "set-order") : fq prog w (s.heap.push { cls := .type "set", dict := none, data := .set #[] 0 (.fresh 0 0 led) }) s.heap.objs.size [] := by
 refine ⟨⟨_, #[], 0, _, zAL _ rfl, ⟨rfl, rfl, rfl⟩, rfl, rfl, ?_, ⟨rfl, hle⟩, by show 0 * 5 < 7 * 3; decide, by show 7 <= 8191; decide⟩, by simp, by simp⟩
 refine ⟨⟨2, rfl⟩, fun a b _ hb => absurd hb (Nat.not_lt_zero _), (fun x hx => by cases hx), rfl, rfl, zAi _, fun a x h hx => ?_⟩
 have : (#[] : Array Nat)[a]? = some x := hx
 simp at this
theorem A5 : isSubtype (.type "list") (.type "set") = pure false := by rw [isSubtype_type]; kernel_rfl
theorem A4 : isSubtype (.type "list") (.type "frozenset") = pure false := by rw [isSubtype_type]; kernel_rfl
theorem call_set_list {l : Addr} {items : Array Value} {Q : Value -> Shared -> Prop} (hh : A.handled = none) (hu : A.in1.in1.in1.units < cLine) (hl : s.heap.IsList l items) (hn : items.size <= 900) (ks : Nat -> List Int)
  (hk : ∀ (j : Nat) (v : Value), items[j]? = some v -> ∃ c, v = .ref c /\ (TK prog w).is s.heap (ks j) c)
  (hQ : ∀ h' tk ys, (∀ b o, s.heap.get? b = some o -> h'.get? b = some o) -> fq prog w h' s.heap.objs.size ys -> ys.length <= items.size -> (∀ k, k ∈ ys.map (·.1) ↔ ∃ j, j < items.size /\ k = ks j) -> (∀ x ∈ ys, ∃ j, j < items.size /\ items[j]? = some (.ref x.2)) →
   Q (.ref s.heap.objs.size) { s with heap := h', toks := tk }) : wpAny (model prog w) A (call (.type "set") [.ref l]) Q E s := by
 refine vn fun led hle => ?_
 have hS : (s.heap.push { cls := .type "set", dict := none, data := .set #[] 0 (.fresh 0 0 led) }).get? s.heap.objs.size = some { cls := .type "set", dict := none, data := .set #[] 0 (.fresh 0 0 led) } := zAL _ rfl
 have hT : Shared.TypeIs { s with heap := s.heap.push { cls := .type "set", dict := none, data := .set #[] 0 (.fresh 0 0 led) } } (.ref s.heap.objs.size) "set" := ⟨_, hS, rfl⟩
 have ll : l < s.heap.objs.size := by obtain ⟨o, ho, _⟩ := hl; exact zAJ ho
 have hT2 : Shared.TypeIs { s with heap := s.heap.push { cls := .type "set", dict := none, data := .set #[] 0 (.fresh 0 0 led) } } (.ref l) "list" := by
  obtain ⟨o, ho, hc, _⟩ := hl
  exact ⟨o, zAB _ ho, hc⟩
 have S0 := y8 (prog := prog) (w := w) (s := s) led hle
 have hl1 : (s.heap.push { cls := .type "set", dict := none, data := .set #[] 0 (.fresh 0 0 led) }).IsList l items := hl.push _
 have sz1 : (s.heap.push { cls := .type "set", dict := none, data := .set #[] 0 (.fresh 0 0 led) }).objs.size = s.heap.objs.size + 1 := Heap.size_push ..
 have kp1 : ∀ b o, s.heap.get? b = some o -> (s.heap.push { cls := .type "set", dict := none, data := .set #[] 0 (.fresh 0 0 led) }).get? b = some o := fun b o e => zAB _ e
 unfold Builtin.«set.__init__» noKeywords
 wp_walk
 refine wpAny_of_eq A5 ?_
 show wpAny _ _ (isInstance (.ref l) (.type "frozenset")) _ _ _
 refine wpAny_isInstance hT2 A4 ?_
 simp only [zAY, if_false]
 refine wpAny_bind (wpAny_typeOf hT2 ?_)
 rw [if_neg (by decide)]
 generalize s.heap.push { cls := .type "set", dict := none, data := .set #[] 0 (.fresh 0 0 led) } = h1 at *
 refine wpAny_bind (wpAny_pyIter_list hl1 ?_)
 refine wpAny_bind (wpAny_runValue ?_)
 have ne1 : s.heap.objs.size ≠ h1.objs.size := by omega
 refine zm (A := A.in1.in1) (I := h1.objs.size) (l := l) (items := items) hh hu ne1 (Nat.ne_of_gt ll) (zAk (by rw [sz1]; exact Nat.lt_succ_of_lt ll)) hn ks items.size 0 { s with heap := h1.push { cls := .type "list_iterator", data := .fields #[.ref l, .int 0 0] } } [] (by omega) (zAi _) ⟨⟨_, zAL _ rfl, rfl, rfl⟩, hl1.push _⟩ (S0.ext (fun o e => zAB _ e) (by simp)) (zAE _) (fun j v hj => ?_) (by simp) (by simp) fun h' tk ys kp S yl yk yi => ?_
 ·obtain ⟨c, e, q⟩ := hk j v hj
  exact ⟨c, e, iG q fun o e => zAB _ (kp1 c o e)⟩
 ·refine wpAny_pure (wpAny_pure ⟨rfl, hQ h' tk ys (fun b o e => ?_) S yl yk yi⟩)
  have lb : b < s.heap.objs.size := zAJ e
  exact kp b o (zAk lb) (zAk (by rw [sz1]; exact Nat.lt_succ_of_lt lb)) (zAB _ (kp1 b o e))
end
end SW
namespace SW
open PySem PySem.SetTable ST
theorem mh {α : Type} : ∀ (l : List α) (i : Nat) (h : i < l.length), (l[i] :: l.eraseIdx i).Perm l
 | [], _, h => absurd h (Nat.not_lt_zero _)
 | x :: l, 0, _ => zBl _
 | x :: l, i + 1, h => by
  have r := mh l i (by simpa using h)
  show (l[i]'(by simpa using h) :: x :: l.eraseIdx i).Perm (x :: l)
  exact (List.Perm.swap x _ _).trans (List.Perm.cons x r)
theorem tI {α : Type} (next : Nat -> Nat) : ∀ (fuel k : Nat) (left : List α) (out : Array α), left.length = fuel -> (pickOrder.go next fuel k left out).toList.Perm (out.toList ++ left)
 | 0, k, left, out, e => by
  have : left = [] := List.length_eq_zero_iff.mp e
  subst this
  simp [pickOrder.go]
 | fuel + 1, k, left, out, e => by
  have hp : 0 < left.length := by omega
  have hm : next k % left.length < left.length := zBk _ hp
  unfold pickOrder.go
  rw [zAH hm]
  dsimp only
  have r := tI next fuel (k + 1) (left.eraseIdx (next k % left.length)) (out.push left[next k % left.length]) (by rw [List.length_eraseIdx, if_pos hm]; omega)
  refine r.trans ?_
  rw [zBV, zAw]
  exact (List.perm_append_left_iff _).mpr (mh left _ hm)
theorem wK {α : Type} (next : Nat -> Nat) (xs : Array α) : (pickOrder next xs).toList.Perm xs.toList := by
 have := tI next xs.size 0 xs.toList #[] (by simp)
 simpa [pickOrder] using this
theorem ub {xs : Array Nat} (hr : fk xs) : below xs 0 = 0 := by
 obtain ⟨h1, h2, h3⟩ := fK hr 0
 rcases Nat.eq_zero_or_pos (below xs 0) with z | z
 ·exact z
 ·have := h2 0 z; omega
theorem ua {xs : Array Nat} (hr : fk xs) {a j : Nat} (h : xs[a]? = some j) : below xs (j + 1) = a + 1 := by
 obtain ⟨h1, h2, h3⟩ := fK hr (j + 1)
 obtain ⟨la, ea⟩ := zAv.mp h
 have ga : xs.getD a 0 = j := by simp [Array.getD, la, ea]
 rcases Nat.lt_trichotomy (below xs (j + 1)) (a + 1) with z | z | z
 ·have := h3 a (by omega) la
  omega
 ·exact z
 ·have q := h2 (a + 1) z
  have lb : a + 1 < xs.size := by omega
  have := hr a (a + 1) (by omega) lb
  omega
theorem qO : Manifest.owners.lookup (String.ofList ['r', 'o', 't', 'a', 'r', 'e', 't', 'i', '_', 't', 'e', 's'].reverse) = some Manifest.sig_set_iterator := by kernel_rfl
theorem bY : Slot "set_iterator" "__next__" "set_iterator.__next__" :=
 .of (owner := "set_iterator") (n := "__next__") (by rw [typeLookup_type, builtinLookup_eq_fast]; kernel_rfl) (by decide +kernel) (by decide +kernel) (by decide +kernel) (.inl (by decide +kernel)) (by rw [isSubtype_type]; kernel_rfl)
theorem kg : Slot "set_iterator" "__iter__" "set_iterator.__iter__" :=
 .of (owner := "set_iterator") (n := "__iter__") (by rw [typeLookup_type, builtinLookup_eq_fast]; kernel_rfl) (by decide +kernel) (by decide +kernel) (by decide +kernel) (.inl (by decide +kernel)) (by rw [isSubtype_type]; kernel_rfl)
theorem jD : entryFor table "set_iterator.__next__" = some Builtin.«set_iterator.__next__» := entryFor_of_tree (by kernel_rfl)
theorem oP : entryFor table "set_iterator.__iter__" = some Builtin.«dict_keyiterator.__iter__» := entryFor_alias (id' := "dict_keyiterator.__iter__") (by kernel_rfl) rfl (by decide +kernel) (by kernel_rfl)
theorem ql : entryFor table "set.__iter__" = some Builtin.«frozenset.__iter__» := entryFor_alias (id' := "frozenset.__iter__") (by kernel_rfl) rfl (by decide +kernel) (by kernel_rfl)
theorem jN (a : Value) : argsOk "set_iterator.__next__" ⟨[a], []⟩ := by
 unfold argsOk; rw [signature?_of (id := "set_iterator.__next__") (n := ['_', '_', 't', 'x', 'e', 'n', '_', '_']) (o := ['r', 'o', 't', 'a', 'r', 'e', 't', 'i', '_', 't', 'e', 's']) (by kernel_rfl) qO]; kernel_rfl
theorem pN (a : Value) : argsOk "set_iterator.__iter__" ⟨[a], []⟩ := by
 unfold argsOk; rw [signature?_of (id := "set_iterator.__iter__") (n := ['_', '_', 'r', 'e', 't', 'i', '_', '_']) (o := ['r', 'o', 't', 'a', 'r', 'e', 't', 'i', '_', 't', 'e', 's']) (by kernel_rfl) qO]; kernel_rfl
def cO (w : World) (a : Addr) (es : Array (Int × Value)) (ep : Nat) : Array (Int × Value) := if w.params.followText "set-order" = true then pickOrder (w.params.setOrder a ep) es else es
theorem lh (w : World) (a : Addr) (es : Array (Int × Value)) (ep : Nat) : (cO w a es ep).toList.Perm es.toList := by
 unfold cO
 split
 ·exact wK _ _
 ·exact zBl _
theorem iz (w : World) (a : Addr) (es : Array (Int × Value)) (ep : Nat) : (cO w a es ep).size = es.size := by
 have := (lh w a es ep).length_eq
 simpa using this
def m6 (w : World) (h : Heap) (I a : Addr) (t : SetTable) (n ep i : Nat) : Prop :=
 ∃ o slot, h.get? I = some o /\ o.cls = .type "set_iterator" /\ o.data = .fields #[.int (slot : Nat) 0, .int (i : Nat) 0, .ref a, .int (n : Nat) 0, .int (ep : Nat) 0] /\ (w.params.followText "set-order" = false -> below t.place slot = i)
section
variable {prog : Program} {w : World} {A : Around} {E : Value -> Shared -> Prop} {s : Shared}
theorem nT {I a : Addr} {t : SetTable} {n ep i : Nat} (x : m6 w s.heap I a t n ep i) : s.TypeIs (.ref I) "set_iterator" := by
 obtain ⟨o, _, ho, hc, _⟩ := x
 exact ⟨o, ho, hc⟩
theorem mQ {a : Addr} {o : Obj} {es : Array (Int × Value)} {ep slot i : Nat} {t : SetTable} {hs : List Int} {Q : Option (Value × Nat) -> Shared -> Prop} (ho : s.heap.get? a = some o) (hd : o.data = .set es ep t) (T : Tab t hs) (he : hs.length = es.size)
  (hpl : t.plain = true /\ t.led = !w.params.followText "set-order") (hb : w.params.followText "set-order" = false -> below t.place slot = i)
  (hQ : ∀ z, (cO w a es ep)[i]?.map (·.2) = z.map (·.1) -> (∀ p, z = some p -> w.params.followText "set-order" = false -> below t.place p.2 = i + 1) -> Q z s) : wpAny (model prog w) A (setNext a slot i ep) Q E s := by
 have fits : t.fits es.size = true := by rw [<- he]; exact T.fits
 unfold setNext
 refine wpAny_bind (wpAny_setState_of ho hd fits ?_)
 dsimp only
 unfold setsByText
 refine wpAny_bind (wpAny_bind (wpAny_askSetting (wpAny_pure ?_)))
 show wpAny _ _ (if w.params.followText "set-order" = true then _ else _) _ _ _
 by_cases hf : w.params.followText "set-order" = true
 ·rw [if_pos hf]
  simp only [bne_self_eq_false, zAY, if_false]
  unfold setWalk setsByText
  refine wpAny_bind (wpAny_bind (wpAny_setState_of ho hd fits ?_))
  dsimp only
  refine wpAny_bind (wpAny_bind (wpAny_askSetting (wpAny_pure ?_)))
  show wpAny _ _ (if w.params.followText "set-order" = true then _ else _) _ _ _
  rw [if_pos hf]
  refine wpAny_bind (wpAny_askSetting (wpAny_pure ?_))
  show wpAny _ _ (pure _) _ _ _
  refine wpAny_pure (hQ _ ?_ ?_)
  ·unfold cO
   rw [if_pos hf]
   show _ = Option.map _ (Option.map _ (pickOrder (w.params.setOrder a ep) es)[i]?)
   cases (pickOrder (w.params.setOrder a ep) es)[i]? <;> rfl
  ·intro p _ h
   rw [hf] at h
   cases h
 ·have hf' : w.params.followText "set-order" = false := by simpa using hf
  rw [if_neg hf]
  split
  ·rename_i h
   have h' : (!t.plain && decide (es.size > 1)) = true := h
   rw [hpl.1] at h'
   simp at h'
  ·refine wpAny_bind ?_
   show wpAny _ _ (if (!t.led && !es.isEmpty) = true then unsupported "set:maker-not-led" else pure ()) _ _ _
   rw [if_neg (by rw [hpl.2, hf']; simp)]
   refine wpAny_pure (wpAny_pure (hQ _ ?_ ?_))
   ·unfold cO
    rw [if_neg hf, hb hf']
    cases e : es[i]? with
    | none => rfl
    | some z =>
     have li : i < es.size := (zAv.mp e).1
     have e2 : t.place[i]? = some (t.place[i]'(by rw [T.len, he]; exact li)) := zAZ _
     rw [e2]
     rfl
   ·intro p hp _
    rw [hb hf'] at hp
    split at hp
    ·rename_i j e
     cases hp
     exact ua T.rise e
    ·cases hp
theorem zQ {I a : Addr} {o : Obj} {es : Array (Int × Value)} {ep i : Nat} {t : SetTable} {hs : List Int} {x : Int × Value} {Q : Option Value -> Shared -> Prop} (ho : s.heap.get? a = some o) (hd : o.data = .set es ep t) (T : Tab t hs) (he : hs.length = es.size)
  (hpl : t.plain = true /\ t.led = !w.params.followText "set-order") (st : m6 w s.heap I a t es.size ep i) (hx : (cO w a es ep)[i]? = some x)
  (hQ : ∀ h', m6 w h' I a t es.size ep (i + 1) -> Heap.SameBut I s.heap h' -> Q (some x.2) { s with heap := h' }) : wpAny (model prog w) A (pyNext (.ref I)) Q E s := by
 obtain ⟨oi, slot, hoi, hci, hdi, hb⟩ := id st
 have hT := nT st
 have fits : t.fits es.size = true := by rw [<- he]; exact T.fits
 unfold pyNext
 refine wpAny_bind (wpAny_attempt (wpAny_callSpecial?_slot (name := Str.ofString "__next__") hT bY (wpAny_call_entry bY hT jD ?_ (jN _))))
 unfold Builtin.«set_iterator.__next__»
 refine wpAny_bind (m := slotArgs "__next__" 0 ⟨[.ref I], []⟩) (wpAny_pure ?_)
 dsimp only
 refine wpAny_bind (wpAny_fieldsOf hoi hdi ?_)
 dsimp only
 unfold setEntries
 refine wpAny_bind (wpAny_bind (wpAny_setState_of ho hd fits (wpAny_pure ?_)))
 dsimp only
 rw [if_neg (by simp)]
 simp only [Int.toNat_natCast]
 refine wpAny_bind (mQ ho hd T he hpl hb fun z hz hn => ?_)
 rw [hx] at hz
 cases z with
 | none => cases hz
 | some p =>
  obtain ⟨v, nx⟩ := p
  have ev : x.2 = v := zAd hz
  subst ev
  dsimp only
  refine wpAny_bind (wpAny_setField hoi hdi (by simp) ?_)
  have h1 := zA1 (Obj.mapFields (·.setIfInBounds 0 (rawInt (nx : Nat)))) hoi (Obj.isFreed_of_fields (Obj.data_mapFields hdi _))
  have d1 := Obj.data_mapFields hdi (·.setIfInBounds 0 (rawInt (nx : Nat)))
  refine wpAny_bind (wpAny_setField h1 d1 (by simp) ?_)
  refine wpAny_pure ⟨_, rfl, wpAny_pure (hQ _ ⟨_, nx, zA1 _ h1 (Obj.isFreed_of_fields (Obj.data_mapFields d1 _)), (Obj.cls_mapFields ..).trans ((Obj.cls_mapFields ..).trans hci), ?_, hn _ rfl⟩ ((zBB ..).trans (zBB ..)))⟩
  rw [Obj.data_mapFields d1]
  simp [rawInt]
theorem A2 {I a : Addr} {o : Obj} {es : Array (Int × Value)} {ep i : Nat} {t : SetTable} {hs : List Int} {Q : Option Value -> Shared -> Prop} (hh : A.handled = none) (ho : s.heap.get? a = some o) (hd : o.data = .set es ep t) (T : Tab t hs) (he : hs.length = es.size)
  (hpl : t.plain = true /\ t.led = !w.params.followText "set-order") (st : m6 w s.heap I a t es.size ep i) (hx : (cO w a es ep)[i]? = none)
  (hQ : ∀ h', Heap.ExtBut I s.heap h' -> Q none { s with heap := h' }) : wpAny (model prog w) A (pyNext (.ref I)) Q E s := by
 obtain ⟨oi, slot, hoi, hci, hdi, hb⟩ := id st
 have hT := nT st
 have fits : t.fits es.size = true := by rw [<- he]; exact T.fits
 unfold pyNext
 refine wpAny_bind (wpAny_attempt (wpAny_callSpecial?_slot (name := Str.ofString "__next__") hT bY (wpAny_call_entry bY hT jD ?_ (jN _))))
 unfold Builtin.«set_iterator.__next__»
 refine wpAny_bind (m := slotArgs "__next__" 0 ⟨[.ref I], []⟩) (wpAny_pure ?_)
 dsimp only
 refine wpAny_bind (wpAny_fieldsOf hoi hdi ?_)
 dsimp only
 unfold setEntries
 refine wpAny_bind (wpAny_bind (wpAny_setState_of ho hd fits (wpAny_pure ?_)))
 dsimp only
 rw [if_neg (by simp)]
 simp only [Int.toNat_natCast]
 refine wpAny_bind (mQ ho hd T he hpl hb fun z hz hn => ?_)
 rw [hx] at hz
 cases z with
 | some p => cases hz
 | none =>
  dsimp only
  refine wpAny_bind (wpAny_setField hoi hdi (by simp) ?_)
  show wpAny _ _ (newExc (.type "StopIteration") [] >>= _) _ _ _
  refine wpAny_bind ?_
  simp only [newExc, newTuple]
  refine wpAny_bind (wpAny_newObj_type ?_ (by size_fits))
  refine wpAny_bind (m := firstArgMember _ _) (wpAny_of_eq (a := Value.none) (by first | rfl | (simp only [firstArgMember]; rfl)) ?_)
  refine wpAny_newObj_type ?_ (by size_fits)
  simp only [raiseNew]
  refine wpAny_bind (wpAny_handled ?_)
  rw [show A.in1.handled = none from hh]
  refine wpAny_bind (wpAny_pure (wpAny_throw ?_))
  refine wpAny_bind (wpAny_isInstance (T := "StopIteration") (b := true) ⟨_, zAL _ rfl, rfl⟩ isSubtype_stop ?_)
  exact wpAny_pure (hQ _ (((zBB ..).extBut.push _).push _))
theorem zR {I a : Addr} {t : SetTable} {n ep i : Nat} {Q : Value -> Shared -> Prop} (st : m6 w s.heap I a t n ep i) (h : Q (.ref I) s) : wpAny (model prog w) A (pyIter (.ref I)) Q E s := by
 have hT := nT st
 refine wpAny_pyIter_slot hT kg (wpAny_call_entry kg hT oP ?_ (pN _))
 show wpAny _ _ (ret (.ref I)) _ _ s
 exact wpAny_pure ⟨_, rfl, "set_iterator", _, hT, bY.lookup, h⟩
theorem w5 (hh : A.handled = none) (I a : Addr) (hne : a ≠ I) {o : Obj} {es : Array (Int × Value)} {ep : Nat} {t : SetTable} {hs : List Int} (hd : o.data = .set es ep t) (T : Tab t hs) (he : hs.length = es.size) (hpl : t.plain = true /\ t.led = !w.params.followText "set-order") :
  Walks prog w A I [I, a] [I] es.size (fun i v => ∃ x, (cO w a es ep)[i]? = some x /\ x.2 = v) (fun i h => m6 w h I a t es.size ep i /\ h.get? a = some o) where
 sub := fun b hb => by simp at hb; simp [hb]
 frame := fun _ _ _ st hk => ⟨by obtain ⟨⟨o, sl, ho, r⟩, _⟩ := st; exact ⟨o, sl, hk I (by simp) o ho, r⟩, hk a (by simp) o st.2⟩
 item := fun i s Q E hi st hQ => by
  have lw : i < (cO w a es ep).size := by rw [iz]; exact hi
  refine zQ st.2 hd T he hpl st.1 (zAZ lw) fun h' st' sb => ?_
  exact hQ _ h' s.toks ⟨_, zAZ lw, rfl⟩ ⟨st', sb.extBut a o hne st.2⟩ fun b o hb e => sb.extBut b o (fun h => hb (by simp [h])) e
 done := fun s Q E st hQ => A2 hh st.2 hd T he hpl st.1 (by rw [zBY]; rw [iz]; exact zAE _) fun h' sb => hQ h' s.toks fun b o hb e => sb b o (fun h => hb (by simp [h])) e
 self := fun _ _ _ _ st hQ => zR st.1 hQ
theorem xE {a : Addr} {o : Obj} {es : Array (Int × Value)} {ep : Nat} {t : SetTable} {hs : List Int} {Q : Value -> Shared -> Prop} (ho : s.heap.get? a = some o) (hc : o.cls = .type "set") (hd : o.data = .set es ep t) (T : Tab t hs) (he : hs.length = es.size) (hpl : t.plain = true)
  (hQ : Q (.ref s.heap.objs.size) { s with heap := s.heap.push { cls := .type "set_iterator", data := .fields #[.int 0 0, .int 0 0, .ref a, .int (es.size : Nat) 0, .int (ep : Nat) 0] } }) : wpAny (model prog w) A (pyIter (.ref a)) Q E s := by
 have hT : s.TypeIs (.ref a) "set" := ⟨o, ho, hc⟩
 have fits : t.fits es.size = true := by rw [<- he]; exact T.fits
 refine wpAny_pyIter_slot hT F.slot_set_iter (wpAny_call_entry F.slot_set_iter hT ql ?_ (F.args_set_iter_1 _))
 unfold Builtin.«frozenset.__iter__»
 refine wpAny_bind (m := Builtin.Frozenset.slot0 "__iter__" ⟨[.ref a], []⟩) (wpAny_pure ?_)
 unfold Builtin.Frozenset.sizeOf setEntries setDrawn setEpoch setsByText
 refine wpAny_bind (wpAny_bind (wpAny_bind (wpAny_setState_of ho hd fits (wpAny_pure (wpAny_pure ?_)))))
 refine wpAny_bind (wpAny_bind (wpAny_setState_of ho hd fits ?_))
 dsimp only
 refine wpAny_bind (wpAny_bind (wpAny_askSetting (wpAny_pure (wpAny_pure ?_))))
 split
 ·rename_i h
  have h' : (!(w.params.followText "set-order") && (!t.plain && decide (es.size > 1))) = true := h
  rw [hpl] at h'
  simp at h'
 ·refine wpAny_bind (wpAny_pure ?_)
  refine wpAny_bind (wpAny_bind (wpAny_setState_of ho hd fits (wpAny_pure ?_)))
  unfold newFields
  refine wpAny_bind (wpAny_newObj_type ?_ (by size_fits))
  exact wpAny_pure ⟨_, rfl, "set_iterator", _, ⟨_, zAL _ rfl, rfl⟩, bY.lookup, hQ⟩
theorem rJ {a : Addr} {o : Obj} {es : Array (Int × Value)} {ep : Nat} {t : SetTable} {hs : List Int} {Q : List Value -> Shared -> Prop} (hh : A.handled = none) (ho : s.heap.get? a = some o) (hc : o.cls = .type "set") (hd : o.data = .set es ep t) (T : Tab t hs) (he : hs.length = es.size) (hpl : t.plain = true /\ t.led = !w.params.followText "set-order") (hn : es.size <= 1000)
  (hQ : ∀ s' (acc : List Value), (∀ b o, s.heap.get? b = some o -> s'.heap.get? b = some o) -> s'.gens = s.gens -> s'.drawn = s.drawn -> s'.os = s.os -> s.heap.objs.size <= s'.heap.objs.size -> acc = (cO w a es ep).toList.map (·.2) -> Q acc s') : wpAny (model prog w) A (collect (.ref a)) Q E s := by
 unfold collect
 have la : a < s.heap.objs.size := zAJ ho
 refine wpAny_bind (wpAny_runValue (codeAny_builtin F.entry_proto_collect ?_))
 rw [Around.under_plainId F.plain_proto_collect _]
 show wpAny _ A.in1 (newList [] >>= fun l => again (.builtin "list.__iadd__" ⟨[l, .ref a], []⟩)) _ _ s
 refine wpAny_bind (wpAny_newObj_type ?_)
 refine wpAny_pure ⟨plainId_quiet F.plain_list_iadd _, codeAny_builtin F.entry_list_iadd ?_⟩
 rw [Around.under_plainId F.plain_list_iadd _]
 show wpAny _ A.in1 (Builtin.List.listExtendWith (.ref s.heap.objs.size) (.ref a) (.ref s.heap.objs.size)) _ _ _
 generalize hH : s.heap.push { cls := .type "list", data := .seq ([] : List Value).toArray } = H
 have hHs : H.objs.size = s.heap.objs.size + 1 := by rw [<- hH, Heap.size_push]
 have ho1 : H.get? a = some o := hH ▸ zAB _ ho
 have hT : Shared.TypeIs { s with heap := H } (.ref a) "set" := ⟨o, ho1, hc⟩
 unfold Builtin.List.listExtendWith
 refine wpAny_bind (wpAny_typeOf hT ?_)
 have h1 : Builtin.List.listSameRef (.ref s.heap.objs.size) (.ref a) = false := by have : s.heap.objs.size ≠ a := Nat.ne_of_gt la; simp [Builtin.List.listSameRef, this]
 have h2 : (Value.type "set" == Value.type "list") = false := by decide
 have h3 : (Value.type "set" == Value.type "tuple") = false := by decide
 simp only [h1, h2, h3, Bool.or_false, zAY, if_false]
 refine wpAny_bind (xE ho1 hc hd T he hpl.1 ?_)
 generalize hH2 : H.push { cls := .type "set_iterator", data := .fields #[.int 0 0, .int 0 0, .ref a, .int (es.size : Nat) 0, .int (ep : Nat) 0] } = H2
 have hT2 : Shared.TypeIs { s with heap := H2 } (.ref a) "set" := ⟨o, hH2 ▸ zAB _ ho1, hc⟩
 refine wpAny_bind (wpAny_holding ?_)
 unfold Builtin.List.listLengthHint
 refine wpAny_bind (wpAny_specialOf hT2 F.slot_set_len.lookup ?_)
 wp_delta
 refine wpAny_bind (wpAny_isInstance (T := "set") (b := true) hT2 (by rw [isSubtype_type]; kernel_rfl) ?_)
 show wpAny _ A.in1 (typeOf (Value.ref a) >>= _) _ _ _
 refine wpAny_bind (wpAny_typeOf hT2 ?_)
 refine wpAny_pure ?_
 rw [if_pos (by decide)]
 show wpAny _ A.in1 (rule "list.extend.makes-room" >>= fun _ => Builtin.List.listTouch (.ref s.heap.objs.size) >>= fun _ =>
  again (.builtin "list.extend.loop" ⟨[.ref s.heap.objs.size, .ref H.objs.size, .ref s.heap.objs.size], []⟩)) _ _ _
 refine wpAny_bind (wpAny_rule ?_)
 refine wpAny_bind ?_
 show wpAny _ A.in1 (updateSeq s.heap.objs.size (·.push .none) >>= fun _ => updateSeq s.heap.objs.size (·.pop)) _ _ _
 have hS : H2.get? s.heap.objs.size = some { cls := .type "list", data := .seq ([] : List Value).toArray } := hH2 ▸ zAB _ (hH ▸ zAL _ rfl)
 refine wpAny_bind (wpAny_updateSeq hS rfl ?_)
 have hS₂ := zA1 (Obj.mapSeq (·.push Value.none)) hS rfl
 refine wpAny_updateSeq (hz := by seq_fits) hS₂ rfl ?_
 have hS₃ := zA1 (Obj.mapSeq (·.pop)) hS₂ rfl
 have oth : ∀ b o, b ≠ s.heap.objs.size -> H2.get? b = some o -> ((H2.update s.heap.objs.size (Obj.mapSeq (·.push Value.none))).update s.heap.objs.size (Obj.mapSeq (·.pop))).get? b = some o :=
  fun b o hb e => (zA5 _ _ (Ne.symm hb)).trans ((zA5 _ _ (Ne.symm hb)).trans e)
 have hI : H2.get? H.objs.size = some { cls := .type "set_iterator", data := .fields #[.int 0 0, .int 0 0, .ref a, .int (es.size : Nat) 0, .int (ep : Nat) 0] } := hH2 ▸ zAL _ rfl
 have nSI : H.objs.size ≠ s.heap.objs.size := by omega
 have naI : a ≠ H.objs.size := zAk (by rw [hHs]; exact Nat.lt_succ_of_lt la)
 have hSf : s.heap.objs.size ∉ [H.objs.size, a] := fun hm => by
  rcases zAN.mp hm with z | z
  ·exact nSI z.symm
  ·exact absurd (zA0.mp z) (Nat.ne_of_gt la)
 have W := w5 (prog := prog) (w := w) (A := A.in1) hh H.objs.size a naI hd T he hpl
 refine wpAny_pure ⟨plainId_quiet F.plain_extend_loop _, codeAny_extend_loopS W.toS (by rw [sizeLine_eq]; omega) _ hSf _ es.size 0 _ _ _ rfl (zAi _)
  ⟨⟨_, 0, oth _ _ nSI hI, rfl, rfl, fun _ => ub T.rise⟩, oth _ _ (zAk la) (hH2 ▸ zAB _ ho1)⟩ hS₃ (ItemsOf.nil _) fun s' acc' c' hm hS' hacc => ?_⟩
 show wpAny _ A (load s.heap.objs.size >>= _) _ _ s'
 refine wpAny_bind (wpAny_load hS' ?_)
 have big : ∀ b o, s.heap.get? b = some o -> s'.heap.get? b = some o := fun b ob e => by
  have lb := zAJ e
  refine hm.heap b ob (fun hb => ?_) (oth _ _ (zAk lb) (hH2 ▸ zAB _ (hH ▸ zAB _ e)))
  rcases zAN.mp hb with z | z
  ·exact absurd lb (z ▸ zBG _)
  ·rw [zA0.mp z, hHs] at lb; exact absurd lb (zBU.mpr (Nat.le_succ _))
 refine wpAny_pure (hQ s' acc'.toList big hm.gens hm.drawn hm.os (zBT (zAJ hS')) ?_)
 obtain ⟨q1, q2⟩ := hacc
 apply List.ext_getElem?
 intro j
 rw [zAC, zAO, zAC]
 by_cases lj : j < es.size
 ·have l1 : j < acc'.size := by omega
  obtain ⟨x, ex, ev⟩ := q2 j _ (zAZ l1)
  rw [zAZ l1, ex]
  simp [ev]
 ·rw [zBY (by omega), zBY (by rw [iz]; omega)]
  rfl
end
end SW
namespace SS
open PySem PySem.W PyProof.Rows
def good {α : Type} (r : Nat -> Nat) (n : Nat) (G : α -> Prop) : KasT α -> Prop
 | .ret a => G a
 | .ask i j k => i < n /\ j < n /\ good r n G (k (decide (r i < r j)))
section
variable {r : Nat -> Nat} {n : Nat}
def v (r : Nat -> Nat) (p : Array Nat) (k : Nat) : Nat := r (p.getD k 0)
def S (r : Nat -> Nat) (p : Array Nat) (k : Nat) : Prop := ∀ i j, i <= j -> j < k -> v r p i <= v r p j
def D (r : Nat -> Nat) (p : Array Nat) (k : Nat) : Prop := ∀ i j, i <= j -> j < k -> v r p j <= v r p i
structure Ok (n : Nat) (p : Array Nat) : Prop where
 perm : p.Perm (List.toArray (List.range n))
end
end SS
namespace SW
open PySem PySem.SetTable ST PySem.W PyProof.Rows
def lexLt : List Int -> List Int -> Bool
 | _, [] => false
 | [], _ :: _ => true
 | a :: x, b :: y => if a = b then lexLt x y else decide (a < b)
theorem j0 : ∀ x, lexLt x x = false
 | [] => rfl
 | a :: x => by unfold lexLt; rw [if_pos rfl]; exact j0 x
theorem kS : ∀ x y z, lexLt x y = true -> lexLt y z = true -> lexLt x z = true
 | _, [], _, h, _ => by unfold lexLt at h; cases h
 | _, _ :: _, [], _, h => by unfold lexLt at h; cases h
 | [], _ :: _, _ :: _, _, _ => rfl
 | a :: x, b :: y, c :: z, h1, h2 => by
  unfold lexLt at h1 h2 ⊢
  split at h1 <;> split at h2
  ·rename_i e1 e2
   rw [if_pos (e1.trans e2)]
   exact kS x y z h1 h2
  ·rename_i e1 e2
   subst e1
   rw [if_neg e2]
   exact h2
  ·rename_i e1 e2
   subst e2
   rw [if_neg e1]
   exact h1
  ·have q1 : a < b := by simpa using h1
   have q2 : b < c := by simpa using h2
   rw [if_neg (by omega)]
   simp
   omega
theorem eQ : ∀ x y, lexLt x y = false -> x = y ∨ lexLt y x = true
 | [], [], _ => .inl rfl
 | [], _ :: _, h => by unfold lexLt at h; cases h
 | _ :: _, [], _ => .inr rfl
 | a :: x, b :: y, h => by
  unfold lexLt at h ⊢
  split at h
  ·rename_i e
   subst e
   rw [if_pos rfl]
   rcases eQ x y h with z | z
   ·exact .inl (by rw [z])
   ·exact .inr z
  ·rename_i e
   have q : ¬ a < b := by simpa using h
   right
   rw [if_neg (fun z => e z.symm)]
   simp
   omega
theorem pV {α : Type} (p q : α -> Bool) : ∀ l : List α, (∀ z ∈ l, p z = true -> q z = true) -> (∃ z ∈ l, p z = false /\ q z = true) -> l.countP p < l.countP q
 | [], _, ⟨_, h, _⟩ => by cases h
 | x :: l, h, ⟨z, hz, e1, e2⟩ => by
  rw [List.countP_cons, List.countP_cons]
  have le : l.countP p <= l.countP q := List.countP_mono_left fun z hz => h z (zAI _ hz)
  rcases zAN.mp hz with y | y
  ·subst y
   rw [e1, e2]
   simp
   omega
  ·have ih := pV p q l (fun z hz => h z (zAI _ hz)) ⟨z, y, e1, e2⟩
   by_cases px : p x = true
   ·have := h x zAK px
    simp [px, this]
    omega
   ·have px' : p x = false := by simpa using px
    rw [px']
    cases q x with
    | true => simp; omega
    | false => simpa using ih
def rank (K : List (List Int)) (x : List Int) : Nat := K.countP fun y => lexLt y x
theorem tL {K : List (List Int)} {x y : List Int} (hx : x ∈ K) (hy : y ∈ K) : decide (rank K x < rank K y) = lexLt x y := by
 have up : ∀ a b, a ∈ K -> lexLt a b = true -> rank K a < rank K b := fun a b ha h => pV _ _ K (fun z _ hz => kS z a b hz h) ⟨a, ha, j0 a, h⟩
 cases e : lexLt x y with
 | true => simpa using up x y hx e
 | false =>
  rcases eQ x y e with z | z
  ·subst z; simp
  ·have := up y x hy z
   simp
   omega
section
variable {prog : Program} {w : World} {A : Around} {E : Value -> Shared -> Prop} {s : Shared}
theorem AE {b fin : Bool} {Q : Bool -> Shared -> Prop} : ∀ {k k' : List Int} {us vs : List Value} (i : Nat), PySem.ItemsAre (intKind prog w) k us -> PySem.ItemsAre (intKind prog w) k' vs -> fin = decide (k.length < k'.length) -> Q (lexLt k k') s -> KatLex prog w A b fin Q (us.zip vs) i s := by
 intro k k' us vs i h
 induction h generalizing k' vs i with
 | nil =>
  intro h' ef q
  refine kat_nil ?_
  cases h' with
  | nil => rw [ef]; exact q
  | cons _ _ => rw [ef]; exact q
 | @cons a u x us h1 t1 ih =>
  intro h' ef q
  cases h' with
  | nil => refine kat_nil ?_; rw [ef]; exact q
  | @cons c u' y vs h2 t2 =>
   obtain ⟨t, rfl⟩ := Value.isInt_shape h1
   obtain ⟨t', rfl⟩ := Value.isInt_shape h2
   refine kat_cons (wpAny_eqBool_int ?_)
   by_cases e : a = c
   ·subst e
    rw [show (a == a) = true by simp]
    refine kat_yes (ih (i + 1) t2 ?_ ?_)
    ·rw [ef]; simp
    ·unfold lexLt at q
     rw [if_pos rfl] at q
     exact q
   ·rw [show (a == c) = false by simp [e]]
    unfold lexLt at q
    rw [if_neg e] at q
    refine kat_no ?_
    cases (b && i == 0) with
    | true => exact oneLt_int q
    | false => exact kat_one _ _ (PySem.P.lt_int q)
theorem vq {x y : Addr} {k k' : List Int} {b : Bool} {Q : Bool -> Shared -> Prop} (hx : (TK prog w).is s.heap k x) (hy : (TK prog w).is s.heap k' y) (q : Q (lexLt k k') s) : wpAny (model prog w) A (keyLt' (tuples' b) (.ref x) (.ref y)) Q E s := by
 obtain ⟨o, items, n, ho, hc, hd, hi⟩ := hx
 obtain ⟨o', items', n', ho', hc', hd', hi'⟩ := hy
 have len : ∀ {k : List Int} {us : List Value}, PySem.ItemsAre (intKind prog w) k us -> k.length = us.length := fun h => by
  induction h with
  | nil => rfl
  | cons _ _ ih => simp [ih]
 refine kat_lt ho hd ho' hd' (AE 0 hi hi' ?_ q)
 rw [len hi, len hi', zAT, zAT]
theorem tV : ∀ {cs : List Addr} (K : Nat -> List Int) (off : Nat), (∀ (j : Nat) (c : Addr), cs[j]? = some c -> (TK prog w).is s.heap (K (off + j)) c /\ K (off + j) ≠ []) -> ∃ fs, KatTups s.heap (cs.map Value.ref) fs /\ fs.length = cs.length /\ ∀ v ∈ fs, ∃ n t, v = Value.int n t
 | [], _, _, _ => ⟨[], KatTups.nil, rfl, fun _ h => by cases h⟩
 | c :: cs, K, off, h => by
  obtain ⟨fs, t, l, hi⟩ := tV (cs := cs) K (off + 1) fun j c hj => by
   have := h (j + 1) c hj
   rw [show off + (j + 1) = off + 1 + j by omega] at this
   exact this
  obtain ⟨⟨o, items, n, ho, hc, hd, hit⟩, ne⟩ := h 0 c rfl
  rw [Nat.add_zero] at hit ne
  generalize K off = k0 at hit ne
  generalize hL : items.toList = L at hit
  cases hit with
  | nil => exact absurd rfl ne
  | @cons a u x us h1 t1 =>
   obtain ⟨tk, rfl⟩ := Value.isInt_shape h1
   refine ⟨.int a tk :: fs, KatTups.cons ho hc hd ?_ t, by simp [l], fun v hv => ?_⟩
   ·rw [<- zAC, hL]; rfl
   ·rcases zAN.mp hv with z | z
    ·exact ⟨a, tk, z⟩
    ·exact hi v z
theorem rM {cs : List Addr} {K : Nat -> List Int} {Q : SortKind -> Shared -> Prop} (hne : 0 < cs.length) (h : ∀ (j : Nat) (c : Addr), cs[j]? = some c -> (TK prog w).is s.heap (K j) c /\ K j ≠ []) (q : Q (tuples' true) s) : wpAny (model prog w) A (keyKind' (cs.map Value.ref).toArray) Q E s := by
 obtain ⟨fs, t, l, hi⟩ := tV (s := s) (cs := cs) K 0 fun j c hj => by rw [zBz]; exact h j c hj
 refine kat_kind (T := .type "int") t (by omega) (fun v hv => ?_) (by decide) q
 obtain ⟨n, tk, rfl⟩ := hi v hv
 exact Looks.of_pure rfl
theorem qR {α β : Type} {f : α -> β} {l m : List β} (h : l.Perm m) : ∀ xs : List α, m = xs.map f -> ∃ zs : List α, zs.Perm xs /\ l = zs.map f := by
 induction h with
 | nil => intro xs e; exact ⟨xs, zBl _, e⟩
 | cons a _ ih =>
  intro xs e
  cases xs with
  | nil => cases e
  | cons x xs =>
   rw [zAG] at e
   injection e with e1 e2
   obtain ⟨zs, p, q⟩ := ih xs e2
   exact ⟨x :: zs, p.cons x, by rw [zAG, q, e1]⟩
 | swap a b l =>
  intro xs e
  match xs, e with
  | [], e => cases e
  | [_], e => simp at e
  | x :: y :: xs, e =>
   simp only [zAG, zAD] at e
   obtain ⟨e1, e2, e3⟩ := e
   exact ⟨y :: x :: xs, List.Perm.swap x y xs, by simp only [zAG]; rw [e1, e2, e3]⟩
 | trans _ _ ih1 ih2 =>
  intro xs e
  obtain ⟨zs, p, q⟩ := ih2 xs e
  obtain ⟨zs', p', q'⟩ := ih1 zs q
  exact ⟨zs', p'.trans p, q'⟩
end
end SW
namespace TS
open PySem PyProof.Rows
def gal : Bool -> Keyed -> Array Keyed -> Nat -> Nat -> Nat -> StateT SortSt Sem (Option Nat) := sortPriv% PySem.Builtin.gallop
def mLo : Array Keyed -> Array Keyed -> StateT SortSt Sem (Array Keyed) := sortPriv% PySem.Builtin.mergeLo
def mHi : Array Keyed -> Array Keyed -> StateT SortSt Sem (Array Keyed) := sortPriv% PySem.Builtin.mergeHi
def yj : Nat -> StateT SortSt Sem Unit := sortPriv% PySem.Builtin.setMinGallop
structure Cmp (M : Model) (A : Around) (E : Value -> Shared -> Prop) (s : Shared) (r : Keyed -> Nat) (Mem : Keyed -> Prop) (k0 : SortKind) : Prop where
 lt : ∀ (x y : Keyed) (st : SortSt) (Q : Option Bool -> SortSt -> Prop), Mem x -> Mem y -> kindOf st = k0 -> Q (some (decide (r x < r y))) st -> wpS M A E s (lt' x y) Q st
def BH (B : Nat -> Bool) (n : Nat) : Prop := ∀ i j, i <= j -> j < n -> B j = true -> B i = true
structure Cut (B : Nat -> Bool) (n k : Nat) : Prop where
 le : k <= n
 lo : ∀ i, i < k -> B i = true
 hi : ∀ i, k <= i -> i < n -> B i = false
section
variable {M : Model} {A : Around} {E : Value -> Shared -> Prop} {s : Shared} {r : Keyed -> Nat} {Mem : Keyed -> Prop} {k0 : SortKind}
theorem aG {arr : Array Keyed} {i : Nat} {x : Keyed} {Q : Keyed -> SortSt -> Prop} {st : SortSt} (h : arr[i]? = some x) (q : Q x st) : wpS M A E s (elem' arr i) Q st := by
 rw [elem'_eq, h]
 exact wpS_pure q
theorem wpS_ltAt {st : SortSt} {i j : Nat} {x y : Keyed} {Q : Option Bool -> SortSt -> Prop} (C : Cmp M A E s r Mem k0) (hk : kindOf st = k0) (hi : (arrOf st)[i]? = some x) (hj : (arrOf st)[j]? = some y) (mx : Mem x) (my : Mem y)
  (h : Q (some (decide (r x < r y))) st) : wpS M A E s (ltAt' i j) Q st := by
 rw [ltAt'_eq]
 refine wpS_bind (wpS_get ?_)
 show wpS _ _ _ _ (do let x ← elem' (arrOf st) i; let y ← elem' (arrOf st) j; lt' x y) Q st
 exact wpS_bind (aG hi (wpS_bind (aG hj (C.lt x y st Q mx my hk h))))
def bey (r : Keyed -> Nat) (left : Bool) (key x : Keyed) : Bool := if left = true then decide (r x < r key) else !decide (r key < r x)
theorem vQ {left : Bool} {key : Keyed} {arr : Array Keyed} {base n hint : Nat} {st : SortSt} {B : Nat -> Bool} {Q : Option Nat -> SortSt -> Prop} (C : Cmp M A E s r Mem k0) (hk : kindOf st = k0) (hh : hint < n) (mk : Mem key)
  (hB : ∀ i, i < n -> ∃ x, arr[base + i]? = some x /\ Mem x /\ bey r left key x = B i) (mono : BH B n) (h : ∀ k, Cut B n k -> Q (some k) st) : wpS M A E s (gal left key arr base n hint) Q st := by
 have by_ : ∀ (i : Nat) (R : Option Bool -> SortSt -> Prop), i < n -> R (some (B i)) st -> wpS M A E s (do
   let x ← elem' arr (base + i)
   if left = true then lt' x key else do
    let z ← lt' key x
    pure (Option.map (fun x => !x) z)) R st := fun i R hi q => by
  obtain ⟨x, hx, mx, e⟩ := hB i hi
  refine wpS_bind (aG hx ?_)
  unfold bey at e
  cases left with
  | true =>
   rw [if_pos rfl] at e ⊢
   exact C.lt x key st R mx mk hk (by rw [e]; exact q)
  | false =>
   rw [if_neg (by simp)] at e ⊢
   exact wpS_bind (C.lt key x st _ mk mx hk (wpS_pure (by rw [<- e] at q; exact q)))
 refine wpS_bind (by_ hint _ hh ?_)
 cases hb : B hint
 case' true =>
  refine wpS_bind (wpS_mono (wpS_forRange (I := fun x z st' => st' = st /\ ∃ l u, z = (none, l, u) /\ hint + l < n /\ B (hint + l) = true /\ l < u /\ x + 1 <= u)
   (Q := fun z st' => st' = st /\ ∃ l u, z = (none, l, u) /\ hint + l < n /\ B (hint + l) = true /\ l < u /\ (n - hint <= u ∨ B (hint + u) = false)) ?_ ?_ ⟨rfl, 0, 1, rfl, hh, hb, by decide, by decide⟩) ?_)
  ·rintro x z st' _ hx ⟨rfl, l, u, rfl, a1, a2, a3, a4⟩
   dsimp only
   split
   ·rename_i c
    exact wpS_pure ⟨rfl, l, u, rfl, a1, a2, a3, .inl c⟩
   ·rename_i c
    refine wpS_bind (by_ (hint + u) _ (by omega) ?_)
    dsimp only
    cases hc : B (hint + u) with
    | false =>
     rw [if_pos (by rfl)]
     exact wpS_pure ⟨rfl, l, u, rfl, a1, a2, a3, .inr hc⟩
    | true =>
     rw [if_neg (by simp)]
     exact wpS_pure ⟨rfl, _, _, rfl, by omega, hc, by omega, by omega⟩
  ·rintro z st' ⟨rfl, l, u, rfl, a1, a2, a3, a4⟩
   exact ⟨rfl, l, u, rfl, a1, a2, a3, .inl (by omega)⟩
  rintro z st' ⟨e0, l, u, rfl, a1, a2, a3, a4⟩
  rw [e0]
  dsimp only
  have h1 : hint + min u (n - hint) <= n := by omega
  have h2 : ∀ i, i < hint + l + 1 -> i < n -> B i = true := fun i hi hn => mono i (hint + l) (by omega) a1 a2
  have h3 : ∀ i, hint + min u (n - hint) <= i -> i < n -> B i = false := fun i hi hn => by
   rcases a4 with c | c
   ·omega
   ·cases hc : B i with
    | false => rfl
    | true => rw [mono _ i (by omega) hn hc] at c; cases c
  have h4 : hint + l + 1 <= hint + min u (n - hint) := by omega
  clear a1 a2 a3 a4
  generalize hint + l + 1 = lo at h2 h4 ⊢
  generalize hint + min u (n - hint) = hi at h1 h3 h4 ⊢
 case' false =>
  refine wpS_bind (wpS_mono (wpS_forRange (I := fun x z st' => st' = st /\ ∃ l u, z = (none, l, u) /\ l <= hint /\ B (hint - l) = false /\ l < u /\ x + 1 <= u)
   (Q := fun z st' => st' = st /\ ∃ l u, z = (none, l, u) /\ l <= hint /\ B (hint - l) = false /\ l < u /\ (hint + 1 <= u ∨ (u <= hint /\ B (hint - u) = true))) ?_ ?_ ⟨rfl, 0, 1, rfl, by omega, hb, by decide, by decide⟩) ?_)
  ·rintro x z st' _ hx ⟨rfl, l, u, rfl, a1, a2, a3, a4⟩
   dsimp only
   split
   ·rename_i c
    exact wpS_pure ⟨rfl, l, u, rfl, a1, a2, a3, .inl c⟩
   ·rename_i c
    refine wpS_bind (by_ (hint - u) _ (by omega) ?_)
    dsimp only
    cases hc : B (hint - u) with
    | true =>
     rw [if_pos rfl]
     exact wpS_pure ⟨rfl, l, u, rfl, a1, a2, a3, .inr ⟨by omega, hc⟩⟩
    | false =>
     rw [if_neg (by simp)]
     exact wpS_pure ⟨rfl, _, _, rfl, by omega, hc, by omega, by omega⟩
  ·rintro z st' ⟨rfl, l, u, rfl, a1, a2, a3, a4⟩
   exact ⟨rfl, l, u, rfl, a1, a2, a3, .inl (by omega)⟩
  rintro z st' ⟨e0, l, u, rfl, a1, a2, a3, a4⟩
  rw [e0]
  dsimp only
  have h1 : hint - l <= n := by omega
  have h2 : ∀ i, i < hint + 1 - min u (hint + 1) -> i < n -> B i = true := fun i hi hn => by
   rcases a4 with c | ⟨c, d⟩
   ·omega
   ·exact mono i (hint - u) (by omega) (by omega) d
  have h3 : ∀ i, hint - l <= i -> i < n -> B i = false := fun i hi hn => by
   cases hc : B i with
   | false => rfl
   | true => rw [mono _ i (by omega) hn hc] at a2; cases a2
  have h4 : hint + 1 - min u (hint + 1) <= hint - l := by omega
  clear a1 a2 a3 a4
  generalize hint + 1 - min u (hint + 1) = lo at h2 h4 ⊢
  generalize hint - l = hi at h1 h3 h4 ⊢
 all_goals
  refine wpS_bind (wpS_mono (wpS_forRange (I := fun x z st' => st' = st /\ ∃ l u, z = (none, l, u) /\ u <= n /\ (∀ i, i < l -> i < n -> B i = true) /\ (∀ i, u <= i -> i < n -> B i = false) /\ l <= u /\ u - l <= n - x)
   (Q := fun z st' => st' = st /\ ∃ l u, z = (none, l, u) /\ Cut B n u) ?_ ?_ ⟨rfl, lo, hi, rfl, h1, h2, h3, h4, by omega⟩) ?_)
  ·rintro x z st' _ hx ⟨rfl, l, u, rfl, a1, a2, a3, a4, a5⟩
   dsimp only
   split
   ·exact wpS_pure ⟨rfl, l, u, rfl, a1, fun i hi => a2 i (by omega) (by omega), a3⟩
   ·refine wpS_bind (by_ (l + (u - l) / 2) _ (by omega) ?_)
    dsimp only
    cases hb : B (l + (u - l) / 2) with
    | true =>
     rw [if_pos rfl]
     exact wpS_pure ⟨rfl, _, _, rfl, a1, fun i hi hn => mono i (l + (u - l) / 2) (by omega) (by omega) hb, a3, by omega, by omega⟩
    | false =>
     rw [if_neg (by simp)]
     refine wpS_pure ⟨rfl, _, _, rfl, by omega, a2, fun i hi hn => ?_, by omega, by omega⟩
     cases hc : B i with
     | false => rfl
     | true => rw [mono _ i hi hn hc] at hb; cases hb
  ·rintro z st' ⟨rfl, l, u, rfl, a1, a2, a3, a4, a5⟩
   exact ⟨rfl, l, u, rfl, a1, fun i hi => a2 i (by omega) (by omega), a3⟩
  ·rintro z st' ⟨rfl, l, u, rfl, c⟩
   exact wpS_pure (h _ c)
end
end TS
namespace TS
open PySem PyProof.Rows
section
variable {M : Model} {A : Around} {E : Value -> Shared -> Prop} {s : Shared} {r : Keyed -> Nat} {Mem : Keyed -> Prop} {k0 : SortKind}
theorem d5 {left : Bool} {key : Keyed} {arr : Array Keyed} {base n hint : Nat} {st : SortSt} {Q : Option Nat -> SortSt -> Prop} (C : Cmp M A E s r Mem k0) (hk : kindOf st = k0) (hh : hint < n) (mk : Mem key) {g : List Keyed}
  (hg : g.length = n) (ha : ∀ i, i < n -> arr[base + i]? = g[i]?) (hm : ∀ x ∈ g, Mem x) (hs : g.Pairwise fun x y => r x <= r y)
  (h : ∀ k, k <= n -> (∀ x ∈ g.take k, bey r left key x = true) -> (∀ x ∈ g.drop k, bey r left key x = false) -> Q (some k) st) : wpS M A E s (gal left key arr base n hint) Q st := by
 have get : ∀ i, i < n -> ∃ x, g[i]? = some x /\ x ∈ g := fun i hi => ⟨g[i]'(by omega), zAH (by omega), zB3 _⟩
 refine vQ (B := fun i => match g[i]? with | some x => bey r left key x | none => false) C hk hh mk (fun i hi => ?_) (fun i j hij hj hb => ?_) fun k c => h k c.le (fun x hx => ?_) fun x hx => ?_
 ·obtain ⟨x, e, m⟩ := get i hi
  exact ⟨x, by rw [ha i hi]; exact e, hm x m, by rw [e]⟩
 ·dsimp only at hb ⊢
  obtain ⟨x, e, _⟩ := get i (by omega)
  obtain ⟨y, f, _⟩ := get j hj
  rw [e]
  rw [f] at hb
  dsimp only at hb ⊢
  by_cases c : i = j
  ·subst c
   rw [e] at f
   cases f
   exact hb
  ·have lt : r x <= r y := by
    obtain ⟨h1, rfl⟩ := zAF.mp e
    obtain ⟨h2, rfl⟩ := zAF.mp f
    exact zAs.mp hs i j h1 h2 (by omega)
   unfold bey at hb ⊢
   cases left with
   | true =>
    rw [if_pos rfl] at hb ⊢
    have := of_decide_eq_true hb
    exact decide_eq_true (by omega)
   | false =>
    rw [if_neg (by simp)] at hb ⊢
    have : ¬ r key < r y := by simpa using hb
    simp
    omega
 ·obtain ⟨i, hi, e⟩ := List.mem_take_iff_getElem.mp hx
  have := c.lo i (by omega)
  rw [zAH (by omega)] at this
  rw [<- e]
  exact this
 ·obtain ⟨i, hi⟩ := List.mem_iff_getElem?.mp hx
  rw [zBa] at hi
  obtain ⟨h1, _⟩ := zAF.mp hi
  have := c.hi (k + i) (by omega) (by omega)
  rw [hi] at this
  exact this
end
structure MI (R : Keyed -> Keyed -> Prop) (T o a b : List Keyed) : Prop where
 p : (o ++ (a ++ b)).Perm T
 so : o.Pairwise R
 sa : a.Pairwise R
 sb : b.Pairwise R
 oa : ∀ x ∈ o, ∀ y ∈ a, R x y
 ob : ∀ x ∈ o, ∀ y ∈ b, R x y
section
variable {R : Keyed -> Keyed -> Prop} {T o a b : List Keyed}
theorem MI.left {a1 a2 : List Keyed} (h : MI R T o (a1 ++ a2) b) (q : ∀ x ∈ a1, ∀ y ∈ b, R x y) : MI R T (o ++ a1) a2 b where
 p := by have := h.p; rw [zAw] at this; rw [zAw]; exact this
 so := zAz.mpr ⟨h.so, (zAz.mp h.sa).1, fun x hx y hy => h.oa x hx y (zBj _ hy)⟩
 sa := (zAz.mp h.sa).2.1
 sb := h.sb
 oa := fun x hx y hy => by
  rcases zAW.mp hx with c | c
  ·exact h.oa x c y (zAm _ hy)
  ·exact (zAz.mp h.sa).2.2 x c y hy
 ob := fun x hx y hy => by
  rcases zAW.mp hx with c | c
  ·exact h.ob x c y hy
  ·exact q x c y hy
theorem MI.swap (h : MI R T o a b) : MI R T o b a := ⟨(List.Perm.append_left _ List.perm_append_comm).trans h.p, h.so, h.sb, h.sa, h.ob, h.oa⟩
theorem MI.right {b1 b2 : List Keyed} (h : MI R T o a (b1 ++ b2)) (q : ∀ y ∈ b1, ∀ x ∈ a, R y x) : MI R T (o ++ b1) a b2 := (h.swap.left q).swap
theorem MI.last (h : MI R T o a b) (q : ∀ y ∈ b, ∀ x ∈ a, R y x) : (o ++ b ++ a).Pairwise R /\ (o ++ b ++ a).Perm T := by
 have h' : MI R T o a (b ++ []) := by rw [zBC]; exact h
 have m := h'.right q
 refine ⟨zAz.mpr ⟨m.so, m.sa, m.oa⟩, ?_⟩
 have := m.p
 rw [zBC] at this
 exact this
theorem MI.done (h : MI R T o a b) (q : a = [] ∨ b = []) : (o ++ a ++ b).Pairwise R /\ (o ++ a ++ b).Perm T := h.swap.last fun x hx y hy => by
 rcases q with q | q
 ·rw [q] at hx; cases hx
 ·rw [q] at hy; cases hy
theorem MI.start (h : a.Pairwise R) (h' : b.Pairwise R) : MI R (a ++ b) [] a b := ⟨zBl _, .nil, h, h', fun _ z => (by cases z), fun _ z => (by cases z)⟩
end
structure br (st st' : SortSt) : Prop where
 k : kindOf st' = kindOf st
 a : arrOf st' = arrOf st
 p : pendingOf st' = pendingOf st
 f : failedOf st' = failedOf st
theorem br.refl (st : SortSt) : br st st := ⟨rfl, rfl, rfl, rfl⟩
section
variable {M : Model} {A : Around} {E : Value -> Shared -> Prop} {s : Shared}
theorem jC {st st0 : SortSt} {g : Nat} {Q : Unit -> SortSt -> Prop} (h : br st0 st) (q : ∀ st', br st0 st' -> Q () st') : wpS M A E s (yj g) Q st := by
 show wpS M A E s (modify fun st => SortSt.mk' (kindOf st) (arrOf st) (pendingOf st) g (failedOf st)) Q st
 exact wpS_modify (q _ ⟨h.k, h.a, h.p, h.f⟩)
end
end TS
namespace TS
open PySem PyProof.Rows
section
variable {M : Model} {A : Around} {E : Value -> Shared -> Prop} {s : Shared} {r : Keyed -> Nat} {Mem : Keyed -> Prop} {k0 : SortKind}
theorem az {σ α : Type} {c : Prop} [Decidable c] {x y : StateT σ Sem α} {Q : α -> σ -> Prop} {st : σ} (h1 : c -> wpS M A E s x Q st) (h2 : ¬ c -> wpS M A E s y Q st) : wpS M A E s (if c then x else y) Q st := by
 by_cases h : c
 ·rw [if_pos h]; exact h1 h
 ·rw [if_neg h]; exact h2 h
theorem cI {l : List Keyed} {i : Nat} (h : i < l.length) : ∃ x, l[i]? = some x /\ l.drop i = x :: l.drop (i + 1) /\ x ∈ l := ⟨l[i], zAH h, zBi h, zB3 h⟩
theorem iF {l : List Keyed} {x : Keyed} {i : Nat} (hs : (l.drop i).Pairwise fun x y => r x <= r y) (e : l.drop i = x :: l.drop (i + 1)) : ∀ y ∈ l.drop i, r x <= r y := fun y hy => by
 rw [e] at hs hy
 rcases zAN.mp hy with c | c
 ·rw [c]; exact zAE _
 ·exact (zCC.mp hs).1 y c
section
variable {R : Keyed -> Keyed -> Prop} {T X : List Keyed} {a o : Array Keyed} {i : Nat}
theorem MI.pA {w : Keyed} (h : MI R T o.toList (a.toList.drop i) X) (e : a.toList.drop i = w :: a.toList.drop (i + 1)) (q : ∀ y ∈ X, R w y) : MI R T (o.push w).toList (a.toList.drop (i + 1)) X := by
 rw [e] at h
 rw [zBV]
 exact h.left (a1 := [w]) fun z hz x hx => by rw [zA0.mp hz]; exact q x hx
theorem MI.pB {w : Keyed} (h : MI R T o.toList X (a.toList.drop i)) (e : a.toList.drop i = w :: a.toList.drop (i + 1)) (q : ∀ y ∈ X, R w y) : MI R T (o.push w).toList X (a.toList.drop (i + 1)) := (h.swap.pA e q).swap
theorem MI.eA (h : MI R T o.toList (a.toList.drop i) X) (k : Nat) (q : ∀ x ∈ (a.toList.drop i).take k, ∀ y ∈ X, R x y) : MI R T (o ++ a.extract i (i + k)).toList (a.toList.drop (i + k)) X := by
 have e : a.toList.drop i = (a.toList.drop i).take k ++ a.toList.drop (i + k) := by rw [<- zCG, zAf]
 have t : (a.extract i (i + k)).toList = (a.toList.drop i).take k := by rw [zAy, zBR, zBq]
 rw [zBA, t]
 rw [e] at h
 exact h.left q
theorem MI.eB (h : MI R T o.toList X (a.toList.drop i)) (k : Nat) (q : ∀ x ∈ (a.toList.drop i).take k, ∀ y ∈ X, R x y) : MI R T (o ++ a.extract i (i + k)).toList X (a.toList.drop (i + k)) := (h.swap.eA k q).swap
end
structure Mid (r : Keyed -> Nat) (a b : Array Keyed) (o : Array Keyed) (i j : Nat) : Prop where
 m : MI (fun x y => r x <= r y) (a.toList ++ b.toList) o.toList (a.toList.drop i) (b.toList.drop j)
 hi : i + 1 < a.size
 hj : j < b.size
theorem Mid.sz {a b o : Array Keyed} {i j : Nat} (h : Mid r a b o i j) : i + j < a.size + b.size := by have := h.hi; have := h.hj; omega
def Res (r : Keyed -> Nat) (T : List Keyed) (z : Array Keyed) : Prop := z.toList.Pairwise (fun x y => r x <= r y) /\ z.toList.Perm T
theorem xO {a b : Array Keyed} {st : SortSt} {Q : Array Keyed -> SortSt -> Prop} (C : Cmp M A E s r Mem k0) (hk : kindOf st = k0) (ma : ∀ x ∈ a.toList, Mem x) (mb : ∀ x ∈ b.toList, Mem x) (sa : a.toList.Pairwise fun x y => r x <= r y) (sb : b.toList.Pairwise fun x y => r x <= r y)
  (a0 : 0 < a.size) (b0 : 0 < b.size) (hlast : ∀ x, a.toList.drop (a.size - 1) = [x] -> ∀ y ∈ b.toList, r y <= r x) (hfirst : ∀ y, b[0]? = some y -> ∀ x ∈ a.toList, r y <= r x)
  (h : ∀ z st', Res r (a.toList ++ b.toList) z -> br st st' -> Q z st') : wpS M A E s (mLo a b) Q st := by
 have la : a.toList.length = a.size := rfl
 have lb : b.toList.length = b.size := rfl
 have fin : ∀ (o : Array Keyed) (i j : Nat), MI (fun x y => r x <= r y) (a.toList ++ b.toList) o.toList (a.toList.drop i) (b.toList.drop j) -> (a.size <= i ∨ b.size <= j) -> Res r (a.toList ++ b.toList) (o ++ a.extract i a.size ++ b.extract j b.size) := fun o i j m q => by
  have := m.done (q.imp (fun q => List.drop_eq_nil_of_le (by omega)) fun q => List.drop_eq_nil_of_le (by omega))
  unfold Res
  rw [zBA, zBA, zAy, zAy, zBR, zBR, zAh (by rw [zAo]; omega), zAh (by rw [zAo]; omega)]
  exact this
 have lst : ∀ (o : Array Keyed) (i j : Nat), MI (fun x y => r x <= r y) (a.toList ++ b.toList) o.toList (a.toList.drop i) (b.toList.drop j) -> i + 1 = a.size -> Res r (a.toList ++ b.toList) (o ++ b.extract j b.size ++ a.extract i a.size) := fun o i j m q => by
  obtain ⟨x, _, e, _⟩ := cI (l := a.toList) (i := i) (by omega)
  rw [show a.toList.drop (i + 1) = [] from List.drop_eq_nil_of_le (by omega)] at e
  have := m.last fun y hy z hz => by
   rw [e, zA0] at hz
   rw [hz]
   exact hlast x (by rw [show a.size - 1 = i by omega]; exact e) y (zA7 hy)
  unfold Res
  rw [zBA, zBA, zAy, zAy, zBR, zBR, zAh (by rw [zAo]; omega), zAh (by rw [zAo]; omega)]
  exact this
 obtain ⟨y0, hy0, ey0, my0⟩ := cI (l := b.toList) (i := 0) b0
 have g0 : b[0]? = some y0 := by rw [<- zAC]; exact hy0
 have m0 : MI (fun x y => r x <= r y) (a.toList ++ b.toList) (#[y0] : Array Keyed).toList (a.toList.drop 0) (b.toList.drop 1) := by
  have m := MI.start sa sb
  rw [show b.toList = [y0] ++ b.toList.drop 1 from ey0] at m
  have := m.right fun y hy x hx => by rw [zA0.mp hy]; exact hfirst y0 g0 x hx
  rw [<- show b.toList = [y0] ++ b.toList.drop 1 from ey0] at this
  exact this
 refine wpS_bind (wpS_lift (wpAny_rule ⟨rfl, ?_⟩))
 refine wpS_bind (aG g0 ?_)
 refine az (fun c => wpS_pure (h _ _ (fin _ 0 1 m0 (.inr (by have := beq_iff_eq.mp c; omega))) (br.refl _))) fun c1 => ?_
 refine az (fun c => wpS_pure (h _ _ (lst _ 0 1 m0 (beq_iff_eq.mp c)) (br.refl _))) fun c2 => ?_
 have c1' : 1 ≠ b.size := fun e => c1 (beq_iff_eq.mpr e)
 have c2' : 0 + 1 ≠ a.size := fun e => c2 (beq_iff_eq.mpr e)
 have mid0 : Mid r a b #[y0] 0 1 := ⟨m0, by omega, by omega⟩
 refine wpS_bind (wpS_get ?_)
 refine wpS_bind (wpS_mono (wpS_forRange (I := fun x z st' => br st st' /\ ∃ o i j g, z = (none, o, i, j, g) /\ Mid r a b o i j /\ x <= i + j) (Q := fun z st' => br st st' /\ ∃ w q, z = (some w, q) /\ Res r (a.toList ++ b.toList) w) ?_ ?_ ⟨br.refl _, _, _, _, _, rfl, mid0, by omega⟩) ?_)
 ·rintro x z st1 _ hx ⟨L1, o, i, j, g, rfl, md, hp⟩
  refine wpS_bind (wpS_mono (wpS_forRange (I := fun x z st' => br st st' /\ ∃ o i' j' u v, z = (none, o, i', j', u, v) /\ Mid r a b o i' j' /\ i + j + x <= i' + j') (Q := fun z st' => br st st' /\ ((∃ w q, z = (some w, q) /\ Res r (a.toList ++ b.toList) w) ∨ ∃ o i' j' u v, z = (none, o, i', j', u, v) /\ Mid r a b o i' j' /\ i + j + 1 <= i' + j')) ?_ ?_ ⟨L1, o, i, j, _, _, rfl, md, by omega⟩) ?_)
  ·clear md hp hx
   rintro x z st2 _ hx ⟨L2, o, i', j', u, v, rfl, md, hp⟩
   obtain ⟨y, hy, ey, my⟩ := cI (l := b.toList) (i := j') md.hj
   obtain ⟨w, hw, ew, mw⟩ := cI (l := a.toList) (i := i') (by have := md.hi; omega)
   rw [zAC] at hy hw
   refine wpS_bind (aG hy (wpS_bind (aG hw (wpS_bind (C.lt _ _ _ _ (mb y my) (ma w mw) (L2.k.trans hk) ?_)))))
   have hb := iF md.m.sb ey
   have hw' := iF md.m.sa ew
   refine az (fun c => ?_) fun c => ?_
   ·have c' := of_decide_eq_true c
    refine wpS_bind (aG hy ?_)
    have m' : MI (fun x y => r x <= r y) (a.toList ++ b.toList) (o.push y).toList (a.toList.drop i') (b.toList.drop (j' + 1)) := by
     have m := md.m
     rw [ey] at m
     rw [zBV]
     exact m.right (b1 := [y]) fun z hz x hx => by rw [zA0.mp hz]; exact zAX (zBT c') (hw' x hx)
    refine az (fun c2 => wpS_pure ⟨L2, .inl ⟨_, _, rfl, fin _ _ _ m' (.inr (by have := beq_iff_eq.mp c2; omega))⟩⟩) fun c2 => ?_
    ·have c2' : j' + 1 ≠ b.size := fun e => c2 (beq_iff_eq.mpr e)
     have md' : Mid r a b (o.push y) i' (j' + 1) := ⟨m', md.hi, by have := md.hj; omega⟩
     exact az (fun _ => wpS_pure ⟨L2, .inr ⟨o.push y, i', j' + 1, _, _, rfl, md', by omega⟩⟩) fun _ => wpS_pure ⟨L2, o.push y, i', j' + 1, _, _, rfl, md', by omega⟩
   ·have c' : ¬ r y < r w := fun e => c (decide_eq_true e)
    refine wpS_bind (aG hw ?_)
    have m' : MI (fun x y => r x <= r y) (a.toList ++ b.toList) (o.push w).toList (a.toList.drop (i' + 1)) (b.toList.drop j') := by
     have m := md.m
     rw [ew] at m
     rw [zBV]
     exact m.left (a1 := [w]) fun z hz x hx => by rw [zA0.mp hz]; exact zAX (zBU.mp c') (hb x hx)
    refine az (fun c2 => wpS_pure ⟨L2, .inl ⟨_, _, rfl, lst _ _ _ m' (beq_iff_eq.mp c2)⟩⟩) fun c2 => ?_
    ·have c2' : i' + 1 + 1 ≠ a.size := fun e => c2 (beq_iff_eq.mpr e)
     have md' : Mid r a b (o.push w) (i' + 1) j' := ⟨m', by have := md.hi; omega, md.hj⟩
     exact az (fun _ => wpS_pure ⟨L2, .inr ⟨o.push w, i' + 1, j', _, _, rfl, md', by omega⟩⟩) fun _ => wpS_pure ⟨L2, o.push w, i' + 1, j', _, _, rfl, md', by omega⟩
  ·rintro z st2 ⟨L2, o, i', j', u, v, rfl, md, hp⟩
   have := md.sz
   omega
  ·rintro z st2 ⟨L2, (⟨w, q, rfl, hr⟩ | ⟨o', i', j', u, v, rfl, md', hp'⟩)⟩
   ·exact wpS_pure ⟨L2, _, _, rfl, hr⟩
   ·refine wpS_bind (wpS_lift (wpAny_rule ⟨rfl, ?_⟩))
    refine wpS_bind (wpS_mono (wpS_forRange (I := fun x z st' => br st st' /\ ∃ o i'' j'' g u v, z = (none, o, i'', j'', g, u, v) /\ Mid r a b o i'' j'' /\ i' + j' + x <= i'' + j'') (Q := fun z st' => br st st' /\ ((∃ w q, z = (some w, q) /\ Res r (a.toList ++ b.toList) w) ∨ ∃ o i'' j'' g u v, z = (none, o, i'', j'', g, u, v) /\ Mid r a b o i'' j'' /\ i' + j' <= i'' + j'')) ?_ ?_ ⟨L2, o', i', j', _, _, _, rfl, md', by omega⟩) ?_)
    ·clear md' hp'
     rintro x z st3 _ hx3 ⟨L3, o, i2, j2, g2, u2, v2, rfl, md, hp2⟩
     obtain ⟨y, hy, ey, my⟩ := cI (l := b.toList) (i := j2) md.hj
     rw [zAC] at hy
     have both : ∀ g3 : Nat, wpS M A E s (yj g3) (fun _ st4 => br st st4) st3 := fun g3 => jC L3 fun st4 L4 => L4
     have hb := iF md.m.sb ey
     have hi2 := md.hi
     have hj2 := md.hj
     refine az (fun _ => ?_) fun _ => ?_
     all_goals
      refine wpS_bind (wpS_mono (both _) fun _ st4 L4 => ?_)
      refine wpS_bind (aG hy (wpS_bind (d5 C (L4.k.trans hk) (show 0 < a.size - i2 by omega) (mb y my) (g := a.toList.drop i2) (by rw [zAo]; rfl) (fun n hn => by rw [zBa, zAC]) (fun x hx => ma x (zA7 hx)) md.m.sa fun k hk1 hlo hhi => ?_)))
      have hk1' : k <= a.size - i2 := hk1
      have lo : ∀ x ∈ (a.toList.drop i2).take k, r x <= r y := fun x hx => by
       have := hlo x hx
       simpa [bey] using this
      have up : ∀ x ∈ a.toList.drop (i2 + k), r y <= r x := fun x hx => by
       rw [<- zCG] at hx
       have := hhi x hx
       simp [bey] at this
       omega
      refine az (fun ck => ?_) fun ck => ?_
      case' refine_1 =>
       have hm := md.m.eA k fun x hx z hz => zAX (lo x hx) (hb z hz)
       have hge := up
       have hle : i2 <= i2 + k := by omega
       refine az (fun c3 => wpS_pure ⟨L4, .inl ⟨_, _, rfl, lst _ _ _ hm (beq_iff_eq.mp c3)⟩⟩) fun c3 => ?_
       refine az (fun c4 => wpS_pure ⟨L4, .inl ⟨_, _, rfl, fin _ _ _ hm (.inl (zBb (beq_iff_eq.mp c4).symm))⟩⟩) fun c4 => ?_
       have h3 : i2 + k + 1 < a.size := by
        have : i2 + k + 1 ≠ a.size := fun e => c3 (beq_iff_eq.mpr e)
        have : i2 + k ≠ a.size := fun e => c4 (beq_iff_eq.mpr e)
        omega
      case' refine_2 =>
       have k0' : k = 0 := by omega
       subst k0'
       have hm := md.m
       have hge := up
       have hle : i2 <= i2 + 0 := by omega
       have h3 : i2 + 0 + 1 < a.size := hi2
      all_goals
       refine wpS_bind (aG hy ?_)
       have m1 := hm.pB ey hge
       refine az (fun c => wpS_pure ⟨L4, .inl ⟨_, _, rfl, fin _ _ _ m1 (.inr (zBb (beq_iff_eq.mp c).symm))⟩⟩) fun c => ?_
       have c' : j2 + 1 ≠ b.size := fun e => c (beq_iff_eq.mpr e)
       obtain ⟨w, hw, ew, mw⟩ := cI (l := a.toList) (Nat.lt_of_succ_lt h3)
       rw [zAC] at hw
       refine wpS_bind (aG hw (wpS_bind (d5 C (L4.k.trans hk) (show 0 < b.size - (j2 + 1) by omega) (ma w mw) (g := b.toList.drop (j2 + 1)) (by rw [zAo]; rfl) (fun n hn => by rw [zBa, zAC]) (fun x hx => mb x (zA7 hx)) m1.sb fun k2 hk2 hlo2 hhi2 => ?_)))
       have hw' := iF m1.sa ew
       have hk2' : k2 <= b.size - (j2 + 1) := hk2
       have lo2 : ∀ x ∈ (b.toList.drop (j2 + 1)).take k2, r x <= r w := fun x hx => by
        have := hlo2 x hx
        simp [bey] at this
        omega
       have up2 : ∀ x ∈ b.toList.drop (j2 + 1 + k2), r w <= r x := fun x hx => by
        rw [<- zCG] at hx
        have := hhi2 x hx
        simpa [bey] using this
       refine az (fun ck2 => ?_) fun ck2 => ?_
       case' refine_1 =>
        have hm2 := m1.eB k2 fun x hx z hz => zAX (lo2 x hx) (hw' z hz)
        refine az (fun c5 => wpS_pure ⟨L4, .inl ⟨_, _, rfl, fin _ _ _ hm2 (.inr (zBb (beq_iff_eq.mp c5).symm))⟩⟩) fun c5 => ?_
        have hj3 : j2 + 1 + k2 < b.size := by
         have : j2 + 1 + k2 ≠ b.size := fun e => c5 (beq_iff_eq.mpr e)
         omega
       case' refine_2 =>
        have k0' : k2 = 0 := by omega
        subst k0'
        have hm2 := m1
        have hj3 : j2 + 1 + 0 < b.size := by omega
       all_goals
        refine wpS_bind (aG hw ?_)
        have m3 := hm2.pA ew up2
        refine az (fun c6 => wpS_pure ⟨L4, .inl ⟨_, _, rfl, lst _ _ _ m3 (beq_iff_eq.mp c6)⟩⟩) fun c6 => ?_
        have md3 : Mid r a b _ _ _ := ⟨m3, Nat.lt_of_le_of_ne h3 fun e => c6 (beq_iff_eq.mpr e), hj3⟩
        exact az (fun _ => wpS_pure ⟨L4, .inr ⟨_, _, _, _, _, _, rfl, md3, by (try dsimp only); omega⟩⟩) fun _ => wpS_pure ⟨L4, _, _, _, _, _, _, rfl, md3, by (try dsimp only); omega⟩
    ·rintro z st3 ⟨L3, o, i'', j'', g, u, v, rfl, md, hp⟩
     exact ⟨L3, .inr ⟨o, i'', j'', _, _, _, rfl, md, by omega⟩⟩
    ·rintro z st3 ⟨L3, (⟨w, q, rfl, hr⟩ | ⟨o', i'', j'', g, u, v, rfl, md', hp'⟩)⟩
     ·exact wpS_pure ⟨L3, _, _, rfl, hr⟩
     ·exact wpS_bind (jC L3 fun st4 L4 => wpS_pure ⟨L4, o', i'', j'', _, rfl, md', by omega⟩)
 ·rintro z st' ⟨L, o, i, j, g, rfl, md, hp⟩
  have := md.sz
  omega
 ·rintro z st' ⟨L, w, q, rfl, hr⟩
  exact wpS_pure (h _ _ hr L)
end
end TS
namespace TS
open PySem PyProof.Rows
section
variable {M : Model} {A : Around} {E : Value -> Shared -> Prop} {s : Shared} {r : Keyed -> Nat} {Mem : Keyed -> Prop} {k0 : SortKind}
theorem eM {l : List Keyed} {n : Nat} (h0 : 0 < n) (h : n <= l.length) : ∃ x, l[n - 1]? = some x /\ (l.take n).reverse = x :: (l.take (n - 1)).reverse /\ x ∈ l := by
 obtain ⟨m, rfl⟩ : ∃ m, n = m + 1 := ⟨n - 1, by omega⟩
 refine ⟨l[m]'(by omega), zAH (by omega), ?_, zB3 _⟩
 rw [List.take_succ_eq_append_getElem (by omega), zB8]
 rfl
theorem iE {l : List Keyed} {x : Keyed} {n : Nat} (hs : ((l.take n).reverse).Pairwise fun x y => r y <= r x) (e : (l.take n).reverse = x :: (l.take (n - 1)).reverse) : ∀ y ∈ (l.take n).reverse, r y <= r x := fun y hy => by
 rw [e] at hs hy
 rcases zAN.mp hy with c | c
 ·rw [c]; exact zAE _
 ·exact (zCC.mp hs).1 y c
theorem vd {l : List Keyed} (h : l.reverse.Pairwise fun x y => r y <= r x) : l.Pairwise fun x y => r x <= r y := List.pairwise_reverse.mp h
theorem nu {l : List Keyed} (h : l.Pairwise fun x y => r x <= r y) : l.reverse.Pairwise fun x y => r y <= r x := List.pairwise_reverse.mpr h
section
variable {R : Keyed -> Keyed -> Prop} {T X : List Keyed} {a o : Array Keyed} {n : Nat}
theorem MI.qA {w : Keyed} (h : MI R T o.toList (a.toList.take n).reverse X) (e : (a.toList.take n).reverse = w :: (a.toList.take (n - 1)).reverse) (q : ∀ y ∈ X, R w y) : MI R T (o.push w).toList (a.toList.take (n - 1)).reverse X := by
 rw [e] at h
 rw [zBV]
 exact h.left (a1 := [w]) fun z hz x hx => by rw [zA0.mp hz]; exact q x hx
theorem MI.qB {w : Keyed} (h : MI R T o.toList X (a.toList.take n).reverse) (e : (a.toList.take n).reverse = w :: (a.toList.take (n - 1)).reverse) (q : ∀ y ∈ X, R w y) : MI R T (o.push w).toList X (a.toList.take (n - 1)).reverse := (h.swap.qA e q).swap
theorem MI.fA (h : MI R T o.toList (a.toList.take n).reverse X) {k : Nat} (hk : k <= n) (q : ∀ x ∈ (a.toList.take n).drop k, ∀ y ∈ X, R x y) : MI R T (o ++ (a.extract k n).reverse).toList (a.toList.take k).reverse X := by
 have e : (a.toList.take n).reverse = ((a.toList.take n).drop k).reverse ++ (a.toList.take k).reverse := by
  rw [<- zB8]
  congr 1
  have := zAf k (a.toList.take n)
  rw [List.take_take, zBD hk] at this
  exact this.symm
 have t : (a.extract k n).reverse.toList = ((a.toList.take n).drop k).reverse := by
  rw [Array.toList_reverse, zAy, List.extract_eq_drop_take, List.drop_take]
 rw [zBA, t]
 rw [e] at h
 exact h.left fun x hx => q x (zBO.mp hx)
theorem MI.fB (h : MI R T o.toList X (a.toList.take n).reverse) {k : Nat} (hk : k <= n) (q : ∀ x ∈ (a.toList.take n).drop k, ∀ y ∈ X, R x y) : MI R T (o ++ (a.extract k n).reverse).toList X (a.toList.take k).reverse := (h.swap.fA hk q).swap
end
structure Mir (r : Keyed -> Nat) (a b : Array Keyed) (o : Array Keyed) (i j : Nat) : Prop where
 m : MI (fun x y => r y <= r x) (a.toList ++ b.toList) o.toList (a.toList.take i).reverse (b.toList.take j).reverse
 h0 : 0 < i
 hi : i <= a.size
 h1 : 1 < j
 hj : j <= b.size
theorem xN {a b : Array Keyed} {st : SortSt} {Q : Array Keyed -> SortSt -> Prop} (C : Cmp M A E s r Mem k0) (hk : kindOf st = k0) (ma : ∀ x ∈ a.toList, Mem x) (mb : ∀ x ∈ b.toList, Mem x) (sa : a.toList.Pairwise fun x y => r x <= r y) (sb : b.toList.Pairwise fun x y => r x <= r y)
  (a0 : 0 < a.size) (b0 : 0 < b.size) (hlast : ∀ x, a[a.size - 1]? = some x -> ∀ y ∈ b.toList, r y <= r x) (hfirst : ∀ y, b.toList.take 1 = [y] -> ∀ x ∈ a.toList, r y <= r x)
  (h : ∀ z st', Res r (a.toList ++ b.toList) z -> br st st' -> Q z st') : wpS M A E s (mHi a b) Q st := by
 have la : a.toList.length = a.size := rfl
 have lb : b.toList.length = b.size := rfl
 have frst : ∀ (o : Array Keyed) (i j : Nat), MI (fun x y => r y <= r x) (a.toList ++ b.toList) o.toList (a.toList.take i).reverse (b.toList.take j).reverse -> (∀ x ∈ a.toList.take i, ∀ y ∈ b.toList.take j, r y <= r x) -> Res r (a.toList ++ b.toList) (b.extract 0 j ++ a.extract 0 i ++ o.reverse) := fun o i j m q => by
  obtain ⟨p1, p2⟩ := m.swap.last fun x hx y hy => q x (zBO.mp hx) y (zBO.mp hy)
  have e : (o.toList ++ (a.toList.take i).reverse ++ (b.toList.take j).reverse) = (b.extract 0 j ++ a.extract 0 i ++ o.reverse).toList.reverse := by
   rw [zBA, zBA, zAy, zAy, Array.toList_reverse, List.extract_eq_drop_take, List.extract_eq_drop_take, List.drop_zero, List.drop_zero, zB8, zB8, List.reverse_reverse, zAw, Nat.sub_zero, Nat.sub_zero]
  rw [e] at p1 p2
  exact ⟨vd p1, (List.reverse_perm _).symm.trans p2⟩
 have fin : ∀ (o : Array Keyed) (i j : Nat), MI (fun x y => r y <= r x) (a.toList ++ b.toList) o.toList (a.toList.take i).reverse (b.toList.take j).reverse -> (i = 0 ∨ j = 0) -> Res r (a.toList ++ b.toList) (a.extract 0 i ++ b.extract 0 j ++ o.reverse) := fun o i j m q => by
  have := frst o i j m fun x hx y hy => by
   rcases q with q | q
   ·rw [q] at hx; simp at hx
   ·rw [q] at hy; simp at hy
  have e : a.extract 0 i ++ b.extract 0 j = b.extract 0 j ++ a.extract 0 i := by
   rcases q with q | q <;> subst q <;> simp
  rw [e]
  exact this
 have fst1 : ∀ (o : Array Keyed) (i j : Nat), MI (fun x y => r y <= r x) (a.toList ++ b.toList) o.toList (a.toList.take i).reverse (b.toList.take j).reverse -> j = 1 -> Res r (a.toList ++ b.toList) (b.extract 0 j ++ a.extract 0 i ++ o.reverse) := fun o i j m q => frst o i j m fun x hx y hy => by
  subst q
  obtain ⟨z, hz, e, _⟩ := cI (l := b.toList) (i := 0) b0
  have e1 : b.toList.take 1 = [z] := by
   have e2 : b.toList = z :: b.toList.drop 1 := e
   rw [e2]; rfl
  rw [e1, zA0] at hy
  rw [hy]
  exact hfirst z e1 x (zA3 hx)
 obtain ⟨y0, hy0, ey0, my0⟩ := eM (l := a.toList) a0 (zAE _)
 have g0 : a[a.size - 1]? = some y0 := by rw [<- zAC]; exact hy0
 have m0 : MI (fun x y => r y <= r x) (a.toList ++ b.toList) (#[y0] : Array Keyed).toList (a.toList.take (a.size - 1)).reverse (b.toList.take b.size).reverse := by
  have m : MI (fun x y => r y <= r x) (a.toList ++ b.toList) (#[] : Array Keyed).toList (a.toList.take a.size).reverse (b.toList.take b.size).reverse := by
   rw [zAh (zBb la), zAh (zBb lb)]
   exact ⟨(List.reverse_perm _).append (List.reverse_perm _), .nil, nu sa, nu sb, fun _ z => (by cases z), fun _ z => (by cases z)⟩
  exact m.qA ey0 fun y hy => hlast y0 g0 y (zA3 (zBO.mp hy))
 refine wpS_bind (wpS_lift (wpAny_rule ⟨rfl, ?_⟩))
 refine wpS_bind (aG g0 ?_)
 refine az (fun c => wpS_pure (h _ _ (fin _ _ _ m0 (.inl (beq_iff_eq.mp c))) (br.refl _))) fun c1 => ?_
 refine az (fun c => wpS_pure (h _ _ (fst1 _ _ _ m0 (beq_iff_eq.mp c)) (br.refl _))) fun c2 => ?_
 have c1' : a.size - 1 ≠ 0 := fun e => c1 (beq_iff_eq.mpr e)
 have c2' : b.size ≠ 1 := fun e => c2 (beq_iff_eq.mpr e)
 have mid0 : Mir r a b #[y0] (a.size - 1) b.size := ⟨m0, by omega, by omega, by omega, by omega⟩
 refine wpS_bind (wpS_get ?_)
 refine wpS_bind (wpS_mono (wpS_forRange (a := 0) (I := fun x z st' => br st st' /\ ∃ o i j g, z = (none, i, j, o, g) /\ Mir r a b o i j /\ x + i + j <= a.size + b.size) (Q := fun z st' => br st st' /\ ∃ w q, z = (some w, q) /\ Res r (a.toList ++ b.toList) w) ?_ ?_ ⟨br.refl _, #[y0], a.size - 1, b.size, _, rfl, mid0, by omega⟩) ?_)
 ·rintro x z st1 _ hx ⟨L1, o, i, j, g, rfl, md, hp⟩
  refine wpS_bind (wpS_mono (wpS_forRange (I := fun x z st' => br st st' /\ ∃ o i' j' u v, z = (none, i', j', o, u, v) /\ Mir r a b o i' j' /\ x + i' + j' <= i + j) (Q := fun z st' => br st st' /\ ((∃ w q, z = (some w, q) /\ Res r (a.toList ++ b.toList) w) ∨ ∃ o i' j' u v, z = (none, i', j', o, u, v) /\ Mir r a b o i' j' /\ 1 + i' + j' <= i + j)) ?_ ?_ ⟨L1, o, i, j, _, _, rfl, md, by omega⟩) ?_)
  ·clear md hp hx
   rintro x z st2 _ hx ⟨L2, o, i', j', u, v, rfl, md, hp⟩
   have hi2 := md.hi
   have hj2 := md.hj
   have hi1 := md.h0
   have hj1 := md.h1
   obtain ⟨y, hy, ey, my⟩ := eM (l := b.toList) (n := j') (by omega) hj2
   obtain ⟨w, hw, ew, mw⟩ := eM (l := a.toList) (n := i') hi1 hi2
   rw [zAC] at hy hw
   refine wpS_bind (aG hy (wpS_bind (aG hw (wpS_bind (C.lt _ _ _ _ (mb y my) (ma w mw) (L2.k.trans hk) ?_)))))
   have hb := iE md.m.sb ey
   have hw' := iE md.m.sa ew
   refine az (fun c => ?_) fun c => ?_
   ·have c' := of_decide_eq_true c
    refine wpS_bind (aG hw ?_)
    have m' := md.m.qA ew fun x hx => zAX (hb x hx) (zBT c')
    refine az (fun c2 => wpS_pure ⟨L2, .inl ⟨_, _, rfl, fin _ _ _ m' (.inl (beq_iff_eq.mp c2))⟩⟩) fun c2 => ?_
    have c2' : i' - 1 ≠ 0 := fun e => c2 (beq_iff_eq.mpr e)
    have md' : Mir r a b (o.push w) (i' - 1) j' := ⟨m', by omega, by omega, hj1, hj2⟩
    exact az (fun _ => wpS_pure ⟨L2, .inr ⟨o.push w, i' - 1, j', _, _, rfl, md', by omega⟩⟩) fun _ => wpS_pure ⟨L2, o.push w, i' - 1, j', _, _, rfl, md', by omega⟩
   ·have c' : ¬ r y < r w := fun e => c (decide_eq_true e)
    refine wpS_bind (aG hy ?_)
    have m' := md.m.qB ey fun x hx => zAX (hw' x hx) (zBU.mp c')
    refine az (fun c2 => wpS_pure ⟨L2, .inl ⟨_, _, rfl, fst1 _ _ _ m' (beq_iff_eq.mp c2)⟩⟩) fun c2 => ?_
    have c2' : j' - 1 ≠ 1 := fun e => c2 (beq_iff_eq.mpr e)
    have md' : Mir r a b (o.push y) i' (j' - 1) := ⟨m', hi1, hi2, by omega, by omega⟩
    exact az (fun _ => wpS_pure ⟨L2, .inr ⟨o.push y, i', j' - 1, _, _, rfl, md', by omega⟩⟩) fun _ => wpS_pure ⟨L2, o.push y, i', j' - 1, _, _, rfl, md', by omega⟩
  ·rintro z st2 ⟨L2, o, i', j', u, v, rfl, md, hp⟩
   have := md.h0
   omega
  ·rintro z st2 ⟨L2, (⟨w, q, rfl, hr⟩ | ⟨o', i', j', u, v, rfl, md', hp'⟩)⟩
   ·exact wpS_pure ⟨L2, _, _, rfl, hr⟩
   ·refine wpS_bind (wpS_lift (wpAny_rule ⟨rfl, ?_⟩))
    refine wpS_bind (wpS_mono (wpS_forRange (I := fun x z st' => br st st' /\ ∃ o i'' j'' g u v, z = (none, i'', j'', o, g, u, v) /\ Mir r a b o i'' j'' /\ x + i'' + j'' <= i' + j') (Q := fun z st' => br st st' /\ ((∃ w q, z = (some w, q) /\ Res r (a.toList ++ b.toList) w) ∨ ∃ o i'' j'' g u v, z = (none, i'', j'', o, g, u, v) /\ Mir r a b o i'' j'' /\ i'' + j'' <= i' + j')) ?_ ?_ ⟨L2, o', i', j', _, _, _, rfl, md', by omega⟩) ?_)
    ·clear md' hp'
     rintro x z st3 _ hx3 ⟨L3, o, i2, j2, g2, u2, v2, rfl, md, hp2⟩
     have hi2 := md.hi
     have hj2 := md.hj
     have hi1 := md.h0
     have hj1 := md.h1
     obtain ⟨y, hy, ey, my⟩ := eM (l := b.toList) (n := j2) (by omega) hj2
     rw [zAC] at hy
     have both : ∀ g3 : Nat, wpS M A E s (yj g3) (fun _ st4 => br st st4) st3 := fun g3 => jC L3 fun st4 L4 => L4
     have hb := iE md.m.sb ey
     refine az (fun _ => ?_) fun _ => ?_
     all_goals
      refine wpS_bind (wpS_mono (both _) fun _ st4 L4 => ?_)
      refine wpS_bind (aG hy (wpS_bind (d5 C (L4.k.trans hk) (show i2 - 1 < i2 by omega) (mb y my) (g := a.toList.take i2) (by rw [zAc]; exact zBD hi2) (fun n hn => by rw [zBt, if_pos hn, zAC, zBz]) (fun x hx => ma x (zA3 hx)) (vd md.m.sa) fun k hk1 hlo hhi => ?_)))
      have hk1' : k <= i2 := hk1
      have lo : ∀ x ∈ a.toList.take k, r x <= r y := fun x hx => by
       have := hlo x (by rw [List.take_take, zBD hk1']; exact hx)
       simpa [bey] using this
      have up : ∀ x ∈ (a.toList.take i2).drop k, r y <= r x := fun x hx => by
       have := hhi x hx
       simp [bey] at this
       omega
      refine az (fun ck => ?_) fun ck => ?_
      case' refine_1 =>
       have hm := md.m.fA hk1' fun x hx z hz => zAX (hb z hz) (up x hx)
       refine az (fun c3 => wpS_pure ⟨L4, .inl ⟨_, _, rfl, fin _ _ _ hm (.inl (beq_iff_eq.mp c3))⟩⟩) fun c3 => ?_
       have h3 : 0 < k := by
        have : k ≠ 0 := fun e => c3 (beq_iff_eq.mpr e)
        omega
       have hle : k <= i2 := hk1'
       have hge : ∀ x ∈ (a.toList.take k).reverse, r x <= r y := fun x hx => lo x (zBO.mp hx)
      case' refine_2 =>
       have k0' : k = i2 := by
        have : ¬ (i2 - k > 0) := ck
        omega
       subst k0'
       have hm := md.m
       have h3 : 0 < k := hi1
       have hle : k <= k := zAE _
       have hge : ∀ x ∈ (a.toList.take k).reverse, r x <= r y := fun x hx => lo x (zBO.mp hx)
      all_goals
       refine wpS_bind (aG hy ?_)
       have m1 := hm.qB ey hge
       refine az (fun c => wpS_pure ⟨L4, .inl ⟨_, _, rfl, fst1 _ _ _ m1 (beq_iff_eq.mp c)⟩⟩) fun c => ?_
       have c' : j2 - 1 ≠ 1 := fun e => c (beq_iff_eq.mpr e)
       obtain ⟨w, hw, ew, mw⟩ := eM (l := a.toList) h3 (zAX hle hi2)
       rw [zAC] at hw
       refine wpS_bind (aG hw (wpS_bind (d5 C (L4.k.trans hk) (show j2 - 1 - 1 < j2 - 1 by omega) (ma w mw) (g := b.toList.take (j2 - 1)) (by rw [zAc]; exact zBD (by omega)) (fun n hn => by rw [zBt, if_pos hn, zAC, zBz]) (fun x hx => mb x (zA3 hx)) (vd m1.sb) fun k2 hk2 hlo2 hhi2 => ?_)))
       have hw' := iE m1.sa ew
       have hk2' : k2 <= j2 - 1 := hk2
       have lo2 : ∀ x ∈ (b.toList.take k2).reverse, r x <= r w := fun x hx => by
        have := hlo2 x (by rw [List.take_take, zBD hk2']; exact zBO.mp hx)
        simp [bey] at this
        omega
       have up2 : ∀ x ∈ (b.toList.take (j2 - 1)).drop k2, r w <= r x := fun x hx => by
        have := hhi2 x hx
        simpa [bey] using this
       refine az (fun ck2 => ?_) fun ck2 => ?_
       case' refine_1 =>
        have hm2 := m1.fB hk2' fun x hx z hz => zAX (hw' z hz) (up2 x hx)
        refine az (fun c5 => wpS_pure ⟨L4, .inl ⟨_, _, rfl, fst1 _ _ _ hm2 (beq_iff_eq.mp c5)⟩⟩) fun c5 => ?_
        refine az (fun c5 => wpS_pure ⟨L4, .inl ⟨_, _, rfl, fin _ _ _ hm2 (.inr (beq_iff_eq.mp c5))⟩⟩) fun c7 => ?_
        have hj3 : 1 < k2 := by
         have : k2 ≠ 1 := fun e => c5 (beq_iff_eq.mpr e)
         have : k2 ≠ 0 := fun e => c7 (beq_iff_eq.mpr e)
         omega
        have hj4 : k2 <= b.size := by omega
        have hj5 : k2 + 1 <= j2 := by omega
       case' refine_2 =>
        have k0' : k2 = j2 - 1 := by
         have : ¬ (j2 - 1 - k2 > 0) := ck2
         omega
        rw [k0'] at lo2
        have hm2 := m1
        have hj3 : 1 < j2 - 1 := by omega
        have hj4 : j2 - 1 <= b.size := by omega
        have hj5 : j2 - 1 + 1 <= j2 := by omega
       all_goals
        refine wpS_bind (aG hw ?_)
        have m3 := hm2.qA ew lo2
        refine az (fun c6 => wpS_pure ⟨L4, .inl ⟨_, _, rfl, fin _ _ _ m3 (.inl (beq_iff_eq.mp c6))⟩⟩) fun c6 => ?_
        have md3 : Mir r a b _ _ _ := ⟨m3, Nat.pos_of_ne_zero fun e => c6 (beq_iff_eq.mpr e), by omega, hj3, hj4⟩
        exact az (fun _ => wpS_pure ⟨L4, .inr ⟨_, _, _, _, _, _, rfl, md3, by (try dsimp only); omega⟩⟩) fun _ => wpS_pure ⟨L4, _, _, _, _, _, _, rfl, md3, by (try dsimp only); omega⟩
    ·rintro z st3 ⟨L3, o, i'', j'', g, u, v, rfl, md, hp⟩
     exact ⟨L3, .inr ⟨o, i'', j'', _, _, _, rfl, md, by omega⟩⟩
    ·rintro z st3 ⟨L3, (⟨w, q, rfl, hr⟩ | ⟨o', i'', j'', g, u, v, rfl, md', hp'⟩)⟩
     ·exact wpS_pure ⟨L3, _, _, rfl, hr⟩
     ·exact wpS_bind (jC L3 fun st4 L4 => wpS_pure ⟨L4, o', i'', j'', _, rfl, md', by omega⟩)
 ·rintro z st' ⟨L, o, i, j, g, rfl, md, hp⟩
  have := md.h0
  omega
 ·rintro z st' ⟨L, w, q, rfl, hr⟩
  exact wpS_pure (h _ _ hr L)
end
end TS
namespace TS
open PySem PyProof.Rows
def rk (r : Keyed -> Nat) (xs : Array Keyed) (i : Nat) : Nat := match xs[i]? with
 | some p => r p
 | none => 0
def Seg (r : Keyed -> Nat) (xs : Array Keyed) (lo hi : Nat) : Prop := ∀ i j, lo <= i -> i <= j -> j < hi -> rk r xs i <= rk r xs j
section
variable {r : Keyed -> Nat} {xs : Array Keyed} {P W S : List Keyed}
theorem mM (e : xs.toList = P ++ (W ++ S)) {i : Nat} (hi : i < W.length) : rk r xs (P.length + i) = r W[i] := by
 unfold rk
 rw [<- zAC, e, zAM (by omega), zBq, zAa hi, zAH hi]
theorem sA (e : xs.toList = P ++ (W ++ S)) (h : W.Pairwise fun x y => r x <= r y) : Seg r xs P.length (P.length + W.length) := fun i j h1 h2 h3 => by
 obtain ⟨k, rfl⟩ : ∃ k, i = P.length + k := ⟨i - P.length, by omega⟩
 obtain ⟨l, rfl⟩ : ∃ l, j = P.length + l := ⟨j - P.length, by omega⟩
 rw [mM e (by omega), mM e (by omega)]
 by_cases c : k = l
 ·subst c; exact zAE _
 ·exact zAs.mp h k l (by omega) (by omega) (by omega)
theorem hW (e : xs.toList = P ++ (W ++ S)) (h : Seg r xs P.length (P.length + W.length)) : W.Pairwise fun x y => r x <= r y := zAs.mpr fun i j h1 h2 hij => by
 have := h (P.length + i) (P.length + j) (by omega) (by omega) (by omega)
 rw [mM e h1, mM e h2] at this
 exact this
theorem Af (xs : Array Keyed) {lo n : Nat} (h : lo + n <= xs.size) : ∃ P W S, xs.toList = P ++ (W ++ S) /\ P.length = lo /\ W.length = n := by
 refine ⟨xs.toList.take lo, (xs.toList.drop lo).take n, (xs.toList.drop lo).drop n, by rw [zAf, zAf], ?_, ?_⟩
 ·rw [zAc]; exact zBD (by show lo <= xs.size; omega)
 ·rw [zAc, zAo]; exact zBD (by show n <= xs.size - lo; omega)
theorem qq (base : Nat) : ∀ (m : List Keyed) (k : Nat) (xs : Array Keyed) (P W S : List Keyed), xs.toList = P ++ (W ++ S) -> P.length = base + k -> W.length = m.length →
  ((m.zipIdx k).foldl (fun a (x : Keyed × Nat) => match x with | (p, j) => a.setIfInBounds (base + j) p) xs).toList = P ++ (m ++ S)
 | [], k, xs, P, W, S, e, hp, hw => by
  have : W = [] := zAx hw
  rw [this] at e
  exact e
 | p :: m, k, xs, P, [], S, e, hp, hw => by cases hw
 | p :: m, k, xs, P, w :: W, S, e, hp, hw => by
  rw [List.zipIdx_cons, List.foldl_cons]
  rw [qq base m (k + 1) _ (P ++ [p]) W S ?_ (by rw [zAR, hp]; rfl) (by simpa using hw)]
  ·simp
  ·show (xs.setIfInBounds (base + k) p).toList = _
   rw [zB5, e, <- hp, List.set_append_right _ _ (zAE _), zCF]
   simp
end
section
variable {M : Model} {A : Around} {E : Value -> Shared -> Prop} {s : Shared} {r : Keyed -> Nat} {Mem : Keyed -> Prop} {k0 : SortKind}
theorem zY {σ : Type} {st st' : σ} {Q : PUnit -> σ -> Prop} (h : Q ⟨⟩ st') : wpS M A E s (set st' : StateT σ Sem PUnit) Q st := by
 unfold wpS
 rw [StateT.run_set]
 exact wpAny_pure ⟨rfl, h⟩
theorem xM {st : SortSt} {i sa na p sb nb p2 : Nat} {Q : Bool -> SortSt -> Prop} (C : Cmp M A E s r Mem k0) (hk : kindOf st = k0) (hf : failedOf st = none) (ma : ∀ x ∈ (arrOf st).toList, Mem x) (h1 : (pendingOf st)[i]? = some (sa, na, p)) (h2 : (pendingOf st)[i + 1]? = some (sb, nb, p2))
  {P X Y S : List Keyed} (e : (arrOf st).toList = P ++ (X ++ (Y ++ S))) (lP : P.length = sa) (lX : X.length = na) (lY : Y.length = nb) (hsb : sb = sa + na) (n0 : 0 < na) (m0 : 0 < nb) (sX : X.Pairwise fun x y => r x <= r y) (sY : Y.Pairwise fun x y => r x <= r y)
  (h : ∀ (st' : SortSt) (Z : List Keyed), kindOf st' = k0 -> failedOf st' = none -> pendingOf st' = ((pendingOf st).setIfInBounds i (sa, na + nb, p)).eraseIdxIfInBounds (i + 1) -> (arrOf st').toList = P ++ (Z ++ S) -> Z.Perm (X ++ Y) -> Z.Pairwise (fun x y => r x <= r y) -> Q true st') : wpS M A E s (mergeAt' i) Q st := by
 subst hsb
 have gX : ∀ n, n < na -> (arrOf st)[sa + n]? = X[n]? := fun n hn => by
  rw [<- zAC, e, zAM (by omega), show sa + n - P.length = n by omega, zAa (by omega)]
 have gY : ∀ n, n < nb -> (arrOf st)[sa + na + n]? = Y[n]? := fun n hn => by
  rw [<- zAC, e, zAM (by omega), zAM (by omega), show sa + na + n - P.length - X.length = n by omega, zAa (by omega)]
 have mX : ∀ x ∈ X, Mem x := fun x hx => ma x (by rw [e]; simp [hx])
 have mY : ∀ x ∈ Y, Mem x := fun x hx => ma x (by rw [e]; simp [hx])
 obtain ⟨y0, hy0, ey0, my0⟩ := cI (l := Y) (i := 0) (by omega)
 obtain ⟨xl, hxl, exl, mxl⟩ := eM (l := X) (n := na) n0 (by omega)
 have y0le : ∀ y ∈ Y, r y0 <= r y := iF (l := Y) (i := 0) sY ey0
 have lel : ∀ x ∈ X, r x <= r xl := fun x hx => iE (l := X) (n := na) (nu (by rw [zAh (by omega)]; exact sX)) exl x (zBO.mpr (by rw [zAh (by omega)]; exact hx))
 have same : ∀ (st' : SortSt), kindOf st' = k0 -> failedOf st' = none -> pendingOf st' = ((pendingOf st).setIfInBounds i (sa, na + nb, p)).eraseIdxIfInBounds (i + 1) -> arrOf st' = arrOf st -> (∀ x ∈ X, ∀ y ∈ Y, r x <= r y) -> Q true st' := fun st' a1 a2 a3 a4 q =>
  h st' (X ++ Y) a1 a2 a3 (by rw [a4, e, zAw]) (zBl _) (zAz.mpr ⟨sX, sY, q⟩)
 refine wpS_bind (wpS_get ?_)
 show wpS M A E s (match ((pendingOf st)[i]?, (pendingOf st)[i + 1]?) with | _ => _) Q st
 simp only [h1, h2]
 refine wpS_bind (zY ?_)
 have k1 : kindOf (SortSt.mk' (kindOf st) (arrOf st) (((pendingOf st).setIfInBounds i (sa, na + nb, p)).eraseIdxIfInBounds (i + 1)) (gallopOf st) (failedOf st)) = k0 := hk
 have f1 : failedOf (SortSt.mk' (kindOf st) (arrOf st) (((pendingOf st).setIfInBounds i (sa, na + nb, p)).eraseIdxIfInBounds (i + 1)) (gallopOf st) (failedOf st)) = none := hf
 refine wpS_bind (aG (x := y0) (by have := gY 0 m0; rw [Nat.add_zero] at this; rw [this]; exact hy0) ?_)
 refine wpS_bind (d5 C k1 n0 (mY y0 my0) (g := X) lX gX mX sX fun k hk1 hlo hhi => ?_)
 have lo : ∀ x ∈ X.take k, r x <= r y0 := fun x hx => by
  have := hlo x hx
  simpa [bey] using this
 have up : ∀ x ∈ X.drop k, r y0 <= r x := fun x hx => by
  have := hhi x hx
  simp [bey] at this
  omega
 refine az (fun c => wpS_pure (same _ k1 f1 rfl rfl fun x hx y hy => ?_)) fun c => ?_
 ·have c' : na - k = 0 := beq_iff_eq.mp c
  have hx' : x ∈ X.take k := by rw [zAh (by omega)]; exact hx
  exact zAX (lo x hx') (y0le y hy)
 have c' : na - k ≠ 0 := fun z => c (beq_iff_eq.mpr z)
 refine wpS_bind (aG (x := xl) (by show (arrOf st)[sa + k + (na - k) - 1]? = _; rw [show sa + k + (na - k) - 1 = sa + (na - 1) by omega, gX _ (by omega)]; exact hxl) ?_)
 refine wpS_bind (d5 C k1 (show nb - 1 < nb by omega) (mX xl mxl) (g := Y) lY gY mY sY fun k2 hk2 hlo2 hhi2 => ?_)
 have lo2 : ∀ y ∈ Y.take k2, r y <= r xl := fun x hx => by
  have := hlo2 x hx
  simp [bey] at this
  omega
 have up2 : ∀ y ∈ Y.drop k2, r xl <= r y := fun x hx => by
  have := hhi2 x hx
  simpa [bey] using this
 refine az (fun c => wpS_pure (same _ k1 f1 rfl rfl fun x hx y hy => ?_)) fun c2 => ?_
 ·have c' : k2 = 0 := beq_iff_eq.mp c
  rw [c'] at up2
  exact zAX (lel x hx) (up2 y hy)
 have c2' : k2 ≠ 0 := fun z => c2 (beq_iff_eq.mpr z)
 have ex : ((arrOf st).extract (sa + k) (sa + na)).toList = X.drop k := by
  rw [zAy, List.extract_eq_drop_take, e, <- lP, <- zCG, zBW (zAE _), List.drop_length, zBv, zBW (by omega), show P.length + na - (P.length + k) = (X.drop k).length by rw [zAo]; omega]
  exact List.take_left
 have ey : ((arrOf st).extract (sa + na) (sa + na + k2)).toList = Y.take k2 := by
  rw [zAy, List.extract_eq_drop_take, e, <- lP, <- lX, <- zCG, zBW (zAE _), List.drop_length, zBv, zBW (zAE _), List.drop_length, zBv, zBq, List.take_append_of_le_length (by omega)]
 have fin : ∀ (z : Array Keyed) (st2 : SortSt), Res r (X.drop k ++ Y.take k2) z -> br (SortSt.mk' (kindOf st) (arrOf st) (((pendingOf st).setIfInBounds i (sa, na + nb, p)).eraseIdxIfInBounds (i + 1)) (gallopOf st) (failedOf st)) st2 -> wpS M A E s (do
   modify fun st => setArr st (z.toList.zipIdx.foldl (fun a (x : Keyed × Nat) => match x with | (p, j) => a.setIfInBounds (sa + k + j) p) (arrOf st))
   let y ← get
   pure (failedOf y).isNone) Q st2 := fun z st2 ⟨z1, z2⟩ L => by
  refine wpS_bind (wpS_modify (wpS_bind (wpS_get (wpS_pure ?_))))
  show Q (failedOf st2).isNone _
  rw [L.f, f1]
  refine h _ (X.take k ++ (z.toList ++ Y.drop k2)) (L.k.trans k1) (L.f.trans f1) L.p ?_ ?_ ?_
  ·show (z.toList.zipIdx.foldl _ (arrOf st2)).toList = _
   rw [qq (sa + k) z.toList 0 (arrOf st2) (P ++ X.take k) (X.drop k ++ Y.take k2) (Y.drop k2 ++ S) ?_ ?_ ?_]
   ·simp only [zAw]
   ·rw [show arrOf st2 = arrOf st from L.a, e]
    have t1 := zAf k X
    have t2 := zAf k2 Y
    conv => lhs; rw [<- t1, <- t2]
    simp only [zAw]
   ·rw [zAR, zAc, lP, zBD (by omega)]; rfl
   ·exact z2.length_eq.symm
  ·have t1 := zAf k X
   have t2 := zAf k2 Y
   have : (X.take k ++ (z.toList ++ Y.drop k2)).Perm (X.take k ++ ((X.drop k ++ Y.take k2) ++ Y.drop k2)) := List.Perm.append_left _ (List.Perm.append_right _ z2)
   refine this.trans (List.Perm.of_eq ?_)
   conv => rhs; rw [<- t1, <- t2]
   simp only [zAw]
  ·have in1 : ∀ x ∈ X.take k, ∀ y ∈ Y, r x <= r y := fun x hx y hy => zAX (lo x hx) (y0le y hy)
   have inX : ∀ x ∈ X.take k, ∀ y ∈ X.drop k, r x <= r y := by
    have := sX
    rw [<- zAf k X] at this
    exact (zAz.mp this).2.2
   have inY : ∀ x ∈ Y.take k2, ∀ y ∈ Y.drop k2, r x <= r y := by
    have := sY
    rw [<- zAf k2 Y] at this
    exact (zAz.mp this).2.2
   refine zAz.mpr ⟨sX.sublist (List.take_sublist _ _), zAz.mpr ⟨z1, sY.sublist (List.drop_sublist _ _), fun x hx y hy => ?_⟩, fun x hx y hy => ?_⟩
   ·rcases zAW.mp (z2.mem_iff.mp hx) with q | q
    ·exact zAX (lel x (zA7 q)) (up2 y hy)
    ·exact inY x q y hy
   ·rcases zAW.mp hy with q | q
    ·rcases zAW.mp (z2.mem_iff.mp q) with q | q
     ·exact inX x hx y q
     ·exact in1 x hx y (zA3 q)
    ·exact in1 x hx y (zA7 q)
 have sx' : ((arrOf st).extract (sa + k) (sa + na)).toList.Pairwise fun x y => r x <= r y := by rw [ex]; exact sX.sublist (List.drop_sublist _ _)
 have sy' : ((arrOf st).extract (sa + na) (sa + na + k2)).toList.Pairwise fun x y => r x <= r y := by rw [ey]; exact sY.sublist (List.take_sublist _ _)
 have mx' : ∀ x ∈ ((arrOf st).extract (sa + k) (sa + na)).toList, Mem x := by rw [ex]; exact fun x hx => mX x (zA7 hx)
 have my' : ∀ x ∈ ((arrOf st).extract (sa + na) (sa + na + k2)).toList, Mem x := by rw [ey]; exact fun x hx => mY x (zA3 hx)
 have zx : ((arrOf st).extract (sa + k) (sa + na)).size = na - k := by rw [<- zAT, ex, zAo, lX]
 have zy : ((arrOf st).extract (sa + na) (sa + na + k2)).size = k2 := by rw [<- zAT, ey, zAc, lY]; exact zBD hk2
 have px : 0 < ((arrOf st).extract (sa + k) (sa + na)).size := by rw [zx]; omega
 have py : 0 < ((arrOf st).extract (sa + na) (sa + na + k2)).size := by rw [zy]; omega
 have hl : ∀ x, (X.drop k)[na - k - 1]? = some x -> x = xl := fun x hx => by
  rw [zBa, show k + (na - k - 1) = na - 1 by omega, hxl] at hx
  cases hx
  rfl
 have hf0 : ∀ y, (Y.take k2)[0]? = some y -> y = y0 := fun y hy => by
  rw [zBt, if_pos (by omega), hy0] at hy
  cases hy
  rfl
 refine az (fun c3 => ?_) fun c3 => ?_
 ·refine wpS_bind (xO C k1 mx' my' sx' sy' px py ?_ ?_ fun z st2 hz L => fin z st2 (by rw [ex, ey] at hz; exact hz) L)
  ·intro x hx y hy
   rw [ey] at hy
   rw [ex, zx] at hx
   rw [hl x (by rw [<- Nat.add_zero (na - k - 1), <- zBa, hx]; rfl)]
   exact lo2 y hy
  ·intro y hy x hx
   rw [ex] at hx
   rw [<- zAC, ey] at hy
   rw [hf0 y hy]
   exact up x hx
 ·refine wpS_bind (xN C k1 mx' my' sx' sy' px py ?_ ?_ fun z st2 hz L => fin z st2 (by rw [ex, ey] at hz; exact hz) L)
  ·intro x hx y hy
   rw [ey] at hy
   rw [<- zAC, ex, zx] at hx
   rw [hl x hx]
   exact lo2 y hy
  ·intro y hy x hx
   rw [ex] at hx
   rw [ey] at hy
   rw [hf0 y (by
    have : ((Y.take k2).take 1)[0]? = some y := by rw [hy]; rfl
    rw [zBt, if_pos (by decide)] at this
    exact this)]
   exact up x hx
end
end TS
namespace TS
open PySem PyProof.Rows
section
variable {r : Keyed -> Nat}
theorem di {xs ys : Array Keyed} {i j : Nat} (h : xs[i]? = ys[j]?) : rk r xs i = rk r ys j := by unfold rk; rw [h]
theorem j7 {xs : Array Keyed} {i j : Nat} (hj : j <= xs.size) (k : Nat) : rk r (mirror xs i j ((j - i) / 2)) k = if i <= k /\ k < j then rk r xs (i + j - 1 - k) else rk r xs k := by
 have e := getElem?_mirror_all (i := i) hj k
 by_cases h1 : i <= k /\ k < j
 ·rw [if_pos h1] at e ⊢; exact di e
 ·rw [if_neg h1] at e ⊢; exact di e
theorem dO {xs : Array Keyed} {i j : Nat} (hj : j <= xs.size) (heq : ∀ k, i <= k -> k < j -> rk r xs k = rk r xs (j - 1)) (k : Nat) : rk r (mirror xs i j ((j - i) / 2)) k = rk r xs k := by
 rw [j7 hj]
 split
 ·rw [heq _ (by omega) (by omega), heq k (by omega) (by omega)]
 ·rfl
theorem oE {xs : Array Keyed} {src d : Nat} (hs : src < xs.size) (hd : d <= src) (k : Nat) : rk r (bubble xs src d) k = if k = src - d then rk r xs src else if src - d < k /\ k <= src then rk r xs (k - 1) else rk r xs k := by
 have e := getElem?_bubble hs d hd k
 by_cases h1 : k = src - d
 ·rw [if_pos h1] at e ⊢; exact di e
 ·rw [if_neg h1] at e ⊢
  by_cases h2 : src - d < k /\ k <= src
  ·rw [if_pos h2] at e ⊢; exact di e
  ·rw [if_neg h2] at e ⊢; exact di e
def Dn (r : Keyed -> Nat) (xs : Array Keyed) (lo hi : Nat) : Prop := ∀ i j, lo <= i -> i <= j -> j < hi -> rk r xs j <= rk r xs i
end
structure Nr (lo : Nat) (st st' : SortSt) : Prop where
 k : kindOf st' = kindOf st
 f : failedOf st' = failedOf st
 p : pendingOf st' = pendingOf st
 a : (arrOf st').Perm (arrOf st)
 fr : ∀ i, i < lo -> (arrOf st')[i]? = (arrOf st)[i]?
theorem Nr.refl (lo : Nat) (st : SortSt) : Nr lo st st := ⟨rfl, rfl, rfl, Array.Perm.refl _, fun _ _ => rfl⟩
theorem Nr.size {lo : Nat} {st st' : SortSt} (h : Nr lo st st') : (arrOf st').size = (arrOf st).size := h.a.size_eq
theorem Nr.trans {lo : Nat} {st st' st2 : SortSt} (h : Nr lo st st') (g : Nr lo st' st2) : Nr lo st st2 := ⟨g.k.trans h.k, g.f.trans h.f, g.p.trans h.p, g.a.trans h.a, fun i hi => (g.fr i hi).trans (h.fr i hi)⟩
theorem Nr.mir {lo i j : Nat} {st st' : SortSt} (h : Nr lo st st') (hi : lo <= i) (hj : j <= (arrOf st).size) : Nr lo st (setArr st' (mirror (arrOf st') i j ((j - i) / 2))) := ⟨h.k, h.f, h.p, (mirror_perm _ _ _ _).trans h.a, fun k hk => by
 show (mirror (arrOf st') i j ((j - i) / 2))[k]? = _
 rw [getElem?_mirror_all (by rw [h.size]; exact hj), if_neg (by omega)]
 exact h.fr k hk⟩
section
variable {M : Model} {A : Around} {E : Value -> Shared -> Prop} {s : Shared} {r : Keyed -> Nat} {Mem : Keyed -> Prop} {k0 : SortKind}
theorem fY {st : SortSt} {i j : Nat} {Q : Option Bool -> SortSt -> Prop} (C : Cmp M A E s r Mem k0) (hk : kindOf st = k0) (hm : ∀ x ∈ (arrOf st).toList, Mem x) (hi : i < (arrOf st).size) (hj : j < (arrOf st).size) (h : Q (some (decide (rk r (arrOf st) i < rk r (arrOf st) j))) st) : wpS M A E s (ltAt' i j) Q st := by
 have gi : (arrOf st)[i]? = some (arrOf st)[i] := getElem?_pos _ i hi
 have gj : (arrOf st)[j]? = some (arrOf st)[j] := getElem?_pos _ j hj
 refine wpS_ltAt C hk gi gj (hm _ (by simp)) (hm _ (by simp)) ?_
 unfold rk at h
 rw [gi, gj] at h
 exact h
theorem Nr.mem {lo : Nat} {st st' : SortSt} (h : Nr lo st st') (hm : ∀ x ∈ (arrOf st).toList, Mem x) : ∀ x ∈ (arrOf st').toList, Mem x := fun x hx => hm x ((zBM.mp h.a).mem_iff.mp hx)
theorem vy {st : SortSt} {lo nrem : Nat} {Q : Option Nat -> SortSt -> Prop} (C : Cmp M A E s r Mem k0) (hk : kindOf st = k0) (hm : ∀ x ∈ (arrOf st).toList, Mem x) (hs : lo + nrem = (arrOf st).size) (h1 : 1 <= nrem)
  (h : ∀ m st', 1 <= m -> m <= nrem -> Nr lo st st' -> Seg r (arrOf st') lo (lo + m) -> Q (some m) st') : wpS M A E s (countRun' lo nrem) Q st := by
 refine wpS_bind (wpS_mono (wpS_forRange (a := 1) (b := nrem) (I := fun x z st' => st' = st /\ z = (none, x) /\ 1 <= x /\ Seg r (arrOf st) lo (lo + x)) (Q := fun z st' => st' = st /\ ∃ n, z = (none, n) /\ 1 <= n /\ n <= nrem /\ Seg r (arrOf st) lo (lo + n) /\ (n = nrem ∨ rk r (arrOf st) (lo + n) < rk r (arrOf st) (lo + n - 1))) ?_ ?_ ⟨rfl, rfl, zAE _, fun i j a b c => by rw [show i = j by omega]; exact zAE _⟩) ?_)
 ·rintro x z st' hx1 hx ⟨rfl, rfl, _, sg⟩
  refine wpS_bind (fY C hk hm (by show lo + x < _; omega) (by show lo + x - 1 < _; omega) ?_)
  refine az (fun c => wpS_pure ⟨rfl, x, rfl, hx1, by omega, sg, .inr (of_decide_eq_true c)⟩) fun c => wpS_pure ⟨rfl, rfl, by omega, fun i j a b d => ?_⟩
  have c' : ¬ rk r (arrOf st') (lo + x) < rk r (arrOf st') (lo + x - 1) := fun e => c (decide_eq_true e)
  by_cases e : j = lo + x
  ·subst e
   by_cases e2 : i = lo + x
   ·subst e2; exact zAE _
   ·exact zAX (sg i (lo + x - 1) a (by omega) (by omega)) (zBU.mp c')
  ·exact sg i j a b (by omega)
 ·rintro z st' ⟨rfl, rfl, hx, sg⟩
  exact ⟨rfl, _, rfl, hx, by omega, sg, .inl (by omega)⟩
 ·rintro z st' ⟨rfl, n, rfl, n1, n2, sg, last⟩
  refine az (fun _ => wpS_pure (h n st' n1 n2 (Nr.refl _ _) sg)) fun c => ?_
  have c' : n ≠ nrem := fun e => c (beq_iff_eq.mpr e)
  have last : rk r (arrOf st') (lo + n) < rk r (arrOf st') (lo + n - 1) := last.resolve_left c'
  refine az (fun n3 => wpS_bind (fY C hk hm (by omega) (by show lo + n - 1 < _; omega) (az (fun _ => wpS_pure (h n st' n1 n2 (Nr.refl _ _) sg)) fun rose => ?_))) fun n3 => ?_
  case' refine_1 =>
   have rose' : ¬ rk r (arrOf st') lo < rk r (arrOf st') (lo + n - 1) := fun e => rose (decide_eq_true e)
   have eqs : ∀ k, lo <= k -> k < lo + n -> rk r (arrOf st') k = rk r (arrOf st') (lo + n - 1) := fun k a b => by
    have := sg lo k (zAE _) a b
    have := sg k (lo + n - 1) a (by omega) (by omega)
    omega
   have rkm := dO (r := r) (xs := arrOf st') (i := lo) (j := lo + n) (by omega) eqs
   refine wpS_bind (wpS_modify ?_)
   have N : Nr lo st' (setArr st' (mirror (arrOf st') lo (lo + n) ((lo + n - lo) / 2))) := (Nr.refl lo st').mir (zAE _) (by omega)
   have dn : Dn r (arrOf (setArr st' (mirror (arrOf st') lo (lo + n) ((lo + n - lo) / 2)))) lo (lo + (n + 1)) := fun i j a b c => by
    show rk r (mirror (arrOf st') lo (lo + n) ((lo + n - lo) / 2)) j <= rk r (mirror (arrOf st') lo (lo + n) ((lo + n - lo) / 2)) i
    rw [rkm, rkm]
    by_cases ej : j = lo + n
    ·by_cases ei : i = lo + n
     ·rw [ei, ej]; exact zAE _
     ·rw [eqs i a (by omega), ej]; omega
    ·rw [eqs i a (by omega), eqs j (by omega) (by omega)]; exact zAE _
  case' refine_2 =>
   have N := Nr.refl lo st'
   have en : n = 1 := by omega
   have dn : Dn r (arrOf st') lo (lo + (n + 1)) := fun i j a b c => by
    subst en
    by_cases ej : j = lo + 1
    ·by_cases ei : i = lo + 1
     ·rw [ei, ej]; exact zAE _
     ·rw [show i = lo by omega, ej]
      rw [Nat.add_sub_cancel] at last
      omega
    ·rw [show i = j by omega]; exact zAE _
  all_goals
   refine wpS_bind (wpS_lift (wpAny_rule ⟨rfl, ?_⟩))
   refine wpS_bind (wpS_mono (wpS_forRange (a := n + 1) (b := nrem) (I := fun x z st2 => Nr lo st' st2 /\ ∃ q, z = (none, x, q) /\ n + 1 <= x /\ q + 1 <= x /\ Dn r (arrOf st2) lo (lo + x) /\ ∀ i, lo + x - (q + 1) <= i -> i < lo + x -> rk r (arrOf st2) i = rk r (arrOf st2) (lo + x - 1)) (Q := fun z st2 => Nr lo st' st2 /\ ∃ x q, z = (none, x, q) /\ n + 1 <= x /\ x <= nrem /\ q + 1 <= x /\ Dn r (arrOf st2) lo (lo + x) /\ ∀ i, lo + x - (q + 1) <= i -> i < lo + x -> rk r (arrOf st2) i = rk r (arrOf st2) (lo + x - 1)) ?_ ?_ ⟨N, 0, rfl, zAE _, by omega, dn, fun i a b => by rw [show i = lo + (n + 1) - 1 by omega]⟩) ?_)
   ·clear N dn
    rintro x z st2 hx1 hx ⟨N, q, rfl, x1, q1, dn, eq⟩
    have sz := N.size
    refine wpS_bind (fY C (N.k.trans hk) (N.mem hm) (by show lo + x < _; omega) (by show lo + x - 1 < _; omega) ?_)
    refine az (fun c => ?_) fun c => ?_
    ·have c' := of_decide_eq_true c
     have ext : ∀ xs : Array Keyed, (∀ k, rk r xs k = rk r (arrOf st2) k) -> Dn r xs lo (lo + (x + 1)) := fun xs e i j a b d => by
      rw [e, e]
      by_cases ej : j = lo + x
      ·by_cases ei : i = lo + x
       ·rw [ei, ej]; exact zAE _
       ·have c2 : rk r (arrOf st2) (lo + x) < rk r (arrOf st2) (lo + x - 1) := c'
        rw [ej]
        exact zAX (zBT c2) (dn i (lo + x - 1) a (by omega) (by omega))
      ·exact dn i j a b (by omega)
     refine az (fun _ => wpS_bind (wpS_modify (wpS_pure ⟨N.mir (by show lo <= lo + x - (q + 1); omega) (by show lo + x <= _; omega), 0, rfl, by omega, by omega, ext _ (dO (by show lo + x <= (arrOf st2).size; omega) eq), fun i a b => ?_⟩))) fun _ => wpS_pure ⟨N, 0, rfl, by omega, by omega, ext _ fun _ => rfl, fun i a b => ?_⟩
     ·rw [show i = lo + (x + 1) - 1 by omega]
     ·rw [show i = lo + (x + 1) - 1 by omega]
    ·have c' : ¬ rk r (arrOf st2) (lo + x) < rk r (arrOf st2) (lo + x - 1) := fun e => c (decide_eq_true e)
     refine wpS_bind (fY C (N.k.trans hk) (N.mem hm) (by show lo + x - 1 < _; omega) (by show lo + x < _; omega) ?_)
     refine az (fun d => wpS_pure ⟨N, x, q, rfl, x1, by omega, q1, dn, eq⟩) fun d => ?_
     have d' : ¬ rk r (arrOf st2) (lo + x - 1) < rk r (arrOf st2) (lo + x) := fun e => d (decide_eq_true e)
     have e0 : rk r (arrOf st2) (lo + x) = rk r (arrOf st2) (lo + x - 1) := by omega
     refine wpS_pure ⟨N, q + 1, rfl, by omega, by omega, fun i j a b e => ?_, fun i a b => ?_⟩
     ·by_cases ej : j = lo + x
      ·by_cases ei : i = lo + x
       ·rw [ei, ej]; exact zAE _
       ·rw [ej, e0]
        exact dn i (lo + x - 1) a (by omega) (by omega)
      ·exact dn i j a b (by omega)
     ·rw [show lo + (x + 1) - 1 = lo + x by omega, e0]
      by_cases ei : i = lo + x
      ·rw [ei, e0]
      ·exact eq i (by omega) (by omega)
   ·rintro z st2 ⟨N, q, rfl, x1, q1, dn, eq⟩
    exact ⟨N, _, q, rfl, x1, by omega, q1, dn, eq⟩
   ·clear N dn
    rintro z st2 ⟨N, x, q, rfl, x1, x2, q1, dn, eq⟩
    have sz := N.size
    have asc : ∀ st3 : SortSt, Nr lo st' st3 -> Dn r (arrOf st3) lo (lo + x) -> ∀ i j, lo <= i -> i <= j -> j < lo + x -> rk r (mirror (arrOf st3) lo (lo + x) ((lo + x - lo) / 2)) i <= rk r (mirror (arrOf st3) lo (lo + x) ((lo + x - lo) / 2)) j := fun st3 N3 dn3 i j a b c => by
     rw [j7 (by rw [N3.size]; omega), j7 (by rw [N3.size]; omega), if_pos ⟨a, by omega⟩, if_pos ⟨by omega, c⟩]
     exact dn3 _ _ (by omega) (by omega) (by omega)
    refine az (fun q3 => wpS_bind (wpS_modify ?_)) fun q3 => ?_
    case' refine_1 =>
     have N3 := N.mir (i := lo + x - (q + 1)) (j := lo + x) (by omega) (by omega)
     have dn3 : Dn r (mirror (arrOf st2) (lo + x - (q + 1)) (lo + x) ((lo + x - (lo + x - (q + 1))) / 2)) lo (lo + x) := fun i j a b c => by
      rw [dO (by omega) eq, dO (by omega) eq]
      exact dn i j a b c
    case' refine_2 =>
     have N3 := N
     have dn3 := dn
    all_goals
     refine wpS_bind (wpS_modify ?_)
     have N4 := N3.mir (i := lo) (j := lo + x) (zAE _) (by omega)
     have sg4 := asc _ N3 dn3
     refine wpS_bind (wpS_mono (wpS_forRange (a := x) (b := nrem) (I := fun y z st4 => Nr lo st' st4 /\ z = (none, y) /\ x <= y /\ Seg r (arrOf st4) lo (lo + y)) (Q := fun z st4 => Nr lo st' st4 /\ ∃ y, z = (none, y) /\ x <= y /\ y <= nrem /\ Seg r (arrOf st4) lo (lo + y)) ?_ ?_ ⟨N4, rfl, zAE _, sg4⟩) ?_)
     ·rintro y z st4 hy1 hy ⟨N5, rfl, _, sg5⟩
      have sz5 := N5.size
      refine wpS_bind (fY C (N5.k.trans hk) (N5.mem hm) (by show lo + y < _; omega) (by show lo + y - 1 < _; omega) ?_)
      refine az (fun c => wpS_pure ⟨N5, y, rfl, hy1, by omega, sg5⟩) fun c => wpS_pure ⟨N5, rfl, by omega, fun i j a b d => ?_⟩
      have c' : ¬ rk r (arrOf st4) (lo + y) < rk r (arrOf st4) (lo + y - 1) := fun e => c (decide_eq_true e)
      by_cases e : j = lo + y
      ·subst e
       by_cases e2 : i = lo + y
       ·subst e2; exact zAE _
       ·exact zAX (sg5 i (lo + y - 1) a (by omega) (by omega)) (zBU.mp c')
      ·exact sg5 i j a b (by omega)
     ·rintro z st4 ⟨N5, rfl, hy, sg5⟩
      exact ⟨N5, _, rfl, hy, by omega, sg5⟩
     ·rintro z st4 ⟨N5, y, rfl, hy, hy2, sg5⟩
      exact wpS_pure (h y st4 (by omega) hy2 N5 sg5)
theorem xa {st : SortSt} {lo n ok : Nat} {Q : Bool -> SortSt -> Prop} (C : Cmp M A E s r Mem k0) (hk : kindOf st = k0) (hm : ∀ x ∈ (arrOf st).toList, Mem x) (hn : lo + n <= (arrOf st).size) (hok : ok <= n) (h0 : Seg r (arrOf st) lo (lo + ok))
  (h : ∀ st', Nr lo st st' -> Seg r (arrOf st') lo (lo + n) -> Q true st') : wpS M A E s (binarySort' lo n ok) Q st := by
 refine wpS_bind (wpS_mono (wpS_forRange (I := fun k c st' => c = (none, ()) /\ Nr lo st st' /\ Seg r (arrOf st') lo (lo + min k n)) (Q := fun c st' => c = (none, ()) /\ Nr lo st st' /\ Seg r (arrOf st') lo (lo + n)) ?step ?fin ?init) ?post)
 case post =>
  rintro c st' ⟨rfl, N, sg⟩
  exact wpS_pure (h st' N sg)
 case init =>
  refine ⟨rfl, Nr.refl _ _, fun i j a b c => ?_⟩
  by_cases h1 : ok = 0
  ·rw [show i = j by omega]; exact zAE _
  ·exact h0 i j a b (by omega)
 case fin =>
  rintro c st' ⟨hc, N, sg⟩
  exact ⟨hc, N, by rw [show min (max (max ok 1) n) n = n by omega] at sg; exact sg⟩
 case step =>
  rintro k c st' hak hkn ⟨rfl, N, sg⟩
  have sz := N.size
  rw [show min k n = k by omega] at sg
  refine wpS_bind (wpS_mono (wpS_forRange (a := 0) (b := k) (I := fun x c st2 => st2 = st' /\ ∃ l u, c = (none, l, u) /\ l <= u /\ u <= k /\ u - l <= k - x /\ (∀ i, i < l -> rk r (arrOf st') (lo + i) <= rk r (arrOf st') (lo + k)) /\ (∀ i, u <= i -> i < k -> rk r (arrOf st') (lo + k) < rk r (arrOf st') (lo + i)))
   (Q := fun c st2 => st2 = st' /\ ∃ l u, c = (none, l, u) /\ l <= k /\ (∀ i, i < l -> rk r (arrOf st') (lo + i) <= rk r (arrOf st') (lo + k)) /\ (∀ i, l <= i -> i < k -> rk r (arrOf st') (lo + k) < rk r (arrOf st') (lo + i))) ?istep ?ifin ⟨rfl, 0, k, rfl, by omega, by omega, by omega, fun i hi => by omega, fun i h1 h2 => by omega⟩) ?ipost)
  case ifin =>
   rintro c st2 ⟨rfl, l, u, rfl, hlr, hrk, hm', hlo, hhi⟩
   have : l = u := by omega
   subst this
   exact ⟨rfl, l, l, rfl, hrk, hlo, hhi⟩
  case istep =>
   rintro x c st2 _ hxk ⟨rfl, l, u, rfl, hlr, hrk, hm', hlo, hhi⟩
   refine az (fun hge => ?_) fun hge => ?_
   ·have hge' : l ≥ u := hge
    have : l = u := by omega
    subst this
    exact wpS_pure ⟨rfl, l, l, rfl, hrk, hlo, hhi⟩
   ·have hge' : ¬ l ≥ u := hge
    refine wpS_bind (fY C (N.k.trans hk) (N.mem hm) (by omega) (by show lo + (l + u) / 2 < _; omega) ?_)
    refine az (fun hless => ?_) fun hless => ?_
    ·have hl' : rk r (arrOf st2) (lo + k) < rk r (arrOf st2) (lo + (l + u) / 2) := of_decide_eq_true hless
     refine wpS_pure ⟨rfl, l, (l + u) / 2, rfl, by omega, by omega, by omega, hlo, fun i h1 h2 => ?_⟩
     exact zAS hl' (sg _ _ (by omega) (by omega) (by omega))
    ·have hl' : ¬ rk r (arrOf st2) (lo + k) < rk r (arrOf st2) (lo + (l + u) / 2) := fun e => hless (decide_eq_true e)
     refine wpS_pure ⟨rfl, (l + u) / 2 + 1, u, rfl, by omega, by omega, by omega, fun i h1 => ?_, hhi⟩
     exact zAX (sg (lo + i) (lo + (l + u) / 2) (by omega) (by omega) (by omega)) (zBU.mp hl')
  case ipost =>
   rintro c st2 ⟨rfl, l, u, rfl, hlk, hlo, hhi⟩
   have hks : lo + k < (arrOf st2).size := by omega
   refine wpS_bind (wpS_modify (wpS_pure ⟨rfl, ⟨N.k, N.f, N.p, (bubble_perm _ _ _).trans N.a, fun i hi => ?_⟩, fun i j a b c => ?_⟩))
   ·show (bubble (arrOf st2) (lo + k) (lo + k - (lo + l)))[i]? = _
    rw [getElem?_bubble hks _ (by omega), if_neg (by omega), if_neg (by omega)]
    exact N.fr i hi
   ·show rk r (bubble (arrOf st2) (lo + k) (lo + k - (lo + l))) i <= rk r (bubble (arrOf st2) (lo + k) (lo + k - (lo + l))) j
    have hl2 : ∀ i, lo <= i -> i < lo + l -> rk r (arrOf st2) i <= rk r (arrOf st2) (lo + k) := fun i a b => by
     have := hlo (i - lo) (by omega)
     rw [show lo + (i - lo) = i by omega] at this
     exact this
    have hh2 : ∀ i, lo + l <= i -> i < lo + k -> rk r (arrOf st2) (lo + k) < rk r (arrOf st2) i := fun i a b => by
     have := hhi (i - lo) (by omega) (by omega)
     rw [show lo + (i - lo) = i by omega] at this
     exact this
    rw [oE hks (by omega), oE hks (by omega), show lo + k - (lo + k - (lo + l)) = lo + l by omega]
    repeat' split
    all_goals first
     | (exfalso; omega)
     | exact zAE _
     | exact hl2 _ (by omega) (by omega)
     | exact zBT (hh2 _ (by omega) (by omega))
     | exact sg _ _ (by omega) (by omega) (by omega)
end
end TS
namespace TS
open PySem PyProof.Rows
def Chain : List (Nat × Nat × Nat) -> Nat -> Nat -> Prop
 | [], s, e => s = e
 | q :: ps, s, e => q.1 = s /\ 0 < q.2.1 /\ Chain ps (s + q.2.1) e
theorem Chain.len : ∀ {ps : List (Nat × Nat × Nat)} {s e : Nat}, Chain ps s e -> s + ps.length <= e
 | [], s, e, h => by have h' : s = e := h; simp [h']
 | q :: ps, s, e, h => by
  obtain ⟨_, h2, h3⟩ := h
  have := Chain.len h3
  simp only [zAn]
  omega
theorem Chain.app : ∀ {ps qs : List (Nat × Nat × Nat)} {s e : Nat}, Chain (ps ++ qs) s e ↔ ∃ m, Chain ps s m /\ Chain qs m e
 | [], qs, s, e => ⟨fun h => ⟨s, rfl, h⟩, fun ⟨m, h1, h2⟩ => by have : s = m := h1; rw [this]; exact h2⟩
 | q :: ps, qs, s, e => by
  constructor
  ·rintro ⟨a, b, c⟩
   obtain ⟨m, h1, h2⟩ := Chain.app.mp c
   exact ⟨m, ⟨a, b, h1⟩, h2⟩
  ·rintro ⟨m, ⟨a, b, c⟩, h2⟩
   exact ⟨a, b, Chain.app.mpr ⟨m, c, h2⟩⟩
theorem Chain.in_ : ∀ {ps : List (Nat × Nat × Nat)} {s e : Nat}, Chain ps s e -> ∀ q ∈ ps, s <= q.1 /\ q.1 + q.2.1 <= e
 | [], _, _, _, q, h => by cases h
 | p :: ps, s, e, h, q, hq => by
  obtain ⟨a, b, c⟩ := h
  have l := Chain.len c
  rcases zAN.mp hq with z | z
  ·rw [z]; omega
  ·have := Chain.in_ c q z
   omega
theorem n5 {f : Nat × Nat × Nat -> Nat × Nat × Nat} (hf : ∀ q, (f q).1 = q.1 /\ (f q).2.1 = q.2.1) : ∀ {ps : List (Nat × Nat × Nat)} {s e : Nat} (i : Nat), Chain ps s e -> Chain (ps.modify i f) s e
 | [], s, e, i, h => by rw [List.modify_nil]; exact h
 | q :: ps, s, e, 0, ⟨a, b, c⟩ => by
  rw [List.modify_cons, if_pos rfl]
  exact ⟨(hf q).1.trans a, by rw [(hf q).2]; exact b, by rw [(hf q).2]; exact c⟩
 | q :: ps, s, e, i + 1, ⟨a, b, c⟩ => by
  rw [List.modify_succ_cons]
  exact ⟨a, b, n5 hf i c⟩
theorem tE {f : Nat × Nat × Nat -> Nat × Nat × Nat} (hf : ∀ q, (f q).1 = q.1 /\ (f q).2.1 = q.2.1) : ∀ {ps : List (Nat × Nat × Nat)} (i : Nat) {q : Nat × Nat × Nat}, q ∈ ps.modify i f -> ∃ q' ∈ ps, q.1 = q'.1 /\ q.2.1 = q'.2.1
 | [], i, q, h => by rw [List.modify_nil] at h; cases h
 | p :: ps, 0, q, h => by
  rw [List.modify_cons, if_pos rfl] at h
  rcases zAN.mp h with z | z
  ·exact ⟨p, by simp, by rw [z]; exact (hf p).1, by rw [z]; exact (hf p).2⟩
  ·exact ⟨q, by simp [z], rfl, rfl⟩
 | p :: ps, i + 1, q, h => by
  rw [List.modify_succ_cons] at h
  rcases zAN.mp h with z | z
  ·exact ⟨p, by simp, by rw [z], by rw [z]⟩
  ·obtain ⟨q', m, e⟩ := tE hf i z
   exact ⟨q', zAI _ m, e⟩
theorem xK {f : Nat × Nat × Nat -> Nat × Nat × Nat} {ps : List (Nat × Nat × Nat)} {i : Nat} {q : Nat × Nat × Nat} (h : q ∈ ps.modify i f) (hf : ∀ q, (f q).1 = q.1 /\ (f q).2.1 = q.2.1) : ∃ q' ∈ ps, q.1 = q'.1 /\ q.2.1 = q'.2.1 := tE hf i h
section
variable {M : Model} {A : Around} {E : Value -> Shared -> Prop} {s : Shared} {r : Keyed -> Nat} {Mem : Keyed -> Prop} {k0 : SortKind}
structure PI (r : Keyed -> Nat) (st st' : SortSt) (lo : Nat) : Prop where
 k : kindOf st' = kindOf st
 f : failedOf st' = failedOf st
 a : (arrOf st').Perm (arrOf st)
 ch : Chain (pendingOf st').toList 0 lo
 sg : ∀ q ∈ (pendingOf st').toList, Seg r (arrOf st') q.1 (q.1 + q.2.1)
theorem PI.size {st st' : SortSt} {lo : Nat} (h : PI r st st' lo) : (arrOf st').size = (arrOf st).size := h.a.size_eq
theorem PI.mem {st st' : SortSt} {lo : Nat} (h : PI r st st' lo) (hm : ∀ x ∈ (arrOf st).toList, Mem x) : ∀ x ∈ (arrOf st').toList, Mem x := fun x hx => hm x ((zBM.mp h.a).mem_iff.mp hx)
theorem jw {xs ys : Array Keyed} {lo hi : Nat} (h : Seg r xs lo hi) (e : ∀ i, lo <= i -> i < hi -> ys[i]? = xs[i]?) : Seg r ys lo hi := fun i j a b c => by
 rw [di (e i a (by omega)), di (e j (by omega) c)]
 exact h i j a b c
theorem A3 {α : Type} {l : List α} {i : Nat} (h : i + 1 < l.length) : ∃ as x y bs, l = as ++ (x :: y :: bs) /\ as.length = i /\ l[i]? = some x /\ l[i + 1]? = some y := by
 refine ⟨l.take i, l[i], l[i + 1], l.drop (i + 2), ?_, by rw [zAc]; omega, zAH (by omega), zAH h⟩
 have e1 : l.drop i = l[i] :: l.drop (i + 1) := zBi (by omega)
 have e2 : l.drop (i + 1) = l[i + 1] :: l.drop (i + 2) := zBi h
 rw [<- e2, <- e1, zAf]
theorem tT {st st' : SortSt} {lo i : Nat} {Q : Bool -> SortSt -> Prop} (C : Cmp M A E s r Mem k0) (hk : kindOf st = k0) (hf : failedOf st = none) (hm : ∀ x ∈ (arrOf st).toList, Mem x) (hlo : lo <= (arrOf st).size) (I : PI r st st' lo) (hi : i + 1 < (pendingOf st').size)
  (h : ∀ st2, PI r st st2 lo -> (pendingOf st2).size + 1 = (pendingOf st').size -> (∀ i, lo <= i -> (arrOf st2)[i]? = (arrOf st')[i]?) -> Q true st2) : wpS M A E s (mergeAt' i) Q st' := by
 obtain ⟨as, x, y, bs, el, la, gx, gy⟩ := A3 (l := (pendingOf st').toList) hi
 have ch := I.ch
 rw [el] at ch
 obtain ⟨m, c1, ⟨x1, x2, ⟨y1, y2, c2⟩⟩⟩ := Chain.app.mp ch
 have l2 := c2.len
 have sz := I.size
 obtain ⟨P, XY, S, e, lP, lXY⟩ := Af (arrOf st') (lo := m) (n := x.2.1 + y.2.1) (by omega)
 obtain ⟨X, Y, exy, lX, lY⟩ : ∃ X Y, XY = X ++ Y /\ X.length = x.2.1 /\ Y.length = y.2.1 := ⟨XY.take x.2.1, XY.drop x.2.1, (zAf _ _).symm, by rw [zAc]; omega, by rw [zAo]; omega⟩
 subst exy
 have sx := I.sg x (by rw [el]; simp)
 have sy := I.sg y (by rw [el]; simp)
 have e1 : (arrOf st').toList = P ++ (X ++ (Y ++ S)) := by rw [e, zAw]
 have e2 : (arrOf st').toList = (P ++ X) ++ (Y ++ S) := by rw [e1, zAw]
 have sX : X.Pairwise fun x y => r x <= r y := hW e1 (by rw [lP, lX, <- x1]; exact sx)
 have sY : Y.Pairwise fun x y => r x <= r y := hW e2 (by rw [zAR, lP, lX, lY, <- y1]; exact sy)
 refine xM C (I.k.trans hk) (I.f.trans hf) (I.mem hm) (sa := x.1) (na := x.2.1) (p := x.2.2) (sb := y.1) (nb := y.2.1) (p2 := y.2.2) (by rw [<- zAC]; exact gx) (by rw [<- zAC]; exact gy) e1 (by omega) lX lY (by omega) x2 y2 sX sY fun st2 Z a1 a2 a3 a4 a5 a6 => ?_
 have pe : (pendingOf st2).toList = as ++ ((x.1, x.2.1 + y.2.1, x.2.2) :: bs) := by
  rw [a3, Array.toList_eraseIdxIfInBounds, zB5, el, <- la, List.set_append_right _ _ (zAE _), zCF, zCD, List.eraseIdx_append_of_length_le (by omega), zBq]
  rfl
 have lZ : Z.length = x.2.1 + y.2.1 := by rw [a5.length_eq, zAR, lX, lY]
 have outL : ∀ i, i < m -> (arrOf st2)[i]? = (arrOf st')[i]? := fun i hi => by
  rw [<- zAC, <- zAC, a4, e, zAa (by omega), zAa (by omega)]
 have outR : ∀ i, m + (x.2.1 + y.2.1) <= i -> (arrOf st2)[i]? = (arrOf st')[i]? := fun i hi => by
  rw [<- zAC, <- zAC, a4, e, zAM (by omega), zAM (by omega), zAM (by omega), zAM (by omega), lZ, lXY]
 refine h st2 ⟨a1.trans hk.symm, a2.trans hf.symm, ?_, ?_, fun q hq => ?_⟩ ?_ fun i hi => outR i (by omega)
 ·refine Array.Perm.trans (zBM.mpr ?_) I.a
  rw [a4, e]
  exact List.Perm.append_left _ (List.Perm.append_right _ a5)
 ·rw [pe]
  exact Chain.app.mpr ⟨m, c1, x1, by show 0 < x.2.1 + y.2.1; omega, by show Chain bs (m + (x.2.1 + y.2.1)) lo; rw [<- Nat.add_assoc]; exact c2⟩
 ·rw [pe] at hq
  rcases zAW.mp hq with z | z
  ·have := c1.in_ q z
   exact jw (I.sg q (by rw [el]; exact zBj _ z)) fun i a b => outL i (by omega)
  ·rcases zAN.mp z with z | z
   ·rw [z]
    show Seg r (arrOf st2) x.1 (x.1 + (x.2.1 + y.2.1))
    have := sA (r := r) a4 a6
    rw [lP, lZ] at this
    rw [x1]
    exact this
   ·have := c2.in_ q z
    exact jw (I.sg q (by rw [el]; exact zAm _ (zAI _ (zAI _ z)))) fun i a b => outR i (by omega)
 ·have z1 : (pendingOf st2).toList.length = (pendingOf st2).size := rfl
  have z2 : (pendingOf st').toList.length = (pendingOf st').size := rfl
  rw [<- z1, <- z2, pe, el]
  simp only [zAR, zAn]
  omega
theorem wW {st : SortSt} {Q : Unit -> SortSt -> Prop} (C : Cmp M A E s r Mem k0) (hk : kindOf st = k0) (hf : failedOf st = none) (hp : pendingOf st = #[]) (hm : ∀ x ∈ (arrOf st).toList, Mem x) (n1 : 1 <= (arrOf st).size)
  (h : ∀ st', (arrOf st').Perm (arrOf st) -> failedOf st' = none -> Seg r (arrOf st') 0 (arrOf st).size -> Q () st') : wpS M A E s sortRuns' Q st := by
 have I0 : PI r st st 0 := ⟨rfl, rfl, Array.Perm.refl _, by rw [hp]; exact rfl, fun q hq => by rw [hp] at hq; cases hq⟩
 refine wpS_bind (wpS_get ?_)
 refine wpS_bind (wpS_mono (wpS_forRange (a := 0) (b := (arrOf st).size) (I := fun x z st' => ∃ lo, z = (none, lo) /\ lo <= (arrOf st).size /\ (x <= lo ∨ (arrOf st).size <= lo) /\ PI r st st' lo) (Q := fun z st' => z = (none, (arrOf st).size) /\ PI r st st' (arrOf st).size) ?_ ?_ ⟨0, rfl, zAi _, .inl (zAE _), I0⟩) ?_)
 ·rintro x z st1 _ hx ⟨lo, rfl, hlo, hx2, I⟩
  have sz := I.size
  refine az (fun c => ?_) fun c => ?_
  ·have c' : lo ≥ (arrOf st).size := c
   have e : lo = (arrOf st).size := by omega
   subst e
   exact wpS_pure ⟨rfl, I⟩
  have c' : ¬ lo ≥ (arrOf st).size := c
  refine wpS_bind (vy C (I.k.trans hk) (I.mem hm) (show lo + ((arrOf st).size - lo) = (arrOf st1).size by omega) (show 1 <= (arrOf st).size - lo by omega) fun m st2 m1 m2 N sg => ?_)
  have m2' : m <= (arrOf st).size - lo := m2
  have sz2 := N.size
  have keep : ∀ {st3 : SortSt}, Nr lo st1 st3 -> PI r st st3 lo := fun {st3} N3 => ⟨N3.k.trans I.k, N3.f.trans I.f, N3.a.trans I.a, by rw [N3.p]; exact I.ch, fun q hq => by
   rw [N3.p] at hq
   have := I.ch.in_ q hq
   exact jw (I.sg q hq) fun i a b => N3.fr i (by omega)⟩
  refine az (fun cm => ?_) fun cm => ?_
  case' refine_1 =>
   refine wpS_bind (wpS_lift (wpAny_rule ⟨rfl, ?_⟩))
   refine wpS_bind (xa C ((N.k.trans I.k).trans hk) (fun x hx => I.mem hm x ((zBM.mp N.a).mem_iff.mp hx)) (lo := lo) (n := min ((arrOf st).size - lo) (minRun' (arrOf st).size (arrOf st).size 0)) (ok := m) (by omega) ?_ sg fun st3 N3 sg3 => ?_)
   case' refine_1.refine_1 =>
    have cm' : m < minRun' (arrOf st).size (arrOf st).size 0 := cm
    omega
   refine az (fun z => absurd z (by decide)) fun _ => ?_
   have NN := N.trans N3
   obtain ⟨n, hn⟩ : ∃ n, n = min ((arrOf st).size - lo) (minRun' (arrOf st).size (arrOf st).size 0) := ⟨_, rfl⟩
   rw [<- hn] at sg3
   have n0 : 0 < n := by
    have cm' : m < minRun' (arrOf st).size (arrOf st).size 0 := cm
    omega
   have nn : lo + n <= (arrOf st).size := by omega
  case' refine_2 =>
   have NN := N
   obtain ⟨n, hn⟩ : ∃ n, n = m := ⟨_, rfl⟩
   have sg3 := sg
   rw [<- hn] at sg3
   have n0 : 0 < n := by omega
   have nn : lo + n <= (arrOf st).size := by omega
  all_goals
   have I3 := keep NN
   have psh : ∀ st4 : SortSt, PI r st st4 lo -> Seg r (arrOf st4) lo (lo + n) -> PI r st (setPending st4 ((pendingOf st4).push (lo, n, 0))) (lo + n) := fun st4 I4 sg4 => ⟨I4.k, I4.f, I4.a, by
    show Chain ((pendingOf st4).push (lo, n, 0)).toList 0 (lo + n)
    rw [zBV]
    exact Chain.app.mpr ⟨lo, I4.ch, rfl, n0, rfl⟩, fun q hq => by
    have hq' : q ∈ ((pendingOf st4).push (lo, n, 0)).toList := hq
    rw [zBV] at hq'
    rcases zAW.mp hq' with z | z
    ·exact I4.sg q z
    ·rw [zA0.mp z]
     exact sg4⟩
   have done_ : ∀ e, n = e -> ∀ st4 : SortSt, PI r st st4 lo -> Seg r (arrOf st4) lo (lo + n) -> ∃ lo', ((none, lo + e) : Option Unit × Nat) = (none, lo') /\ lo' <= (arrOf st).size /\ (x + 1 <= lo' ∨ (arrOf st).size <= lo') /\ PI r st (setPending st4 ((pendingOf st4).push (lo, e, 0))) lo' := fun e he st4 I4 sg4 => by
    subst he
    exact ⟨lo + n, rfl, nn, by omega, psh st4 I4 sg4⟩
   refine wpS_bind (wpS_get ?_)
   dsimp only
   split
   ·refine wpS_bind (wpS_mono (wpS_forRange (a := 0) (b := (arrOf st).size) (I := fun x z st4 => z = (none, ()) /\ PI r st st4 lo /\ Seg r (arrOf st4) lo (lo + n)) (Q := fun z st4 => z = (none, ()) /\ PI r st st4 lo /\ Seg r (arrOf st4) lo (lo + n)) ?_ (fun _ _ z => z) ⟨rfl, I3, sg3⟩) ?_)
    ·rintro x z st4 _ hx ⟨rfl, I4, sg4⟩
     refine wpS_bind (wpS_get ?_)
     split
     ·rename_i heq
      have hp : (pendingOf st4).size > 1 := by
       by_cases c : (pendingOf st4).size > 1
       ·exact c
       ·rw [if_neg c] at heq; cases heq
      refine az (fun _ => wpS_pure ⟨rfl, I4, sg4⟩) fun _ => wpS_bind (tT C hk hf hm (by omega) I4 (show (pendingOf st4).size - 2 + 1 < (pendingOf st4).size by omega) fun st5 I5 _ fr => ?_)
      exact az (fun z => absurd z (by decide)) fun _ => wpS_pure ⟨rfl, I5, jw sg4 fun i a b => fr i a⟩
     ·exact wpS_pure ⟨rfl, I4, sg4⟩
    ·rintro z st4 ⟨rfl, I4, sg4⟩
     refine wpS_bind (wpS_modify ?_)
     refine wpS_bind (wpS_modify (wpS_pure (done_ _ hn _ ?_ ?_)))
     ·exact ⟨I4.k, I4.f, I4.a, by
       show Chain ((pendingOf st4).modify _ _).toList 0 lo
       rw [Array.toList_modify]
       refine n5 ?_ _ I4.ch
       exact fun _ => ⟨rfl, rfl⟩, fun q hq => by
       have hq' : q ∈ ((pendingOf st4).modify _ _).toList := hq
       rw [Array.toList_modify] at hq'
       obtain ⟨q', m', e1, e2⟩ := xK hq' fun _ => ⟨rfl, rfl⟩
       rw [e1, e2]
       exact I4.sg q' m'⟩
     ·exact sg4
   ·exact wpS_bind (wpS_modify (wpS_pure (done_ _ hn _ I3 sg3)))
 ·rintro z st' ⟨lo, rfl, h1, h2, I⟩
  have e : lo = (arrOf st).size := by omega
  rw [e] at I
  exact ⟨by rw [e], I⟩
 ·rintro z st' ⟨rfl, I⟩
  have sz := I.size
  have pl := I.ch.len
  have pl' : (pendingOf st').size <= (arrOf st).size := by rw [zBz] at pl; exact pl
  refine wpS_bind (wpS_mono (wpS_forRange (a := 0) (b := (arrOf st).size) (I := fun x z st2 => z = (none, ()) /\ PI r st st2 (arrOf st).size /\ ((pendingOf st2).size <= 1 ∨ (pendingOf st2).size + x <= (arrOf st).size)) (Q := fun z st2 => z = (none, ()) /\ PI r st st2 (arrOf st).size /\ (pendingOf st2).size <= 1) ?_ ?_ ⟨rfl, I, .inr pl'⟩) ?_)
  ·rintro x z st2 _ hx ⟨rfl, I2, h2⟩
   refine wpS_bind (wpS_get ?_)
   refine az (fun c => wpS_pure ⟨rfl, I2, c⟩) fun c => ?_
   have c' : ¬ (pendingOf st2).size <= 1 := c
   have ix : ∀ (c : Prop) [Decidable c], (if c then (pendingOf st2).size - 2 - 1 else (pendingOf st2).size - 2) + 1 < (pendingOf st2).size := fun c _ => by split <;> omega
   refine wpS_bind (tT C hk hf hm (zAE _) I2 (ix _) fun st3 I3 h3 _ => ?_)
   refine az (fun z => absurd z (by decide)) fun _ => wpS_pure ⟨rfl, I3, by omega⟩
  ·rintro z st2 ⟨rfl, I2, h2⟩
   exact ⟨rfl, I2, by omega⟩
  ·rintro z st2 ⟨rfl, I2, h2⟩
   refine wpS_pure (h st2 I2.a (I2.f.trans hf) ?_)
   have z1 : (pendingOf st2).toList.length = (pendingOf st2).size := rfl
   have ch := I2.ch
   have sg := I2.sg
   generalize (pendingOf st2).toList = ps at *
   rcases ps with _ | ⟨q, _ | ⟨q2, ps⟩⟩
   ·have : 0 = (arrOf st).size := ch
    omega
   ·obtain ⟨a, b, c⟩ := ch
    have c' : 0 + q.2.1 = (arrOf st).size := c
    have := sg q (by simp)
    rw [a, c'] at this
    exact this
   ·simp only [zAn] at z1
    omega
end
end TS
namespace SW
open PySem PyProof.Rows
section
variable {prog : Program} {w : World} {A : Around} {E : Value -> Shared -> Prop} {s : Shared}
theorem xF {h : Heap} {k k' : List Int} {c : Addr} (a : (TK prog w).is h k c) (b : (TK prog w).is h k' c) : k = k' := by
 obtain ⟨o, items, n, ho, hc, hd, hi⟩ := a
 obtain ⟨o', items', n', ho', hc', hd', hi'⟩ := b
 rw [ho] at ho'
 cases ho'
 rw [hd] at hd'
 cases hd'
 exact PySem.ItemsAre.inj hi hi'
theorem wy {a : Addr} {zs : List (List Int × Addr)} {n : Nat} {P : PySem.Fin -> Shared -> Prop} (ho : s.heap.get? a = some (seqObj "list" ((zs.map (·.2)).map Value.ref).toArray n)) (hz : zs.length <= sizeLine)
  (h : ∀ z ∈ zs, (TK prog w).is s.heap z.1 z.2 /\ z.1 ≠ [])
  (hP : ∀ h' (ys : List (List Int × Addr)) c2, ys.Perm zs -> ys.Pairwise (fun x y => lexLt y.1 x.1 = false) -> (∀ b o, b ≠ a -> s.heap.get? b = some o -> h'.get? b = some o) →
   h'.get? a = some (seqObj "list" ((ys.map (·.2)).map Value.ref).toArray c2) -> P (.done (.ret .none)) { s with heap := h' }) : wpAny (model prog w) A (Builtin.«list.sort» ⟨[.ref a], []⟩) P E s := by
 have ha : a < s.heap.objs.size := zAJ ho
 have lv : ((zs.map (·.2)).map Value.ref).length = zs.length := by rw [zAA, zAA]
 obtain ⟨e1, ho1⟩ : ∃ e1, (s.heap.update a (Obj.mapSeq fun _ => (#[] : Array Value))).get? a = some (seqObj "list" #[] e1) := ⟨_, get?_update_seq ho fun _ => #[]⟩
 rw [list_sort_plain]
 refine wpAny_bind (listItems_at ho rfl ?_)
 refine wpAny_bind (listUpdate_at ho rfl ?_ (by rw [zAP, lv]; exact hz) (zAi _))
 refine wpAny_bind (seqEpoch_at ho1 rfl ?_)
 refine wpAny_bind (wpAny_newTuple ?_ (by show ((zs.map (·.2)).map Value.ref).length <= _; rw [lv]; exact hz))
 refine wpAny_bind (wpAny_newList ?_ (zAi _))
 refine wpAny_holding ?_
 show wpAny (model prog w) A _ P E { s with heap := ((s.heap.update a (Obj.mapSeq fun _ => (#[] : Array Value))).push (seqObj "tuple" ((zs.map (·.2)).map Value.ref).toArray 0)).push (seqObj "list" #[] 0) }
 have ho2 : (((s.heap.update a (Obj.mapSeq fun _ => (#[] : Array Value))).push (seqObj "tuple" ((zs.map (·.2)).map Value.ref).toArray 0)).push (seqObj "list" #[] 0)).get? a = some (seqObj "list" #[] e1) := zAB _ (zAB _ ho1)
 have oth : ∀ b o, b ≠ a -> s.heap.get? b = some o -> (((s.heap.update a (Obj.mapSeq fun _ => (#[] : Array Value))).push (seqObj "tuple" ((zs.map (·.2)).map Value.ref).toArray 0)).push (seqObj "list" #[] 0)).get? b = some o := fun b o hb e =>
  zAB _ (zAB _ ((zA5 _ _ (Ne.symm hb)).trans e))
 generalize ((s.heap.update a (Obj.mapSeq fun _ => (#[] : Array Value))).push (seqObj "tuple" ((zs.map (·.2)).map Value.ref).toArray 0)).push (seqObj "list" #[] 0) = H at ho2 oth ⊢
 have fin : ∀ (ys : List (List Int × Addr)) (out : Array Value), ys.Perm zs -> ys.Pairwise (fun x y => lexLt y.1 x.1 = false) -> out = ((ys.map (·.2)).map Value.ref).toArray -> P (.done (.ret .none)) { s with heap := H.update a (Obj.mapSeq fun _ => out) } := fun ys out O S e => by
  subst e
  obtain ⟨c2, hc2⟩ : ∃ c2, (H.update a (Obj.mapSeq fun _ => ((ys.map (·.2)).map Value.ref).toArray)).get? a = some (seqObj "list" ((ys.map (·.2)).map Value.ref).toArray c2) := ⟨_, get?_update_seq ho2 fun _ => ((ys.map (·.2)).map Value.ref).toArray⟩
  exact hP _ ys c2 O S (fun b o hb e => (zA5 _ _ (Ne.symm hb)).trans (oth b o hb e)) hc2
 have pe : (((zs.map (·.2)).map Value.ref).toArray.zip ((zs.map (·.2)).map Value.ref).toArray).toList = zs.map fun z => (Value.ref z.2, Value.ref z.2) := by
  rw [Array.toList_zip]
  show ((zs.map (·.2)).map Value.ref).zip ((zs.map (·.2)).map Value.ref) = _
  clear fin oth ho2 ho1 hP h ho lv hz
  induction zs with
  | nil => rfl
  | cons z zs ih => simp only [zAG, List.zip_cons_cons]; rw [ih]
 dsimp only
 by_cases hn : ((zs.map (·.2)).map Value.ref).toArray.size < 2
 ·rw [if_pos hn, if_pos hn]
  refine wpAny_bind (wpAny_pure ?_)
  rw [StateT.run_pure]
  refine wpAny_bind (wpAny_pure ?_)
  dsimp only
  refine wpAny_bind (seqEpoch_at ho2 rfl ?_)
  have oe : (((zs.map (·.2)).map Value.ref).toArray.zip ((zs.map (·.2)).map Value.ref).toArray).map (·.2) = ((zs.map (·.2)).map Value.ref).toArray := by
   apply Array.toList_inj.mp
   rw [Array.toList_map, pe, zAg, zAg]
   rfl
  refine wpAny_bind (listUpdate_at ho2 rfl ?_ (hsz2 := by rw [oe, zAP, lv]; exact Nat.le_succ_of_le hz))
  simp only [bne_self_eq_false, zAY, if_false]
  refine wpAny_pure (fin zs _ (zBl _) ?_ oe)
  rw [zAP, lv] at hn
  match zs, hn with
  | [], _ => exact .nil
  | [_], _ => exact List.pairwise_singleton _ _
 ·rw [if_neg hn, if_neg hn]
  rw [zAP, lv] at hn
  have hH : ∀ z ∈ zs, (TK prog w).is H z.1 z.2 /\ z.1 ≠ [] := fun z hz' => by
   obtain ⟨q1, q2⟩ := h z hz'
   exact ⟨iG q1 fun o e => oth z.2 o (key_ne q1 ho rfl (by decide)) e, q2⟩
  have gj : ∀ (j : Nat) (c : Addr), (zs.map (·.2))[j]? = some c -> ∃ z ∈ zs, zs[j]? = some z /\ z.2 = c := fun j c hj => by
   rw [zAO] at hj
   cases e : zs[j]? with
   | none => rw [e] at hj; cases hj
   | some z => rw [e] at hj; cases hj; exact ⟨z, zAV e, rfl, rfl⟩
  refine wpAny_bind (rM (s := { s with heap := H }) (cs := zs.map (·.2)) (K := fun j => (zs.getD j ([], 0)).1) (by rw [zAA]; omega) (fun j c hj => by
   obtain ⟨z, hz', e, rfl⟩ := gj j c hj
   rw [zBN, e]
   exact hH z hz') ?_)
  let key : Keyed -> List Int := fun p => by
   classical
   exact if q : ∃ z ∈ zs, p.1 = Value.ref z.2 then (Classical.choose q).1 else []
  have hkey : ∀ z ∈ zs, ∀ v, key (Value.ref z.2, v) = z.1 := fun z hz' v => by
   have q : ∃ z' ∈ zs, (Value.ref z.2 : Value) = Value.ref z'.2 := ⟨z, hz', rfl⟩
   show (if q : ∃ z' ∈ zs, (Value.ref z.2 : Value) = Value.ref z'.2 then (Classical.choose q).1 else []) = z.1
   rw [dif_pos q]
   obtain ⟨m, e⟩ := Classical.choose_spec q
   have e' : z.2 = (Classical.choose q).2 := by injection e
   have k1 := (hH _ m).1
   rw [<- e'] at k1
   exact xF k1 (hH z hz').1
  have C : TS.Cmp (model prog w) A E { s with heap := H } (fun p => rank (zs.map (·.1)) (key p)) (fun p => ∃ z ∈ zs, p = (Value.ref z.2, Value.ref z.2)) (tuples' true) := ⟨fun x y st Q ⟨z, hz1, ex⟩ ⟨z', hz2, ey⟩ hk q => by
   subst ex ey
   rw [lt'_eq]
   refine wpS_bind (wpS_get ?_)
   rw [hk]
   refine wpS_bind (wpS_lift (wpAny_attempt (vq (hH z hz1).1 (hH z' hz2).1 ⟨rfl, ?_⟩)))
   refine wpS_pure ?_
   rw [hkey z hz1, hkey z' hz2, tL (zAU.mpr ⟨z, hz1, rfl⟩) (zAU.mpr ⟨z', hz2, rfl⟩)] at q
   exact q⟩
  refine wpAny_bind (wpAny_mono (TS.wW (Q := fun _ st' => ∃ ys : List (List Int × Addr), ys.Perm zs /\ ys.Pairwise (fun x y => lexLt y.1 x.1 = false) /\ failedOf st' = none /\ (arrOf st').toList = ys.map fun z => (Value.ref z.2, Value.ref z.2)) C rfl rfl rfl ?_ ?_ ?_) ?_ fun _ _ e => e)
  ·intro x hx
   have hx' : x ∈ (((zs.map (·.2)).map Value.ref).toArray.zip ((zs.map (·.2)).map Value.ref).toArray).toList := hx
   rw [pe] at hx'
   obtain ⟨z, hz', rfl⟩ := zAU.mp hx'
   exact ⟨z, hz', rfl⟩
  ·show 1 <= (((zs.map (·.2)).map Value.ref).toArray.zip ((zs.map (·.2)).map Value.ref).toArray).size
   rw [<- zAT, pe, zAA]
   omega
  ·intro st' pm hf sg
   have pl := zBM.mp pm
   have pl' : (arrOf st').toList.Perm (((zs.map (·.2)).map Value.ref).toArray.zip ((zs.map (·.2)).map Value.ref).toArray).toList := pl
   rw [pe] at pl'
   obtain ⟨ys, py, ey⟩ := qR pl' zs rfl
   refine ⟨ys, py, ?_, hf, ey⟩
   have len : (arrOf st').toList.length = ys.length := by rw [ey, zAA]
   have sg2 : ((arrOf st').toList).Pairwise fun x y => rank (zs.map (·.1)) (key x) <= rank (zs.map (·.1)) (key y) := TS.hW (xs := arrOf st') (P := []) (S := []) (by simp) (by
    have : (arrOf st').toList.length = (((zs.map (·.2)).map Value.ref).toArray.zip ((zs.map (·.2)).map Value.ref).toArray).size := pm.size_eq
    rw [this]
    show TS.Seg _ (arrOf st') 0 (0 + _)
    rw [zBz]
    exact sg)
   rw [ey, zBh] at sg2
   refine sg2.imp_of_mem fun {x y} hx hy q => ?_
   have mx := py.mem_iff.mp hx
   have my := py.mem_iff.mp hy
   rw [hkey x mx, hkey y my] at q
   rw [<- tL (zAU.mpr ⟨y, my, rfl⟩) (zAU.mpr ⟨x, mx, rfl⟩)]
   exact decide_eq_false (zBU.mpr q)
  ·rintro ⟨⟨⟩, st'⟩ s' ⟨rfl, ys, py, sy, hf, ey⟩
   dsimp only
   have hout : (arrOf st').map (·.2) = ((ys.map (·.2)).map Value.ref).toArray := by
    apply Array.toList_inj.mp
    rw [Array.toList_map, ey, zAg, zAg]
    rfl
   rw [hout]
   refine wpAny_bind (seqEpoch_at ho2 rfl ?_)
   refine wpAny_bind (listUpdate_at ho2 rfl ?_ (zAi _) (by rw [zAP, zAA, zAA, py.length_eq]; exact Nat.le_succ_of_le hz))
   have hf' : failedOf st' = none := hf
   rw [hf']
   simp only [bne_self_eq_false, zAY, if_false]
   exact wpAny_pure (fin ys _ py sy rfl)
end
end SW
namespace SW
open PySem PySem.SetTable ST PySem.W PyProof.Rows
section
variable {prog : Program} {w : World} {A : Around} {E : Value -> Shared -> Prop} {s : Shared}
def BG (prog : Program) (w : World) (A : Around) (s : Shared) (v : Value) (xs : List (List Int × Addr)) : Prop := ∀ (R : List Value -> Shared -> Prop) (E : Value -> Shared -> Prop), (∀ s1 (zs : List (List Int × Addr)), zs.Perm xs -> (∀ b o, s.heap.get? b = some o -> s1.heap.get? b = some o) -> s1.gens = s.gens -> s1.drawn = s.drawn -> s1.os = s.os -> s.heap.objs.size <= s1.heap.objs.size -> R ((zs.map (·.2)).map Value.ref) s1) -> wpAny (model prog w) A (collect v) R E s
theorem oG {v : Value} {xs : List (List Int × Addr)} {Q : Value -> Shared -> Prop} (hcol : BG prog w A.in1 s v xs) (hn : xs.length <= 900) (his : ∀ x ∈ xs, (TK prog w).is s.heap x.1 x.2 /\ x.1 ≠ [])
  (hQ : ∀ s' (D : Addr) (ys : List (List Int × Addr)) c, (∀ b o, s.heap.get? b = some o -> s'.heap.get? b = some o) -> s'.gens = s.gens -> s'.drawn = s.drawn -> s'.os = s.os -> s.heap.objs.size <= D -> ys.Perm xs -> ys.Pairwise (fun x y => lexLt y.1 x.1 = false) →
   s'.heap.get? D = some (seqObj "list" (ys.map fun y => Value.ref y.2).toArray c) -> Q (.ref D) s') : wpAny (model prog w) A (call (.builtin "sorted") [v]) Q E s := by
 refine Calls.call_function_entry kind_sorted plain_sorted entry_sorted (args_sorted1 _) ?_
 unfold Builtin.«sorted»
 refine wpAny_bind (m := checkCount "sorted" 1 1 _) (wpAny_pure ?_)
 refine wpAny_bind (hcol _ _ fun s1 zs pz kp g1 g2 g3 le => ?_)
 have lz : zs.length = xs.length := pz.length_eq
 have sl : 900 <= sizeLine := by rw [sizeLine_eq]; decide
 refine wpAny_bind (wpAny_newList ?_ (by rw [zAA, zAA]; omega))
 have hoL : (s1.heap.push (seqObj "list" ((zs.map (·.2)).map Value.ref).toArray 0)).get? s1.heap.objs.size = some (seqObj "list" ((zs.map (·.2)).map Value.ref).toArray 0) := zAL _ rfl
 have kp2 : ∀ b o, s.heap.get? b = some o -> (s1.heap.push (seqObj "list" ((zs.map (·.2)).map Value.ref).toArray 0)).get? b = some o := fun b o e => zAB _ (kp b o e)
 show wpAny _ _ _ _ _ { s1 with heap := s1.heap.push (seqObj "list" ((zs.map (·.2)).map Value.ref).toArray 0) }
 refine wpAny_bind (wpAny_holding (wpAny_call_entry slot_list_sort ⟨_, hoL, rfl⟩ entry_list_sort ?body (args_list_sort _)))
 case body =>
  refine wy (s := { s1 with heap := s1.heap.push (seqObj "list" ((zs.map (·.2)).map Value.ref).toArray 0) }) hoL (by omega) (fun z hz => ?_) fun h' ys c2 py sy oth hD => ?_
  ·have := his z (pz.mem_iff.mp hz)
   exact ⟨iG this.1 fun o e => kp2 _ o e, this.2⟩
  ·refine ⟨_, rfl, wpAny_pure ⟨_, rfl, hQ _ s1.heap.objs.size ys c2 (fun b o e => ?_) g1 g2 g3 le (py.trans pz) sy ?_⟩⟩
   ·exact oth b o (zAk (zAS (zAJ e) le)) (kp2 b o e)
   ·rw [zAg] at hD
    exact hD
theorem sC {a : Addr} {xs : List (List Int × Addr)} {Q : Value -> Shared -> Prop} (hh : A.handled = none) (X : fq prog w s.heap a xs) (hn : xs.length <= 900) (hne : ∀ x ∈ xs, x.1 ≠ [])
  (hQ : ∀ s' (D : Addr) (ys : List (List Int × Addr)) c, (∀ b o, s.heap.get? b = some o -> s'.heap.get? b = some o) -> s'.gens = s.gens -> s'.drawn = s.drawn -> s'.os = s.os -> s.heap.objs.size <= D -> ys.Perm xs -> ys.Pairwise (fun x y => lexLt x.1 y.1 = true) →
   s'.heap.get? D = some (seqObj "list" (ys.map fun y => Value.ref y.2).toArray c) -> Q (.ref D) s') : wpAny (model prog w) A (call (.builtin "sorted") [.ref a]) Q E s := by
 obtain ⟨⟨o, es, ep, t, ho, hex, hd, he, T, hpl, _, _⟩, his, nd⟩ := X
 have sz : es.size = xs.length := by rw [<- zAT, he, zAA]
 refine oG (xs := xs) (fun R E' k => ?_) hn (fun x hx => ⟨his x hx, hne x hx⟩) fun s' D ys c a1 a2 a3 a4 a5 py sy hD => hQ s' D ys c a1 a2 a3 a4 a5 py ?_ hD
 ·refine rJ (show A.in1.handled = none from hh) ho hex.1 hd T (by rw [zAA, sz]) hpl (by omega) fun s1 acc kp g1 g2 g3 le ea => ?_
  obtain ⟨zs, pz, ez⟩ := qR (lh w a es ep) xs he
  have ea' : acc = (zs.map (·.2)).map Value.ref := by rw [ea, ez, zAg, zAg]; rfl
  rw [ea']
  exact k s1 zs pz kp g1 g2 g3 le
 ·have nd2 : (ys.map (·.1)).Nodup := (py.map (·.1)).nodup_iff.mpr nd
  have nd3 : ys.Pairwise fun x y => x.1 ≠ y.1 := zBh.mp nd2
  refine (sy.and nd3).imp fun {x y} ⟨q1, q2⟩ => ?_
  rcases eQ _ _ q1 with e | e
  ·exact absurd e.symm q2
  ·exact e
theorem yp (h : Heap) (a : Addr) (f : Obj -> Obj) : (h.update a f).objs.size = h.objs.size := by unfold Heap.update; simp
theorem collect_list {R : List Value -> Shared -> Prop} {l : Addr} {o : Obj} {vs : Array Value} {n : Nat} (ho : s.heap.get? l = some o) (hc : o.cls = .type "list") (hd : o.data = .seq vs n) (hz : vs.size <= sizeLine)
  (k : ∀ h', (∀ b x, s.heap.get? b = some x -> h'.get? b = some x) -> s.heap.objs.size <= h'.objs.size -> R vs.toList { s with heap := h' }) : wpAny (model prog w) A (collect (.ref l)) R E s := by
 have e0 : (s.heap.push { cls := .type "list", data := .seq ([] : List Value).toArray }).get? s.heap.objs.size = some { cls := .type "list", data := .seq #[] 0 } := zAL _ rfl
 have e1 := zA1 (Obj.mapSeq (· ++ vs)) e0 rfl
 have fin : ∀ (E' : Value -> Shared -> Prop), wpAny (model prog w) A (load s.heap.objs.size >>= fun x => match x.data with | Data.seq xs _ => pure xs.toList | _ => unsupported "internal:collect") R E' { s with heap := (s.heap.push { cls := .type "list", data := .seq ([] : List Value).toArray }).update s.heap.objs.size (Obj.mapSeq (· ++ vs)) } := fun E' => by
  refine wpAny_bind (wpAny_load e1 (wpAny_pure ?_))
  show R ((#[] : Array Value) ++ vs).toList _
  rw [show ((#[] : Array Value) ++ vs).toList = vs.toList by simp]
  exact k _ (fun b x hb => (zA5 _ _ (Nat.ne_of_gt (zAJ hb))).trans (zAB _ hb)) (by rw [yp]; show _ <= (s.heap.objs.push _).size; rw [Array.size_push]; omega)
 unfold collect
 refine (fun q => wpAny_bind (wpAny_runValue (codeAny_builtin F.entry_proto_collect q))) ?_
 rw [Around.under_plainId F.plain_proto_collect]
 show wpAny _ A.in1 (newList [] >>= fun x => again (.builtin "list.__iadd__" ⟨[x, .ref l], []⟩)) _ _ s
 refine wpAny_bind (wpAny_newObj_type ?_)
 refine wpAny_pure ⟨plainId_quiet F.plain_list_iadd _, codeAny_builtin F.entry_list_iadd ?_⟩
 rw [Around.under_plainId F.plain_list_iadd]
 show wpAny _ A.in1 (Builtin.List.listExtendWith (.ref s.heap.objs.size) (.ref l) (.ref s.heap.objs.size)) _ _ _
 refine wpAny_mono (wpAny_extend_seq (A := A) (R := fun r s' => r = .ok (.ret (.ref s.heap.objs.size)) /\ s' = { s with heap := (s.heap.push { cls := .type "list", data := .seq ([] : List Value).toArray }).update s.heap.objs.size (Obj.mapSeq (· ++ vs)) }) (s := { s with heap := s.heap.push { cls := .type "list", data := .seq ([] : List Value).toArray } }) _ l _ 0 (.inl rfl) e0 (zAB _ ho) hc hd ⟨rfl, rfl⟩ hz) (fun f s' q => ?_) fun e s' q => absurd q.1 (by simp)
 cases f with
 | done f =>
  obtain ⟨e, rfl⟩ := q
  cases e
  exact fin _
 | again c => exact ⟨q.1, codeAny_mono q.2 fun r s2 hr => by obtain ⟨rfl, rfl⟩ := hr; exact fin _⟩
theorem rB {a : Addr} {o : Obj} {n : Nat} {xs : List (List Int × Addr)} {Q : Value -> Shared -> Prop} (ho : s.heap.get? a = some o) (hc : o.cls = .type "list") (hd : o.data = .seq (xs.map fun x => Value.ref x.2).toArray n) (hn : xs.length <= 900) (his : ∀ x ∈ xs, (TK prog w).is s.heap x.1 x.2 /\ x.1 ≠ [])
  (hQ : ∀ s' (D : Addr) (ys : List (List Int × Addr)) c, (∀ b o, s.heap.get? b = some o -> s'.heap.get? b = some o) -> s'.gens = s.gens -> s'.drawn = s.drawn -> s'.os = s.os -> s.heap.objs.size <= D -> ys.Perm xs -> ys.Pairwise (fun x y => lexLt y.1 x.1 = false) →
   s'.heap.get? D = some (seqObj "list" (ys.map fun y => Value.ref y.2).toArray c) -> Q (.ref D) s') : wpAny (model prog w) A (call (.builtin "sorted") [.ref a]) Q E s := by
 have sl : 900 <= sizeLine := by rw [sizeLine_eq]; decide
 refine oG (xs := xs) (fun R E' k => ?_) hn his hQ
 refine collect_list ho hc hd (by rw [zAP, zAA]; omega) fun h' kp le => ?_
 have := k { s with heap := h' } xs (zBl _) kp rfl rfl rfl le
 rw [zAg] at this
 exact this
end
end SW
namespace PD
open PySem PySem.Spec PyProof.Rows L2
section
variable {X : Cx} {pos : Pos}
theorem boot_sorted : bootBuiltins "sorted" = some (.builtin "sorted") := by kernel_rfl
theorem boot_set : bootBuiltins "set" = some (.type "set") := by kernel_rfl
theorem mr {prog : Program} {w : World} : ∀ {ns : List Int} {us : List Value}, Vals (ns.map V.int) us -> PySem.ItemsAre (intKind prog w) ns us
 | [], us, r => by rw [zA8] at r; cases r; exact .nil
 | n :: ns, us, r => by
  rw [zAG] at r
  cases r with
  | cons h t =>
   obtain ⟨tk, rfl⟩ := h
   exact .cons (by simp [intKind, Value.isInt]) (mr t)
theorem nG {pins : List (Addr × Obj)} {σ : St} {H : Hp} {s : Shared} {a : Addr} {k : List Int} (I : Inv X pins σ H s) (h : SqT X.K H a (k.map V.int)) : (SW.TK X.prog X.w).is s.heap k a := by
 obtain ⟨its, r, ⟨o, e, hc, n, hd⟩, _⟩ := I.tuple h
 exact ⟨o, its.toArray, n, e, hc, hd, by simpa using mr r⟩
theorem Av {A : Around} {k : Nat} (hr : bE k A) : A.in1.in1.in1.units < cLine := zCE (Nat.add_le_add_left (by decide : 3 <= 64) _) hr.units
def tupI (k : List Int) : D := .tup (k.map D.int)
theorem yP {K : PySem.W.Frag} {P : Bool -> Addr -> Prop} {H : Hp} {k : List Int} {v : V} (h : Den K P H (tupI k) v) : ∃ a, v = .ref a /\ SqT K H a (k.map V.int) := by
 obtain ⟨a, vs, e, q, hd⟩ := h.tup_
 rw [dH hd] at q
 exact ⟨a, e, q⟩
def vf (ys ks : List (List Int)) : Prop := ys.Pairwise (fun x y => SW.lexLt x y = true) /\ ∀ k, k ∈ ys ↔ k ∈ ks
def xq (te : DE) : DA := fun ρ Q => te ρ fun d => ∃ t ks, d = .lst t (ks.map tupI) /\ ks.length <= 900 /\ (∀ k ∈ ks, k ≠ []) /\ ∀ ys, vf ys ks -> Q (ys.map tupI)
theorem uA {e : Expr} {te : DE} {p p2 pos2 : Pos} (hc : X.calm = true) (hu : X.A.in1.in1.in1.units < cLine) (hg : Gl X "sorted") (hm : X.mg "sorted" = none) (hg2 : Gl X "set") (hm2 : X.mg "set" = none) (he : PED X e te)
  (hst : starEach [.Call (.Name "set" p2) [e] [] pos2] X.env = (false, eval (.Call (.Name "set" p2) [e] [] pos2) X.env) :: starEach [] X.env := by rfl) (hpl : (backTo pos (starEach [] X.env)).any (·.1) = false := by rfl)
  (hst2 : starEach [e] X.env = (false, eval e X.env) :: starEach [] X.env := by rfl) (hpl2 : (backTo pos2 (starEach [] X.env)).any (·.1) = false := by rfl) :
  PEF X (.Call (.Name "sorted" p) [.Call (.Name "set" p2) [e] [] pos2] [] pos) (xq te) := by
 intro pins s σ H W ρ Q I r h
 refine wpAny_Call_Name_kw (dJ I hg hm boot_sorted ?_ (by decide) (by decide))
 refine PyProof.Rows.callWith_builtin1 ?_ hst hpl
 rw [hst]
 show wpAny _ _ (spliced ((false, eval (.Call (.Name "set" p2) [e] [] pos2) X.env) :: backTo pos (starEach [] X.env))) _ _ s
 refine Calls.spliced_cons ?_
 refine wpAny_Call_Name_kw (dJ I hg2 hm2 boot_set ?_ (by decide) (by decide))
 refine PyProof.Rows.callWith_type1 ?_ hst2 hpl2
 rw [hst2]
 show wpAny _ _ (spliced ((false, eval e X.env) :: backTo pos2 (starEach [] X.env))) _ _ s
 refine Calls.spliced_cons (thn (he pins s σ H W ρ _ I r h) fun u s1 ⟨v, H1, d, I1, rv, e1, hd, t, ks, ed, lk, hne, q⟩ => ?_)
 subst ed
 obtain ⟨l, vs, ev, _, hq, hw⟩ := hd.lst_
 subst ev
 cases rv
 refine wpAny_pure ?_
 obtain ⟨its, rv, pl, _⟩ := I1.list hq
 have hh := I1.ok.hd hc
 have lvs : vs.length = ks.length := by rw [hw.len, zAA]
 have lit : its.length = ks.length := by rw [<- rv.length, lvs]
 have at_ : ∀ (j : Nat) (k : List Int), ks[j]? = some k -> ∃ c : Addr, its[j]? = some (Value.ref c) /\ SqT X.K H1 c (k.map V.int) := fun j k hk => by
  obtain ⟨v, ev, hv⟩ := hw.get (i := j) (d := tupI k) (by rw [zAO, hk]; rfl)
  obtain ⟨c, rfl, hc⟩ := yP hv
  obtain ⟨u, eu, ru⟩ := rv.get ev
  cases ru
  exact ⟨c, eu, hc⟩
 refine SW.call_set_list hh hu pl.isList (by rw [zAP]; omega) (fun j => ks.getD j []) (fun j v hj => ?_) fun h2 tk2 ys kp S yl yk yi => ?_
 ·have hj' : its[j]? = some v := by simpa using hj
  have lj : j < ks.length := by rw [<- lit]; exact (zAF.mp hj').1
  obtain ⟨c, ec, hcc⟩ := at_ j ks[j] (zAH lj)
  rw [hj'] at ec
  cases ec
  rw [show ks.getD j [] = ks[j] by simp [lj]]
  exact ⟨c, rfl, nG I1 hcc⟩
 ·have I2 : L2.Inv X pins σ H1 { s1 with heap := h2, toks := tk2 } := I1.kept kp
  refine wpAny_pure ?_
  rw [zAP] at yl yk yi
  have memk : ∀ k, k ∈ ys.map (·.1) ↔ k ∈ ks := fun k => by
   rw [yk k]
   constructor
   ·rintro ⟨j, lj, e⟩
    rw [lit] at lj
    rw [e, show ks.getD j [] = ks[j] by simp [lj]]
    exact zB3 lj
   ·intro hk
    obtain ⟨j, lj, e⟩ := zAr hk
    exact ⟨j, by rw [lit]; exact lj, by rw [<- e]; simp [lj]⟩
  have den : ∀ y ∈ ys, SqT X.K H1 y.2 (y.1.map V.int) := fun y hy => by
   obtain ⟨j, lj, ej⟩ := yi y hy
   have ej' : its[j]? = some (.ref y.2) := by simpa using ej
   rw [lit] at lj
   obtain ⟨c, ec, hcc⟩ := at_ j ks[j] (zAH lj)
   rw [ej'] at ec
   cases ec
   have k1 := nG I2 hcc
   rw [(SW.TK X.prog X.w).inj (S.is_ y hy) k1]
   exact hcc
  refine SW.sC (s := { s1 with heap := h2, toks := tk2 }) hh S (by omega) (fun y hy => hne _ ((memk _).mp (zAU.mpr ⟨y, hy, rfl⟩))) fun s' D zs c kp' g1 g2 g3 le pz sz hD => ?_
  have lz : zs.length = ys.length := pz.length_eq
  have es : s' = { s1 with heap := s'.heap, toks := s'.toks } := by cases s'; dsimp only at g1 g2 g3 ⊢; subst g1 g2 g3; rfl
  have hz : s1.heap.objs.size <= D := by
   obtain ⟨_, _, _, _, ho, _⟩ := S.ex
   exact zBT (zAS (zAJ ho) le)
  have nD : H1 D = none := I1.hok.fresh hz
  have I3 : L2.Inv X pins σ (L2.upd H1 D (.lst (zs.map fun z => V.ref z.2))) s' := by
   rw [es]
   refine I1.laid (fun b u e => kp' b u (kp b u e)) hz ⟨by rw [zAA, sizeLine_eq]; omega, zs.map fun z => Value.ref z.2, c, ?_, hD⟩
   clear pz sz hD lz
   induction zs with
   | nil => exact .nil
   | cons z zs ih => exact .cons rfl ih
  have dz : af X.K W.bad H1 ((zs.map (·.1)).map tupI) (zs.map fun z => V.ref z.2) := by
   have hall : ∀ z ∈ zs, SqT X.K H1 z.2 (z.1.map V.int) := fun z hz => den z (pz.mem_iff.mp hz)
   clear pz sz hD lz I3
   induction zs with
   | nil => exact rfl
   | cons z zs ih =>
    refine af.cons (Den.tup (hall z zAK) ?_) (ih fun z hz => hall z (zAI _ hz))
    show af X.K W.bad H1 (z.1.map PD.D.int) (z.1.map V.int)
    generalize z.1 = k
    induction k with
    | nil => exact rfl
    | cons n k ih2 => exact af.cons (Den.int n) ih2
  have kn := Inv.kno I3 aC
  refine ⟨D, _, _, _, rfl, I3, e1.trans (aj.upd nD), e1.free nD, kn, aC, af.apart nD kn dz, q _ ⟨?_, fun k => ?_⟩⟩
  ·exact zBh.mpr sz
  ·rw [(pz.map (·.1)).mem_iff]
   exact memk k
theorem yB {K : PySem.W.Frag} {P : Bool -> Addr -> Prop} {H : Hp} : ∀ k : List Int, af K P H (k.map PD.D.int) (k.map V.int)
 | [] => rfl
 | n :: k => af.cons (Den.int n) (yB k)
def yR (ys ks : List (List Int)) : Prop := ys.Perm ks /\ ys.Pairwise (fun x y => SW.lexLt y x = false)
def yV (te : DE) : DA := fun ρ Q => te ρ fun d => ∃ t ks, d = .lst t (ks.map tupI) /\ ks.length <= 900 /\ (∀ k ∈ ks, k ≠ []) /\ ∀ ys, yR ys ks -> Q (ys.map tupI)
theorem vD {e : Expr} {te : DE} {p : Pos} (hg : Gl X "sorted") (hm : X.mg "sorted" = none) (he : PED X e te)
  (hst : starEach [e] X.env = (false, eval e X.env) :: starEach [] X.env := by rfl) (hpl : (backTo pos (starEach [] X.env)).any (·.1) = false := by rfl) :
  PEF X (.Call (.Name "sorted" p) [e] [] pos) (yV te) := by
 intro pins s σ H W ρ Q I r h
 refine wpAny_Call_Name_kw (dJ I hg hm boot_sorted ?_ (by decide) (by decide))
 refine PyProof.Rows.callWith_builtin1 ?_ hst hpl
 rw [hst]
 show wpAny _ _ (spliced ((false, eval e X.env) :: backTo pos (starEach [] X.env))) _ _ s
 refine Calls.spliced_cons (thn (he pins s σ H W ρ _ I r h) fun u s1 ⟨v, H1, d, I1, rv, e1, hd, t, ks, ed, lk, hne, q⟩ => ?_)
 subst ed
 obtain ⟨l, vs, ev, _, hq, hw⟩ := hd.lst_
 subst ev
 cases rv
 refine wpAny_pure ?_
 obtain ⟨its, rv, pl, _⟩ := I1.list hq
 have lvs : vs.length = ks.length := by rw [hw.len, zAA]
 have lit : its.length = ks.length := by rw [<- rv.length, lvs]
 have at_ : ∀ (j : Nat) (k : List Int), ks[j]? = some k -> ∃ c : Addr, its[j]? = some (Value.ref c) /\ SqT X.K H1 c (k.map V.int) := fun j k hk => by
  obtain ⟨v, ev, hv⟩ := hw.get (i := j) (d := tupI k) (by rw [zAO, hk]; rfl)
  obtain ⟨c, rfl, hc⟩ := yP hv
  obtain ⟨u, eu, ru⟩ := rv.get ev
  cases ru
  exact ⟨c, eu, hc⟩
 obtain ⟨xs, ex, ek⟩ : ∃ xs : List (List Int × Addr), its = xs.map (fun x => Value.ref x.2) /\ ks = xs.map (·.1) := by
  clear hw hq rv pl q hne lk lvs hd
  induction ks generalizing its with
  | nil => exact ⟨[], zAx lit, rfl⟩
  | cons k ks ih =>
   cases its with
   | nil => cases lit
   | cons i its =>
    obtain ⟨c, ec, _⟩ := at_ 0 k rfl
    cases ec
    obtain ⟨xs, a, b⟩ := ih its (by simpa using lit) fun j k' hk' => at_ (j + 1) k' hk'
    exact ⟨(k, c) :: xs, by rw [a]; rfl, by rw [b]; rfl⟩
 have den : ∀ x ∈ xs, SqT X.K H1 x.2 (x.1.map V.int) := fun x hx => by
  obtain ⟨j, lj, ej⟩ := zAr hx
  obtain ⟨c, ec, hcc⟩ := at_ j x.1 (by rw [ek, zAO, zAH lj, ej]; rfl)
  rw [ex, zAO, zAH lj, ej] at ec
  cases ec
  exact hcc
 have lx : xs.length = ks.length := by rw [ek, zAA]
 obtain ⟨o, n, ho, hcl, hdt⟩ := pl
 refine SW.rB (s := s1) ho hcl (by rw [<- ex]; exact hdt.2) (by omega) (fun x hx => ⟨nG I1 (den x hx), hne _ (by rw [ek]; exact zAU.mpr ⟨x, hx, rfl⟩)⟩) fun s' D zs c kp' g1 g2 g3 le pz sz hD => ?_
 have lz : zs.length = xs.length := pz.length_eq
 have es : s' = { s1 with heap := s'.heap, toks := s'.toks } := by cases s'; dsimp only at g1 g2 g3 ⊢; subst g1 g2 g3; rfl
 have nD : H1 D = none := I1.hok.fresh le
 have I3 : L2.Inv X pins σ (L2.upd H1 D (.lst (zs.map fun z => V.ref z.2))) s' := by
  rw [es]
  refine I1.laid (fun b u e => kp' b u e) le ⟨by rw [zAA, sizeLine_eq]; omega, zs.map fun z => Value.ref z.2, c, ?_, hD⟩
  clear pz sz hD lz
  induction zs with
  | nil => exact .nil
  | cons z zs ih => exact .cons rfl ih
 have dz : af X.K W.bad H1 ((zs.map (·.1)).map tupI) (zs.map fun z => V.ref z.2) := by
  have hall : ∀ z ∈ zs, SqT X.K H1 z.2 (z.1.map V.int) := fun z hz => den z (pz.mem_iff.mp hz)
  clear pz sz hD lz I3
  induction zs with
  | nil => exact rfl
  | cons z zs ih =>
   refine af.cons (Den.tup (hall z zAK) ?_) (ih fun z hz => hall z (zAI _ hz))
   exact yB z.1
 have kn := Inv.kno I3 aC
 exact ⟨D, _, _, _, rfl, I3, e1.trans (aj.upd nD), e1.free nD, kn, aC, af.apart nD kn dz, q _ ⟨by rw [ek]; exact pz.map _, zBh.mpr sz⟩⟩
end
end PD
namespace HT
open PySem PyProof.Rows
section
open PySem.SeqAt
open PySem.AutoSeq1 (wpAny_loadPart')
open PySem.MeetsSeq PySem.MeetsSeq2 PySem.MeetsSeq3
end
section
variable {prog : Program} {w : World} {A : Around} {E : Value -> Shared -> Prop} {s : Shared}
end
end HT
namespace SW
open PySem PySem.SetTable ST PySem.W PyProof.Rows
section
variable {prog : Program} {w : World} {A : Around} {E : Value -> Shared -> Prop} {s : Shared}
end
end SW
namespace SW
open PySem PySem.SetTable ST PySem.W PyProof.Rows
section
variable {prog : Program} {w : World} {A : Around} {E : Value -> Shared -> Prop} {s : Shared}
end
end SW
namespace SW
open PySem PySem.SetTable ST PySem.W PyProof.Rows
section
variable {prog : Program} {w : World} {A : Around} {E : Value -> Shared -> Prop} {s : Shared}
end
end SW
namespace PD
open PySem PySem.Spec PyProof.Rows L2
section
variable {X : Cx} {pos : Pos}
end
end PD
namespace PD
open PySem PySem.Spec PyProof.Rows L2
section
variable {X : Cx} {pos : Pos}
end
end PD
namespace SW
open PySem PySem.SetTable ST PySem.W PyProof.Rows
section
variable {prog : Program} {w : World} {A : Around} {E : Value -> Shared -> Prop} {s : Shared}
structure Ca (prog : Program) (w : World) (h : Heap) (a : Addr) (xs : List (Int × Tok)) : Prop where
 ex : ∃ o es ep t, h.get? a = some o /\ o.ExactSet /\ o.data = .set es ep t /\ es.toList = xs.map (fun x => ((intKind prog w).hash x.1, Value.int x.1 x.2)) /\ Tab t (xs.map fun x => (intKind prog w).hash x.1) /\ (t.plain = true /\ t.led = !w.params.followText "set-order") /\ 7 <= t.mask
 nd : (xs.map (·.1)).Nodup
end
end SW
namespace SW
open PySem PySem.SetTable ST PySem.W PyProof.Rows
section
variable {prog : Program} {w : World} {A : Around} {E : Value -> Shared -> Prop} {s : Shared}
end
end SW
namespace SW
open PySem PySem.SetTable ST PySem.W PyProof.Rows
section
variable {prog : Program} {w : World} {A : Around} {E : Value -> Shared -> Prop} {s : Shared}
end
end SW
namespace PD
open PySem PySem.Spec PyProof.Rows L2
section
variable {X : Cx} {pos : Pos}
theorem gU : ∀ {out : List Value} {ms : List Int}, IntsAre out ms -> Vals (ms.map V.int) out
 | _, _, .nil => .nil
 | _, _, .cons n t r => .cons ⟨t, rfl⟩ (gU r)
end
end PD
namespace PD
open PySem PySem.Spec PyProof.Rows L2
section
variable {X : Cx}
end
section
variable {P : Program} {w : World} {K : PySem.W.Frag} {mg : Str -> Option Value} {base : Heap}
end
end PD
namespace PD
open PySem PySem.Spec PyProof.Rows L2
section
variable {X : Cx}
end
end PD
namespace PD
open PySem PySem.Spec PyProof.Rows L2
section
variable {X : Cx}
end
end PD
namespace PD
open PySem PySem.Spec PyProof.Rows L2
def FL (K : PySem.W.Frag) (x : Str) (st : Stmt) : Prop := ∃ (f : Addr) (oc : Value) (od : Option Addr) (kV dc pm : Value) (an : Option Addr) (cd ct : Value) (sl : Array (Option Value)),
 PySem.W.nsIn K mainGlobals x = some (some (.ref f)) /\ K.lookup f = some ⟨oc, od, .func (PySem.W.fnOf x x (bV st) (bC st) (ai st) .none kV dc pm an cd ct), sl⟩ /\ PySem.W.codeIn K cd x = true /\ PySem.W.keepIn K (.ref f) = true
theorem FL.mk {K : PySem.W.Frag} {x : Str} {st : Stmt} {f : Addr} {oc : Value} {od : Option Addr} {kV dc pm : Value} {an : Option Addr} {cd ct : Value} {sl : Array (Option Value)} (a : PySem.W.nsIn K mainGlobals x = some (some (.ref f)))
  (b : K.lookup f = some ⟨oc, od, .func (PySem.W.fnOf x x (bV st) (bC st) (ai st) .none kV dc pm an cd ct), sl⟩) (c : PySem.W.codeIn K cd x = true) (d : PySem.W.keepIn K (.ref f) = true) : FL K x st := ⟨f, oc, od, kV, dc, pm, an, cd, ct, sl, a, b, c, d⟩
theorem BR {α : Type} : ∀ {us : List α}, us.length = 1 -> ∃ a, us = [a]
 | [a], _ => ⟨a, rfl⟩
theorem BS {α : Type} : ∀ {us : List α}, us.length = 2 -> ∃ a b, us = [a, b]
 | [a, b], _ => ⟨a, b, rfl⟩
theorem BU {α : Type} : ∀ {us : List α}, us.length = 3 -> ∃ a b c, us = [a, b, c]
 | [a, b, c], _ => ⟨a, b, c, rfl⟩
theorem BV {α : Type} : ∀ {us : List α}, us.length = 4 -> ∃ a b c d, us = [a, b, c, d]
 | [a, b, c, d], _ => ⟨a, b, c, d, rfl⟩
theorem BW {α : Type} : ∀ {us : List α}, us.length = 5 -> ∃ a b c d e, us = [a, b, c, d, e]
 | [a, b, c, d, e], _ => ⟨a, b, c, d, e, rfl⟩
theorem FL.has {K : PySem.W.Frag} {x : Str} {st : Stmt} {h : Heap} {mg : Str -> Option Value} {k : Nat} {ps : List Str} {sp : DSp} (e : FL K x st) (P : Program) (w : World) (base : Heap) (X : K.In h) (G : h.Ns mainGlobals mg)
  (ok : ∀ {f : Addr} {fd : FuncData}, av K x x st f fd -> aD P w K mg base (CX1 P w) k f fd ps (aE K sp))
  (hb : ∀ (kV dc pm : Value) (an : Option Addr) (cd ct : Value) (us : List Value), us.length = ps.length -> bindArgs (PySem.W.fnOf x x (bV st) (bC st) (ai st) .none kV dc pm an cd ct) ⟨us, []⟩ = pure (ps.zip us) := by
   intro _ _ _ _ _ _ us hl
   first
    | (obtain ⟨a, e⟩ := BR hl; subst e; rfl)
    | (obtain ⟨a, b, e⟩ := BS hl; subst e; rfl)
    | (obtain ⟨a, b, c, e⟩ := BU hl; subst e; rfl)
    | (obtain ⟨a, b, c, d, e⟩ := BV hl; subst e; rfl)
    | (obtain ⟨a, b, c, d, e', e⟩ := BW hl; subst e; rfl)) : Has P w K mg base x k ps sp := by
 obtain ⟨f, oc, od, kV, dc, pm, an, cd, ct, sl, a, b, c, d⟩ := e
 exact ⟨f, _, ok (kD b c d), PySem.W.mg_of X G a, d, .all fun us hl => hb kV dc pm an cd ct us hl⟩
section
variable {X : Cx}
end
end PD
namespace LW
open PySem PySem.Spec PyProof.Rows L2 PD
seal PD.b5 PD.PSD PD.PED PD.PTD PD.PWD PD.PAD PD.PID PD.PGD PD.pG PD.TsD PD.PEF PD.PKD PD.PPD PD.PDO PD.PFL PD.PPK PD.PEK
local macro_rules | `(tactic| walk_at "sc") => `(tactic| exact ⟨rfl, rfl, rfl, by decide +kernel, rfl, by decide +kernel, by decide +kernel⟩)
def top (i : Nat) : Stmt := PySem.Challenge.pw_halvecut_k24_whole_fair_lines_sent.main.body.getD i (.Pass ⟨0, 0, 0, 0⟩)
abbrev rf : Stmt := top 4
abbrev dj : Stmt := top 5
abbrev kc : Stmt := top 6
abbrev kL : Stmt := top 7
abbrev nP : Stmt := top 9
abbrev q9 : Stmt := top 10
abbrev jh : Stmt := top 11
abbrev j9 : Stmt := top 12
abbrev jr : Stmt := top 15
abbrev kf : Stmt := top 17
abbrev eT : Stmt := top 18
abbrev eE : Stmt := top 19
abbrev dD : Stmt := top 20
abbrev d9 : Stmt := top 22
abbrev cN : Stmt := top 23
abbrev fP : Stmt := top 25
abbrev dP : Stmt := top 26
abbrev jq : Stmt := top 27
abbrev ka : Stmt := top 28
abbrev gO : Stmt := top 29
abbrev fu : Stmt := top 33
abbrev eS : Stmt := top 34
abbrev jt : Stmt := top 35
abbrev cM : Stmt := top 36
abbrev ib : Stmt := top 37
abbrev h9 : Stmt := top 39
abbrev fv : Stmt := top 40
abbrev gn : Stmt := top 41
abbrev jo : Stmt := top 42
abbrev ji : Stmt := top 43
abbrev kb : Stmt := top 44
abbrev jk : Stmt := top 45
abbrev gm : Stmt := top 46
abbrev jj : Stmt := top 47
abbrev fO : Stmt := top 48
abbrev je : Stmt := top 31
abbrev jg : Stmt := top 31
abbrev da : Stmt := top 32
abbrev de : Stmt := top 32
abbrev nN : Stmt := top 13
abbrev nO : Stmt := top 13
abbrev gq : Stmt := top 24
abbrev gr : Stmt := top 24
theorem zP : ax ["number"] ["number"] (ai rf) := by walk_at "sc"
theorem bR : ax ["one", "other", "rest"] ["one", "other"] (ai dj) := by walk_at "sc"
theorem ju : ax ["triple", "lead", "divisor"] ["triple", "lead"] (ai kc) := by walk_at "sc"
theorem dm : ax ["count", "size", "found", "length", "longer", "pick", "first"] ["count", "size"] (ai kL) := by walk_at "sc"
theorem yo : ax ["gauge", "place"] ["gauge", "place"] (ai nP) := by walk_at "sc"
theorem zO : ax ["gauge", "place"] ["gauge", "place"] (ai q9) := by walk_at "sc"
theorem sk : ax ["gauge"] ["gauge"] (ai jh) := by walk_at "sc"
theorem uZ : ax ["one", "other"] ["one", "other"] (ai j9) := by walk_at "sc"
theorem su : ax ["spot"] ["spot"] (ai jr) := by walk_at "sc"
theorem u4 : ax ["dot"] ["dot"] (ai kf) := by walk_at "sc"
theorem rm : ax ["dots", "colour"] ["dots", "colour"] (ai eT) := by walk_at "sc"
theorem yn : ax ["dots", "colour"] ["dots", "colour"] (ai eE) := by walk_at "sc"
theorem jv : ax ["dots", "gauge", "colour", "weights", "dot"] ["dots", "gauge", "colour"] (ai dD) := by walk_at "sc"
theorem mP : ax ["dots", "pair"] ["dots", "pair"] (ai d9) := by walk_at "sc"
theorem jE : ax ["dots", "pairs"] ["dots"] (ai cN) := by walk_at "sc"
theorem sv : ax ["dots", "lines"] ["dots", "lines"] (ai fP) := by walk_at "sc"
theorem oZ : ax ["dots"] ["dots"] (ai dP) := by walk_at "sc"
theorem sr : ax ["dots"] ["dots"] (ai jq) := by walk_at "sc"
theorem u3 : ax ["under", "over", "whole"] ["under", "over", "whole"] (ai ka) := by walk_at "sc"
theorem mO : ax ["dots", "whole"] ["dots"] (ai gO) := by walk_at "sc"
theorem nQ : ax ["dots", "pair", "colours"] ["dots", "pair", "colours"] (ai fu) := by walk_at "sc"
theorem gu : ax ["dots", "one", "other", "colours", "pairs"] ["dots", "one", "other"] (ai eS) := by walk_at "sc"
theorem cY : ax ["dots", "gauge", "other", "weights", "dot", "spot", "sides"] ["dots", "gauge", "other"] (ai jt) := by walk_at "sc"
theorem cD : ax ["dots", "pairs", "gauge", "whole", "pair"] ["dots", "pairs", "gauge"] (ai cM) := by walk_at "sc"
theorem gw : ax ["dots", "pairs", "first"] ["dots"] (ai ib) := by walk_at "sc"
theorem rg : ax ["_law_found"] ["_law_found"] (ai h9) := by walk_at "sc"
theorem nR : ax ["_law_script", "_law_k"] ["_law_script", "_law_k"] (ai fv) := by walk_at "sc"
theorem aR : ax ["_law_cell", "_law_many", "_law_found", "_law_rest", "_law_k", "_law_number", "_law_other"] ["_law_cell", "_law_many"] (ai gn) := by walk_at "sc"
theorem kW : ax ["_law_kind", "_law_xs", "_law_way", "_law_step"] ["_law_kind", "_law_xs", "_law_way"] (ai jo) := by walk_at "sc"
theorem bL : ax ["_law_first", "_law_cells", "_law_most", "_law_way", "_law_dots_here", "_law_cell", "_law_xs", "_law_weight", "_law_x", "_law_y"] ["_law_first", "_law_cells", "_law_most"] (ai ji) := by walk_at "sc"
theorem cS : ax ["_law_script", "_law_far", "_law_found", "_law_k", "_law_number"] ["_law_script"] (ai kb) := by walk_at "sc"
theorem aS : ax ["_law_dots_here", "_law_by_map", "_law_found", "_law_a", "_law_b", "_law_c", "_law_d", "_law_e", "_law_f", "_law_x", "_law_y", "_law_painted", "_law_weight", "_law_right"] ["_law_dots_here", "_law_by_map"] (ai jk) := by walk_at "sc"
theorem fx : ax ["_law_dots_here", "_law_found", "_law_row"] ["_law_dots_here"] (ai gm) := by walk_at "sc"
theorem sq : ax ["_law_found"] ["_law_found"] (ai jj) := by walk_at "sc"
theorem dQ : ax ["_law_script", "_law_first", "_law_dots_here", "_law_there", "_law_one", "_law_other", "_law_found", "_law_both", "_law_many"] ["_law_script"] (ai fO) := by walk_at "sc"
theorem kT : ax ["dots", "gauge", "colour", "split"] ["dots", "gauge", "colour"] (ai je) := by walk_at "sc"
theorem kU : ax ["dots", "gauge", "colour", "split"] ["dots", "gauge", "colour"] (ai jg) := by walk_at "sc"
theorem eF : ax ["dots", "pairs", "colours", "pair", "gauge"] ["dots", "pairs", "colours"] (ai da) := by walk_at "sc"
theorem eG : ax ["dots", "pairs", "colours", "pair", "gauge"] ["dots", "pairs", "colours"] (ai de) := by walk_at "sc"
theorem rh : ax ["one", "other", "gauge"] ["one", "other"] (ai nN) := by walk_at "sc"
theorem rj : ax ["one", "other", "gauge"] ["one", "other"] (ai nO) := by walk_at "sc"
theorem oX : ax ["dots", "pair"] ["dots", "pair"] (ai gq) := by walk_at "sc"
theorem oY : ax ["dots", "pair"] ["dots", "pair"] (ai gr) := by walk_at "sc"
structure Cls where
 PlaneError : Addr
 NoLine : Addr
structure COk (K : PySem.W.Frag) (mg : Str -> Option Value) (κ : Cls) : Prop where
 mg_PlaneError : mg "PlaneError" = some (.ref κ.PlaneError)
 mg_NoLine : mg "NoLine" = some (.ref κ.NoLine)
abbrev Dt := Int × Int × Int × Int
def dtD (p : Dt) : D := .tup [.int p.1, .int p.2.1, .int p.2.2.1, .int p.2.2.2]
theorem sM {p q : Dt} (h : dtD p = dtD q) : p = q := by
 unfold dtD at h
 simp only [D.tup.injEq, zAD, D.int.injEq, and_true] at h
 obtain ⟨h1, h2, h3, h4⟩ := h
 exact zBx h1 (zBx h2 (zBx h3 h4))
theorem map_inj {α : Type} {f : α -> D} (hf : ∀ {p q}, f p = f q -> p = q) : ∀ {ps qs : List α}, ps.map f = qs.map f -> ps = qs
 | [], [], _ => rfl
 | [], _ :: _, h => by simp at h
 | _ :: _, [], h => by simp at h
 | p :: ps, q :: qs, h => by
  simp only [zAG, zAD] at h
  rw [hf h.1, map_inj hf h.2]
theorem aO {ps qs : List Dt} (h : ps.map dtD = qs.map dtD) : ps = qs := map_inj sM h
theorem ki (p : Dt) : aI (dtD p) = dtD p := by unfold dtD; simp only [dE, bQ, cg, bN]
theorem lg (ps : List Dt) : aV (ps.map dtD) = ps.map dtD := fT dtD ki ps
structure GD (p : Dt) : Prop where
 x : Bd 60 p.1
 y : Bd 60 p.2.1
 c0 : 0 <= p.2.2.1
 c2 : p.2.2.1 <= 2
def gK (col : D) (cs : Int -> Bool) : Prop := (col = .non /\ cs = fun _ => true) ∨ ∃ k : Int, col = .int k /\ cs = fun c => decide (c = k)
theorem gK.unt {col : D} {cs : Int -> Bool} (h : gK col cs) : aI col = col := by
 rcases h with ⟨rfl, _⟩ | ⟨k, rfl, _⟩
 ·exact gT
 ·exact bN _
def gv (g0 g1 g2 : Int) (p : Dt) : Int := g0 + g1 * p.1 + g2 * p.2.1
def w3 (g0 g1 g2 s : Int) (ps : List Dt) : Int := (ps.map fun p => if sg (gv g0 g1 g2 p) = s then p.2.2.2 else 0).sum
def wt (cs : Int -> Bool) (g0 g1 g2 s : Int) (ps : List Dt) : Int := w3 g0 g1 g2 s (ps.filter fun p => cs p.2.2.1)
def tot (cs : Int -> Bool) (ps : List Dt) : Int := ((ps.filter fun p => cs p.2.2.1).map fun p => p.2.2.2).sum
theorem zW (g0 g1 g2 s : Int) (ps : List Dt) (p : Dt) : w3 g0 g1 g2 s (ps ++ [p]) = w3 g0 g1 g2 s ps + if sg (gv g0 g1 g2 p) = s then p.2.2.2 else 0 := by
 unfold w3
 rw [zAb, List.sum_append]
 simp
theorem sg3 (n : Int) : sg n = -1 ∨ sg n = 0 ∨ sg n = 1 := by
 unfold sg
 split
 ·exact .inr (.inr rfl)
 ·split
  ·exact .inl rfl
  ·exact .inr (.inl rfl)
def m8 {α : Type} (xs : List α) (lo hi : Option Int) : List α := (xs.drop (HT.sIx xs.length 0 lo)).take (HT.sIx xs.length xs.length hi - HT.sIx xs.length 0 lo)
theorem sG {α : Type} (f : α -> D) (xs : List α) (lo hi : Option Int) : PD.cutD (xs.map f) lo hi = (m8 xs lo hi).map f := by
 unfold PD.cutD m8
 rw [zAA, List.map_take, List.map_drop]
theorem getInt {xs : List Int} {j : Nat} {d : D} (h : (xs.map D.int)[j]? = some d) : ∃ n : Int, d = .int n /\ n ∈ xs /\ j < xs.length := by
 rw [zAO] at h
 cases e : xs[j]? with
 | none => rw [e] at h; cases h
 | some n =>
  rw [e] at h
  cases h
  exact ⟨n, rfl, zAV e, (zAF.mp e).1⟩
theorem four {xs : List Int} (h : xs.length = 4) : ∃ x y z u : Int, xs = [x, y, z, u] := by
 match xs, h with
 | [x, y, z, u], _ => exact ⟨x, y, z, u, rfl⟩
theorem Bs (a b c x : D) : putD (κ := Key) [(.inl (-1), a), (.inl 0, b), (.inl 1, c)] (.inl (-1)) x = [(.inl (-1), x), (.inl 0, b), (.inl 1, c)] := rfl
theorem Bt (a b c x : D) : putD (κ := Key) [(.inl (-1), a), (.inl 0, b), (.inl 1, c)] (.inl 0) x = [(.inl (-1), a), (.inl 0, x), (.inl 1, c)] := rfl
theorem Bu (a b c x : D) : putD (κ := Key) [(.inl (-1), a), (.inl 0, b), (.inl 1, c)] (.inl 1) x = [(.inl (-1), a), (.inl 0, b), (.inl 1, x)] := rfl
theorem fm {a b : Int} (hb : 0 < b) : 0 <= a.fmod b /\ a.fmod b < b := ⟨Int.fmod_nonneg_of_pos a hb, Int.fmod_lt_of_pos a hb⟩
theorem bdl {n : Nat} {x : Int} (m : Nat) (h : x.natAbs < m) (hm : m <= 2 ^ n) : Bd n x := zAS h hm
theorem p9 : ((10 : Int) ^ (9 : Int).toNat) = 1000000000 := by decide
theorem cp9 : pD 10 9 := ⟨by decide, by decide, by decide⟩
theorem dY {n : Nat} {t g : Int} (hg : g ≠ 0) (hd : g ∣ t) (h : Bd n t) : Bd n (t.fdiv g) := zCE (PM.kR hg hd) h
theorem vi {n : Nat} {x y z l : Int} (h : ¬ (x = 0 /\ y = 0 /\ z = 0)) (hx : Bd n x) (hy : Bd n y) (hz : Bd n z) : Bd n (PM.dv3 x y z l) := by
 unfold Bd at *
 rw [PM.nB]
 have d1 := zBE.mpr (PM.jW x y z)
 have d2 := zBE.mpr (PM.i6 x y z)
 have d3 := zBE.mpr (PM.i7 x y z)
 simp only [Int.natAbs_natCast] at d1 d2 d3
 by_cases h1 : x = 0
 ·by_cases h2 : y = 0
  ·have h3 : z ≠ 0 := fun e => h ⟨h1, h2, e⟩
   have := zBr (by omega) d3
   omega
  ·have := zBr (by omega) d2
   omega
 ·have := zBr (by omega) d1
  omega
theorem bO {a b c d : Int} (ha : Bd 200 a) (hb : Bd 200 b) (hc : Bd 200 c) (hd : Bd 200 d) : Bd 1000 (a * b - c * d) := ((ha.mul hb).sub (hc.mul hd)).mono (by decide)
theorem By (lo hi : Int) : gk lo hi 1 = (hi - lo).toNat := by
 unfold gk Builtin.Range.rangeSize
 rw [if_pos (by decide)]
 by_cases h : lo < hi
 ·rw [if_pos h, Int.ediv_one]
  omega
 ·rw [if_neg h]
  omega
theorem sel {α : Type} (lt : α -> α -> Prop) (P : α -> Prop) (tr : ∀ a b c, P a -> P b -> P c -> lt a b -> lt b c -> lt a c) (ir : ∀ a, P a -> ¬ lt a a) :
  ∀ l : List α, (∃ x ∈ l, P x) -> ∃ e ∈ l, P e /\ ∀ f ∈ l, P f -> ¬ lt f e
 | [], h => by obtain ⟨x, hx, _⟩ := h; cases hx
 | a :: r, h => by
  by_cases hr : ∃ x ∈ r, P x
  ·obtain ⟨e, he, pe, me⟩ := sel lt P tr ir r hr
   by_cases ha : P a /\ lt a e
   ·refine ⟨a, zAK, ha.1, fun f hf pf z => ?_⟩
    rcases zAN.mp hf with q | q
    ·subst q; exact ir _ pf z
    ·exact me f q pf (tr _ _ _ pf ha.1 pe z ha.2)
   ·refine ⟨e, zAI _ he, pe, fun f hf pf z => ?_⟩
    rcases zAN.mp hf with q | q
    ·subst q; exact ha ⟨pf, z⟩
    ·exact me f q pf z
  ·obtain ⟨x, hx, px⟩ := h
   rcases zAN.mp hx with q | q
   ·subst q
    refine ⟨x, zAK, px, fun f hf pf z => ?_⟩
    rcases zAN.mp hf with q | q
    ·subst q; exact ir _ pf z
    ·exact hr ⟨f, q, pf⟩
   ·exact absurd ⟨x, q, px⟩ hr
def wq (f : Dt -> Bool) : List Dt -> Int
 | [] => 0
 | p :: r => (if f p = true then p.2.2.2 else 0) + wq f r
def Pos (qs : List Dt) : Prop := ∀ p ∈ qs, 0 < p.2.2.2
theorem Pos.tail {p : Dt} {qs : List Dt} (h : Pos (p :: qs)) : Pos qs := fun q hq => h q (zAI _ hq)
theorem cU {f g : Dt -> Bool} : ∀ {qs : List Dt}, Pos qs -> (∀ p ∈ qs, f p = true -> g p = true) -> wq f qs <= wq g qs
 | [], _, _ => Int.le_refl _
 | p :: r, hp, h => by
  have ih := cU hp.tail fun q hq => h q (zAI _ hq)
  have h1 := h p zAK
  have h2 := hp p zAK
  unfold wq
  by_cases hf : f p = true
  ·rw [if_pos hf, if_pos (h1 hf)]; omega
  ·rw [if_neg hf]; split <;> omega
theorem aL {f g : Dt -> Bool} : ∀ {qs : List Dt}, (∀ p ∈ qs, f p = g p) -> wq f qs = wq g qs
 | [], _ => rfl
 | p :: r, h => by
  unfold wq
  rw [h p zAK, aL fun q hq => h q (zAI _ hq)]
theorem kO {f : Dt -> Bool} {qs : List Dt} (h : ∀ p ∈ qs, f p = false) : wq f qs = 0 := by
 induction qs with
 | nil => rfl
 | cons p r ih =>
  unfold wq
  rw [h p zAK, ih fun q hq => h q (zAI _ hq)]
  simp
theorem oN {f : Dt -> Bool} {qs : List Dt} (hp : Pos qs) : 0 <= wq f qs := by
 have := cU (f := fun _ => false) (g := f) hp (fun _ _ z => by cases z)
 rw [kO (f := fun _ => false) fun _ _ => rfl] at this
 exact this
theorem w6 {f g k : Dt -> Bool} : ∀ {qs : List Dt}, Pos qs -> (∀ p ∈ qs, f p = true -> g p = true -> False) -> (∀ p ∈ qs, f p = true -> k p = true) -> (∀ p ∈ qs, g p = true -> k p = true) -> wq f qs + wq g qs <= wq k qs
 | [], _, _, _, _ => by simp [wq]
 | p :: r, hp, h1, h2, h3 => by
  have ih := w6 (f := f) (g := g) (k := k) hp.tail (fun q hq => h1 q (zAI _ hq)) (fun q hq => h2 q (zAI _ hq)) (fun q hq => h3 q (zAI _ hq))
  have e1 := h1 p zAK
  have e2 := h2 p zAK
  have e3 := h3 p zAK
  have e4 := hp p zAK
  unfold wq
  by_cases a : f p = true
  ·rw [if_pos a, if_pos (e2 a), if_neg fun b => e1 a b]; omega
  ·rw [if_neg a]
   by_cases b : g p = true
   ·rw [if_pos b, if_pos (e3 b)]; omega
   ·rw [if_neg b]; split <;> omega
structure Or (lt : Dt -> Dt -> Bool) : Prop where
 ir : ∀ p, lt p p = false
 tr : ∀ p q r, lt p q = true -> lt q r = true -> lt p r = true
 nt : ∀ p q r, lt p q = true -> lt r q = false -> lt p r = true
def blw (lt : Dt -> Dt -> Bool) (A : Dt -> Bool) (qs : List Dt) (p : Dt) : Int := wq (fun z => A z && lt z p) qs
def abv (lt : Dt -> Dt -> Bool) (A : Dt -> Bool) (qs : List Dt) (p : Dt) : Int := wq (fun z => A z && lt p z) qs
def Med (lt : Dt -> Dt -> Bool) (A : Dt -> Bool) (qs : List Dt) (p : Dt) : Prop := 2 * blw lt A qs p <= wq A qs /\ 2 * abv lt A qs p <= wq A qs
section
variable {lt : Dt -> Dt -> Bool} {A B : Dt -> Bool} {qs : List Dt}
theorem jO (O : Or lt) (hp : Pos qs) {p q : Dt} (h : lt q p = false) : blw lt A qs p <= blw lt A qs q := by
 refine cU hp fun z _ hz => ?_
 simp only [zAj] at hz ⊢
 exact ⟨hz.1, O.nt _ _ _ hz.2 h⟩
theorem pJ (O : Or lt) (hp : Pos qs) {p q : Dt} (h : lt q p = false) : abv lt A qs q <= abv lt A qs p := by
 refine cU hp fun z _ hz => ?_
 simp only [zAj] at hz ⊢
 refine ⟨hz.1, ?_⟩
 cases e : lt p z with
 | true => rfl
 | false =>
  have := O.nt _ _ _ hz.2 e
  rw [h] at this
  cases this
theorem zo (O : Or lt) (hp : Pos qs) {p q r : Dt} (h1 : Med lt A qs p) (h2 : Med lt A qs q) (a : lt r p = false) (b : lt q r = false) : Med lt A qs r := by
 have e1 := jO (A := A) O hp b
 have e2 := pJ (A := A) O hp a
 have := h1.2
 have := h2.1
 exact ⟨by omega, by omega⟩
theorem fb (O : Or lt) (hp : Pos qs) (h : ∃ p ∈ qs, A p = true) : ∃ p ∈ qs, A p = true /\ Med lt A qs p := by
 have t0 : 0 <= wq A qs := oN hp
 obtain ⟨m, hm, am, mm⟩ := sel (fun a b => lt a b = true) (fun p => A p = true) (fun a b c _ _ _ => O.tr a b c) (fun a _ z => by rw [O.ir] at z; cases z) qs h
 have cm : 2 * blw lt A qs m <= wq A qs := by
  have : blw lt A qs m = 0 := kO fun z hz => by
   cases e : A z with
   | false => rfl
   | true =>
    cases e' : lt z m with
    | false => rfl
    | true => exact absurd e' (mm z hz e)
  omega
 obtain ⟨p, hpq, ⟨ap, bp⟩, mp⟩ := sel (fun a b => lt b a = true) (fun p => A p = true /\ 2 * blw lt A qs p <= wq A qs) (fun a b c _ _ _ x y => O.tr c b a y x) (fun a _ z => by rw [O.ir] at z; cases z) qs ⟨m, hm, am, cm⟩
 refine ⟨p, hpq, ap, bp, ?_⟩
 by_cases hc : 2 * abv lt A qs p <= wq A qs
 ·exact hc
 ·exfalso
  have ne : ∃ z ∈ qs, A z = true /\ lt p z = true := by
   by_cases ne : ∃ z ∈ qs, A z = true /\ lt p z = true
   ·exact ne
   ·have : abv lt A qs p = 0 := kO fun z hz => by
     cases e : A z with
     | false => rfl
     | true =>
      cases e' : lt p z with
      | false => rfl
      | true => exact absurd ⟨z, hz, e, e'⟩ ne
    omega
  obtain ⟨q, hq, ⟨aq, lq⟩, mq⟩ := sel (fun a b => lt a b = true) (fun z => A z = true /\ lt p z = true) (fun a b c _ _ _ => O.tr a b c) (fun a _ z => by rw [O.ir] at z; cases z) qs ne
  have two : blw lt A qs q + abv lt A qs p <= wq A qs := by
   refine w6 hp (fun z hz x y => ?_) (fun z _ x => (zAj _ _ ▸ x).1) (fun z _ x => (zAj _ _ ▸ x).1)
   simp only [zAj] at x y
   exact mq z hz ⟨x.1, y.2⟩ x.2
  exact mp q hq ⟨aq, by omega⟩ lq
end
abbrev Vc := Int × Int
def dt2 (d e : Vc) : Int := d.1 * e.2 - d.2 * e.1
def Lp (d : Vc) : Prop := 0 < d.1 ∨ (d.1 = 0 /\ 0 < d.2)
def hh (d : Vc) (z : Dt) : Int := d.1 * z.2.1 - d.2 * z.1
def rk (p q : Dt) : Bool := decide (p.1 < q.1 ∨ (p.1 = q.1 /\ p.2.1 < q.2.1))
def om (d : Vc) (p q : Dt) : Bool := decide (hh d p < hh d q) || (decide (hh d p = hh d q) && rk p q)
def op (d : Vc) (p q : Dt) : Bool := decide (hh d p < hh d q) || (decide (hh d p = hh d q) && rk q p)
theorem bD : Or rk := by
 refine ⟨fun p => ?_, fun p q r => ?_, fun p q r => ?_⟩ <;> simp only [rk, decide_eq_true_eq, decide_eq_false_iff_not] <;> omega
theorem cq {d : Vc} {p q : Dt} : om d p q = true ↔ (hh d p < hh d q ∨ (hh d p = hh d q /\ (p.1 < q.1 ∨ (p.1 = q.1 /\ p.2.1 < q.2.1)))) := by
 simp [om, rk]
theorem cu {d : Vc} {p q : Dt} : op d p q = true ↔ (hh d p < hh d q ∨ (hh d p = hh d q /\ (q.1 < p.1 ∨ (q.1 = p.1 /\ q.2.1 < p.2.1)))) := by
 simp [op, rk]
theorem pb (d : Vc) : Or (om d) := by
 refine ⟨fun p => ?_, fun p q r => ?_, fun p q r => ?_⟩
 ·rw [<- zB0, cq]; omega
 ·rw [cq, cq, cq]; omega
 ·rw [<- zB0, cq, cq, cq]; omega
theorem mI (d : Vc) : Or (op d) := by
 refine ⟨fun p => ?_, fun p q r => ?_, fun p q r => ?_⟩
 ·rw [<- zB0, cu]; omega
 ·rw [cu, cu, cu]; omega
 ·rw [<- zB0, cu, cu, cu]; omega
def Lev (d : Vc) (A : Dt -> Bool) (qs : List Dt) (r : Dt) : Prop := 2 * wq (fun z => A z && decide (hh d z < hh d r)) qs <= wq A qs /\ 2 * wq (fun z => A z && decide (hh d r < hh d z)) qs <= wq A qs
section
variable {A B : Dt -> Bool} {qs : List Dt} {d : Vc}
theorem fh (hp : Pos qs) {P R : Dt -> Bool} (h : ∀ z, P z = true -> R z = true) : wq (fun z => A z && P z) qs <= wq (fun z => A z && R z) qs :=
 cU hp fun z _ hz => by
  simp only [zAj] at hz ⊢
  exact ⟨hz.1, h z hz.2⟩
theorem wu (hp : Pos qs) {r : Dt} (h : Med (om d) A qs r) : Lev d A qs r := by
 have e1 := fh (A := A) hp (P := fun z => decide (hh d z < hh d r)) (R := fun z => om d z r) fun z hz => by simp only [decide_eq_true_eq] at hz; rw [cq]; exact .inl hz
 have e2 := fh (A := A) hp (P := fun z => decide (hh d r < hh d z)) (R := fun z => om d r z) fun z hz => by simp only [decide_eq_true_eq] at hz; rw [cq]; exact .inl hz
 have := h.1
 have := h.2
 unfold blw abv at *
 exact ⟨by omega, by omega⟩
theorem qC (hp : Pos qs) {r : Dt} (h : Med (op d) A qs r) : Lev d A qs r := by
 have e1 := fh (A := A) hp (P := fun z => decide (hh d z < hh d r)) (R := fun z => op d z r) fun z hz => by simp only [decide_eq_true_eq] at hz; rw [cu]; exact .inl hz
 have e2 := fh (A := A) hp (P := fun z => decide (hh d r < hh d z)) (R := fun z => op d r z) fun z hz => by simp only [decide_eq_true_eq] at hz; rw [cu]; exact .inl hz
 have := h.1
 have := h.2
 unfold blw abv at *
 exact ⟨by omega, by omega⟩
theorem cW (hp : Pos qs) {r : Dt} (h : Med rk A qs r) : Lev (0, 1) A qs r := by
 have e1 := fh (A := A) hp (P := fun z => decide (hh (0, 1) z < hh (0, 1) r)) (R := fun z => rk r z) fun z hz => by simp only [hh, rk, decide_eq_true_eq, Int.zero_mul, Int.one_mul] at hz ⊢; omega
 have e2 := fh (A := A) hp (P := fun z => decide (hh (0, 1) r < hh (0, 1) z)) (R := fun z => rk z r) fun z hz => by simp only [hh, rk, decide_eq_true_eq, Int.zero_mul, Int.one_mul] at hz ⊢; omega
 have := h.1
 have := h.2
 unfold blw abv at *
 exact ⟨by omega, by omega⟩
theorem tB (hp : Pos qs) {p q r : Dt} (h1 : Lev d A qs p) (h2 : Lev d A qs q) (a : hh d p <= hh d r) (b : hh d r <= hh d q) : Lev d A qs r := by
 have e1 := fh (A := A) hp (P := fun z => decide (hh d z < hh d r)) (R := fun z => decide (hh d z < hh d q)) fun z hz => by simp only [decide_eq_true_eq] at hz ⊢; omega
 have e2 := fh (A := A) hp (P := fun z => decide (hh d r < hh d z)) (R := fun z => decide (hh d p < hh d z)) fun z hz => by simp only [decide_eq_true_eq] at hz ⊢; omega
 have := h1.2
 have := h2.1
 exact ⟨by omega, by omega⟩
end
def Sg (lt : Dt -> Dt -> Bool) (A B : Dt -> Bool) (qs : List Dt) : Prop := ∃ p ∈ qs, Med lt A qs p /\ wq B qs < 2 * abv lt B qs p
theorem Sg.congr {lt lt' : Dt -> Dt -> Bool} {A B : Dt -> Bool} {qs : List Dt} (h : ∀ p ∈ qs, ∀ q ∈ qs, lt p q = lt' p q) (s : Sg lt A B qs) : Sg lt' A B qs := by
 obtain ⟨p, hp, ⟨m1, m2⟩, m3⟩ := s
 have e : ∀ C : Dt -> Bool, blw lt C qs p = blw lt' C qs p /\ abv lt C qs p = abv lt' C qs p := fun C => ⟨aL fun z hz => by rw [h z hz p hp], aL fun z hz => by rw [h p hp z hz]⟩
 exact ⟨p, hp, ⟨by rw [<- (e A).1]; exact m1, by rw [<- (e A).2]; exact m2⟩, by rw [<- (e B).2]; exact m3⟩
section
variable {A B : Dt -> Bool} {qs : List Dt}
theorem Sg.rev (hp : Pos qs) (hb : ∃ p ∈ qs, B p = true) (N : ∀ r ∈ qs, ¬ (Med rk A qs r /\ Med rk B qs r)) (s : Sg rk A B qs) : ¬ Sg (fun p q => rk q p) A B qs := by
 rintro ⟨p', hp', m', t'⟩
 obtain ⟨p, hpq, m, t⟩ := s
 obtain ⟨b, hbq, _, mb⟩ := fb bD hp hb
 refine N b hbq ⟨?_, mb⟩
 have m2 : Med rk A qs p' := ⟨m'.2, m'.1⟩
 have t2 : wq B qs < 2 * blw rk B qs p' := t'
 refine zo bD hp m m2 ?_ ?_
 ·cases e : rk b p with
  | false => rfl
  | true =>
   have := pJ (A := B) bD hp (p := b) (q := p) (by
    cases e' : rk p b with
    | false => rfl
    | true => have := bD.tr _ _ _ e e'; rw [bD.ir] at this; cases this)
   have := mb.2
   omega
 ·cases e : rk p' b with
  | false => rfl
  | true =>
   have := jO (A := B) bD hp (p := p') (q := b) (by
    cases e' : rk b p' with
    | false => rfl
    | true => have := bD.tr _ _ _ e e'; rw [bD.ir] at this; cases this)
   have := mb.1
   omega
theorem Sg.over (hp : Pos qs) (ha : ∃ p ∈ qs, A p = true) (hb : ∃ p ∈ qs, B p = true) {d : Vc} (N : ∀ r ∈ qs, ¬ (Lev d A qs r /\ Lev d B qs r)) (s : Sg (om d) A B qs) : Sg (op d) A B qs := by
 obtain ⟨p, hpq, m, t⟩ := s
 obtain ⟨b, hbq, _, mb⟩ := fb (pb d) hp hb
 obtain ⟨p', hp', _, m'⟩ := fb (mI d) hp ha
 obtain ⟨b', hb', _, mb'⟩ := fb (mI d) hp hb
 by_cases t' : wq B qs < 2 * abv (op d) B qs p'
 ·exact ⟨p', hp', m', t'⟩
 ·exfalso
  have l1 := wu hp m
  have l2 := qC hp m'
  have l3 := wu hp mb
  have l4 := qC hp mb'
  have k1 : hh d p <= hh d b := by
   cases e : om d b p with
   | false =>
    have z := zBf.mp e
    rw [Ne, cq] at z
    omega
   | true =>
    have z1 := pJ (A := B) (pb d) hp (p := b) (q := p) (by
     cases e' : om d p b with
     | false => rfl
     | true => have := (pb d).tr _ _ _ e e'; rw [(pb d).ir] at this; cases this)
    have := mb.2
    omega
  have k2 : hh d b' <= hh d p' := by
   have nb : wq B qs < 2 * blw (op d) B qs p' := by
    have : ¬ Med (op d) B qs p' := fun z => N p' hp' ⟨l2, qC hp z⟩
    unfold Med at this
    omega
   cases e : op d p' b' with
   | false =>
    have z := zBf.mp e
    rw [Ne, cu] at z
    omega
   | true =>
    have z1 := jO (A := B) (mI d) hp (p := p') (q := b') (by
     cases e' : op d b' p' with
     | false => rfl
     | true => have := (mI d).tr _ _ _ e e'; rw [(mI d).ir] at this; cases this)
    have := mb'.1
    omega
  by_cases k : hh d b <= hh d p'
  ·exact N b hbq ⟨tB hp l1 l2 k1 k, l3⟩
  ·exact N p' hp' ⟨l2, tB hp l4 l3 k2 (by omega)⟩
end
theorem qi (e d f : Vc) : dt2 e f * d.1 = dt2 d f * e.1 + dt2 e d * f.1 /\ dt2 e f * d.2 = dt2 d f * e.2 + dt2 e d * f.2 := by
 obtain ⟨e1, e2⟩ := e
 obtain ⟨d1, d2⟩ := d
 obtain ⟨f1, f2⟩ := f
 simp only [dt2, Int.sub_mul]
 constructor
 ·rw [show e1 * f2 * d1 = d1 * f2 * e1 by rw [zAu, zBK e1 d1, zAu], show d2 * f1 * e1 = e1 * d2 * f1 by rw [zAu, zBK d2 e1], show e2 * d1 * f1 = e2 * f1 * d1 by rw [zAu]]
  omega
 ·rw [show e1 * f2 * d2 = e1 * d2 * f2 by rw [zAu], show d1 * f2 * e2 = e2 * d1 * f2 by rw [zAu, zBK d1 e2], show d2 * f1 * e2 = e2 * f1 * d2 by rw [zAu, zBK d2 e2, zAu]]
  omega
theorem cQ (d e : Vc) : dt2 d e = - dt2 e d := by
 simp only [dt2]
 rw [zBK d.1, zBK d.2]
 omega
theorem pq {e d f : Vc} (he : Lp e) (hd : Lp d) (hf : Lp f) (h1 : 0 < dt2 e d) (h2 : 0 <= dt2 d f) : 0 < dt2 e f := by
 obtain ⟨i1, i2⟩ := qi e d f
 generalize dt2 e f = x at *
 generalize dt2 d f = y at *
 generalize dt2 e d = z at *
 obtain ⟨e1, e2⟩ := e
 obtain ⟨d1, d2⟩ := d
 obtain ⟨f1, f2⟩ := f
 simp only [Lp] at he hd hf i1 i2
 have ye1 : 0 <= y * e1 := zA9 h2 (by omega)
 have zf1 : 0 <= z * f1 := zA9 (by omega) (by omega)
 by_cases hx : 0 < x
 ·exact hx
 ·exfalso
  have xd : x * d1 <= 0 := by
   have := zA9 (show 0 <= -x by omega) (show 0 <= d1 by omega)
   rw [zBZ] at this
   omega
  have f0 : f1 = 0 := by
   by_cases q : f1 = 0
   ·exact q
   ·have := zBL h1 (show 0 < f1 by omega)
    omega
  have d0 : x = 0 ∨ d1 = 0 := zBc.mp (by omega)
  have f2p : 0 < z * f2 := zBL h1 (by omega)
  have ye0 : y = 0 ∨ e1 = 0 := zBc.mp (by omega)
  have ye2 : 0 <= y * e2 := by
   rcases ye0 with q | q
   ·rw [q]; simp
   ·exact zA9 h2 (by omega)
  rcases d0 with q | q
  ·rw [q] at i2
   omega
  ·have := zA9 (show 0 <= -x by omega) (show 0 <= d2 by omega)
   rw [zBZ] at this
   omega
def vec (p q : Dt) : Vc := (q.1 - p.1, q.2.1 - p.2.1)
theorem gJ {p q : Dt} (h : rk p q = true) : Lp (vec p q) := by
 simp only [rk, decide_eq_true_eq] at h
 simp only [Lp, vec]
 omega
theorem jY (d : Vc) (p q : Dt) : hh d q - hh d p = dt2 d (vec p q) := by
 simp only [hh, dt2, vec, Int.mul_sub]
 omega
theorem fc {d : Vc} {p q : Dt} (h : rk p q = true) : om d p q = decide (0 <= dt2 d (vec p q)) /\ om d q p = decide (dt2 d (vec p q) < 0) /\ op d p q = decide (0 < dt2 d (vec p q)) /\ op d q p = decide (dt2 d (vec p q) <= 0) := by
 have e := jY d p q
 generalize dt2 d (vec p q) = x at e ⊢
 simp only [rk, decide_eq_true_eq] at h
 refine ⟨?_, ?_, ?_, ?_⟩ <;> rw [zBS, decide_eq_true_eq] <;> simp only [cq, cu] <;> omega
theorem kI {d : Vc} {p q : Dt} (h : rk p q = false) (h' : rk q p = false) : om d p q = false /\ op d p q = false := by
 simp only [rk, decide_eq_false_iff_not] at h h'
 have e1 : p.1 = q.1 := by omega
 have e2 : p.2.1 = q.2.1 := by omega
 have e : hh d p = hh d q := by simp only [hh, e1, e2]
 constructor <;> rw [<- zB0] <;> simp only [cq, cu] <;> omega
theorem agree {lt lt' : Dt -> Dt -> Bool} {qs : List Dt} (h0 : ∀ p q, rk p q = false -> rk q p = false -> lt p q = lt' p q) (h : ∀ p ∈ qs, ∀ q ∈ qs, rk p q = true -> lt p q = lt' p q /\ lt q p = lt' q p) : ∀ p ∈ qs, ∀ q ∈ qs, lt p q = lt' p q := by
 intro p hp q hq
 cases e : rk p q with
 | true => exact (h p hp q hq e).1
 | false =>
  cases e' : rk q p with
  | true => exact (h q hq p hp e').2
  | false => exact h0 p q e e'
def cw (qs : List Dt) : List Vc := qs.flatMap fun p => (qs.filter fun q => rk p q).map fun q => vec p q
theorem dM {qs : List Dt} {d : Vc} : d ∈ cw qs ↔ ∃ p ∈ qs, ∃ q ∈ qs, rk p q = true /\ d = vec p q := by
 unfold cw
 simp only [List.mem_flatMap, zAU, zBJ]
 constructor
 ·rintro ⟨p, hp, q, ⟨hq, r⟩, rfl⟩; exact ⟨p, hp, q, hq, r, rfl⟩
 ·rintro ⟨p, hp, q, hq, r, rfl⟩; exact ⟨p, hp, q, ⟨hq, r⟩, rfl⟩
theorem wU {qs : List Dt} {d : Vc} (h : d ∈ cw qs) : Lp d := by
 obtain ⟨p, _, q, _, r, rfl⟩ := dM.mp h
 exact gJ r
section
variable {A B : Dt -> Bool} {qs : List Dt}
theorem yO (hp : Pos qs) (ha : ∃ p ∈ qs, A p = true) (hb : ∃ p ∈ qs, B p = true) (two : ∃ p ∈ qs, ∃ q ∈ qs, rk p q = true) (N : ∀ d, Lp d -> ∀ r ∈ qs, ¬ (Lev d A qs r /\ Lev d B qs r)) : ¬ Sg rk A B qs := by
 intro s
 have all : ∀ d ∈ cw qs, Sg (om d) A B qs := by
  refine zAl fun hno => ?_
  have : ∃ d ∈ cw qs, Lp d /\ ¬ Sg (om d) A B qs := by
   refine zAl fun h => hno fun d hd => zAl fun hs => h ⟨d, hd, wU hd, hs⟩
  obtain ⟨d, hd, ⟨ld, nd⟩, md⟩ := sel (fun a b => 0 < dt2 a b) (fun d : Vc => Lp d /\ ¬ Sg (om d) A B qs) (fun a b c x y z u v => pq x.1 y.1 z.1 u (by omega)) (fun a _ z => by have := cQ a a; omega) (cw qs) this
  by_cases hm : ∃ e ∈ cw qs, Lp e /\ 0 < dt2 e d
  ·obtain ⟨e, he, ⟨le, ed⟩, me⟩ := sel (fun a b => 0 < dt2 b a) (fun e : Vc => Lp e /\ 0 < dt2 e d) (fun a b c x y z u v => pq z.1 y.1 x.1 v (by omega)) (fun a _ z => by have := cQ a a; omega) (cw qs) hm
   have se : Sg (om e) A B qs := zAl fun h => md e he ⟨le, h⟩ ed
   refine nd (Sg.congr (agree (fun p q h1 h2 => by rw [(kI h1 h2).1, (kI h1 h2).2]) fun p hpq q hq r => ?_) (Sg.over hp ha hb (N e le) se))
   have lf := gJ r
   have ff : vec p q ∈ cw qs := dM.mpr ⟨p, hpq, q, hq, r, rfl⟩
   rw [(fc r).1, (fc r).2.1, (fc r).2.2.1, (fc r).2.2.2]
   generalize vec p q = f at lf ff ⊢
   have n1 := cQ d f
   have key : 0 < dt2 e f ↔ 0 <= dt2 d f := by
    constructor
    ·intro z
     have := me f ff
     by_cases q : 0 < dt2 f d
     ·exact absurd z (this ⟨lf, q⟩)
     ·omega
    ·intro z
     exact pq le ld lf ed z
   exact ⟨by rw [zBS, decide_eq_true_eq, decide_eq_true_eq]; omega, by rw [zBS, decide_eq_true_eq, decide_eq_true_eq]; omega⟩
  ·refine nd (Sg.congr (agree (fun p q h1 h2 => by rw [(kI h1 h2).1, h1]) fun p hpq q hq r => ?_) s)
   have lf := gJ r
   have ff : vec p q ∈ cw qs := dM.mpr ⟨p, hpq, q, hq, r, rfl⟩
   rw [(fc r).1, (fc r).2.1, r]
   have r' : rk q p = false := by
    cases e : rk q p with
    | false => rfl
    | true => have := bD.tr _ _ _ r e; rw [bD.ir] at this; cases this
   rw [r']
   have n1 := cQ d (vec p q)
   have : ¬ 0 < dt2 (vec p q) d := fun z => hm ⟨_, ff, lf, z⟩
   constructor
   ·symm; rw [decide_eq_true_eq]; omega
   ·symm; rw [decide_eq_false_iff_not]; omega
 obtain ⟨p0, hp0, q0, hq0, r0⟩ := two
 obtain ⟨d, hd, ld, md⟩ := sel (fun a b => 0 < dt2 b a) (fun d : Vc => Lp d) (fun a b c x y z u v => pq z y x v (by omega)) (fun a _ z => by have := cQ a a; omega) (cw qs) ⟨_, dM.mpr ⟨p0, hp0, q0, hq0, r0, rfl⟩, gJ r0⟩
 refine Sg.rev hp hb (fun r hr z => N (0, 1) (.inr ⟨rfl, by decide⟩) r hr ⟨cW hp z.1, cW hp z.2⟩) s (Sg.congr (agree (fun p q h1 h2 => by rw [(kI h1 h2).2, h2]) fun p hpq q hq r => ?_) (Sg.over hp ha hb (N d ld) (all d hd)))
 have lf := gJ r
 have ff : vec p q ∈ cw qs := dM.mpr ⟨p, hpq, q, hq, r, rfl⟩
 have z := md _ ff lf
 have r' : rk q p = false := by
  cases e : rk q p with
  | false => rfl
  | true => have := bD.tr _ _ _ r e; rw [bD.ir] at this; cases this
 rw [(fc r).2.2.1, (fc r).2.2.2, r, r']
 constructor
 ·rw [decide_eq_false_iff_not]; omega
 ·rw [decide_eq_true_eq]; omega
theorem AD (hp : Pos qs) (hAB : ∀ p ∈ qs, A p = true ∨ B p = true) (two : ∃ p ∈ qs, ∃ q ∈ qs, rk p q = true) : ∃ d, Lp d /\ ∃ r ∈ qs, Lev d A qs r /\ Lev d B qs r := by
 refine zAl fun hno => ?_
 have N : ∀ d, Lp d -> ∀ r ∈ qs, ¬ (Lev d A qs r /\ Lev d B qs r) := fun d hd r hr z => hno ⟨d, hd, r, hr, z⟩
 have l01 : Lp (0, 1) := .inr ⟨rfl, by decide⟩
 have none_lev : ∀ (C : Dt -> Bool), (¬ ∃ p ∈ qs, C p = true) -> ∀ r, Med rk C qs r := fun C hC r => by
  have z : ∀ P : Dt -> Bool, wq (fun x => C x && P x) qs = 0 := fun P => kO fun x hx => by
   cases e : C x with
   | false => rfl
   | true => exact absurd ⟨x, hx, e⟩ hC
  have := oN (f := C) hp
  unfold Med blw abv
  rw [z, z]
  omega
 have ha : ∃ p ∈ qs, A p = true := by
  refine zAl fun hA => ?_
  obtain ⟨p0, hp0, _⟩ := two
  have : ∃ p ∈ qs, B p = true := ⟨p0, hp0, (hAB p0 hp0).resolve_left fun z => hA ⟨p0, hp0, z⟩⟩
  obtain ⟨b, hb, _, mb⟩ := fb bD hp this
  exact N _ l01 b hb ⟨cW hp (none_lev A hA b), cW hp mb⟩
 have hb : ∃ p ∈ qs, B p = true := by
  refine zAl fun hB => ?_
  obtain ⟨b, hb, _, mb⟩ := fb bD hp ha
  exact N _ l01 b hb ⟨cW hp mb, cW hp (none_lev B hB b)⟩
 obtain ⟨p, hpq, _, mp⟩ := fb bD hp ha
 obtain ⟨b, hbq, _, mb⟩ := fb bD hp hb
 by_cases t : wq B qs < 2 * abv rk B qs p
 ·exact yO hp ha hb two N ⟨p, hpq, mp, t⟩
 ·refine yO hp hb ha two (fun d hd r hr z => N d hd r hr ⟨z.2, z.1⟩) ⟨b, hbq, mb, ?_⟩
  have nb : ¬ Med rk B qs p := fun z => N _ l01 p hpq ⟨cW hp mp, cW hp z⟩
  have na : ¬ Med rk A qs b := fun z => N _ l01 b hbq ⟨cW hp z, cW hp mb⟩
  unfold Med at nb na
  have tb : wq B qs < 2 * blw rk B qs p := by omega
  have bp : rk p b = false := by
   cases e : rk p b with
   | false => rfl
   | true =>
    have := jO (A := B) bD hp (p := p) (q := b) (by
     cases e' : rk b p with
     | false => rfl
     | true => have := bD.tr _ _ _ e e'; rw [bD.ir] at this; cases this)
    have := mb.1
    omega
  have := jO (A := A) bD hp (p := b) (q := p) bp
  have := mp.1
  omega
end
def tq (p q z : Dt) : Int := (q.1 - p.1) * (z.2.1 - p.2.1) - (q.2.1 - p.2.1) * (z.1 - p.1)
def tZ (A : Dt -> Bool) (qs : List Dt) (p q : Dt) : Prop := 2 * wq (fun z => A z && decide (0 < tq p q z)) qs <= wq A qs /\ 2 * wq (fun z => A z && decide (tq p q z < 0)) qs <= wq A qs
theorem rC (p q z : Dt) : tq p q z = dt2 (vec p q) (vec p z) := rfl
theorem sR {A : Dt -> Bool} {qs : List Dt} {d : Vc} {r q : Dt} (hp : Pos qs) (h : Lev d A qs r)
  (k : (∀ z ∈ qs, (0 < tq r q z -> 0 < dt2 d (vec r z)) /\ (tq r q z < 0 -> dt2 d (vec r z) < 0)) ∨ ∀ z ∈ qs, (0 < tq r q z -> dt2 d (vec r z) < 0) /\ (tq r q z < 0 -> 0 < dt2 d (vec r z))) : tZ A qs r q := by
 have hz : ∀ z, dt2 d (vec r z) = hh d z - hh d r := fun z => (jY d r z).symm
 obtain ⟨l1, l2⟩ := h
 rcases k with k | k
 ·have e1 : wq (fun z => A z && decide (0 < tq r q z)) qs <= wq (fun z => A z && decide (hh d r < hh d z)) qs := cU hp fun z hm x => by
   simp only [zAj, decide_eq_true_eq] at x ⊢
   have := (k z hm).1 x.2
   rw [hz] at this
   exact ⟨x.1, by omega⟩
  have e2 : wq (fun z => A z && decide (tq r q z < 0)) qs <= wq (fun z => A z && decide (hh d z < hh d r)) qs := cU hp fun z hm x => by
   simp only [zAj, decide_eq_true_eq] at x ⊢
   have := (k z hm).2 x.2
   rw [hz] at this
   exact ⟨x.1, by omega⟩
  exact ⟨by omega, by omega⟩
 ·have e1 : wq (fun z => A z && decide (0 < tq r q z)) qs <= wq (fun z => A z && decide (hh d z < hh d r)) qs := cU hp fun z hm x => by
   simp only [zAj, decide_eq_true_eq] at x ⊢
   have := (k z hm).1 x.2
   rw [hz] at this
   exact ⟨x.1, by omega⟩
  have e2 : wq (fun z => A z && decide (tq r q z < 0)) qs <= wq (fun z => A z && decide (hh d r < hh d z)) qs := cU hp fun z hm x => by
   simp only [zAj, decide_eq_true_eq] at x ⊢
   have := (k z hm).2 x.2
   rw [hz] at this
   exact ⟨x.1, by omega⟩
  exact ⟨by omega, by omega⟩
def sp2 (p : Dt) : Int × Int := (p.1, p.2.1)
theorem qY {p q : Dt} (h : sp2 p ≠ sp2 q) : rk p q = true ∨ rk q p = true := by
 simp only [rk, decide_eq_true_eq]
 have : ¬ (p.1 = q.1 /\ p.2.1 = q.2.1) := fun z => h (by unfold sp2; rw [z.1, z.2])
 omega
theorem mul_pos_iff {a b : Int} (h : 0 < a * b) (hb : 0 < b) : 0 < a := by
 by_cases q : 0 < a
 ·exact q
 ·have := zA9 (show 0 <= -a by omega) (show 0 <= b by omega)
  rw [zBZ] at this
  omega
theorem same_sign {X Y a b : Int} (ha : 0 < a) (hb : 0 < b) (e : X * a = Y * b) : (0 < X -> 0 < Y) /\ (X < 0 -> Y < 0) := by
 constructor
 ·intro h
  have := zBL h ha
  exact mul_pos_iff (b := b) (by omega) hb
 ·intro h
  have := zBL (show 0 < -X by omega) ha
  rw [zBZ] at this
  have := mul_pos_iff (a := -Y) (b := b) (by rw [zBZ]; omega) hb
  omega
theorem qQ {d v : Vc} {X Y : Int} (ld : Lp d) (lv : Lp v) (e0 : d.1 * v.2 - d.2 * v.1 = 0) (h1 : X * d.1 = Y * v.1) (h2 : X * d.2 = Y * v.2) : (0 < X -> 0 < Y) /\ (X < 0 -> Y < 0) := by
 obtain ⟨d1, d2⟩ := d
 obtain ⟨v1, v2⟩ := v
 simp only [Lp] at ld lv e0 h1 h2
 rcases ld with ld | ⟨rfl, ld⟩
 ·by_cases q : v1 = 0
  ·subst q
   have := zBL ld (show 0 < v2 by omega)
   omega
  ·exact same_sign ld (show 0 < v1 by omega) h1
 ·by_cases q : v1 = 0
  ·subst q
   exact same_sign ld (show 0 < v2 by omega) h2
  ·have := zBL ld (show 0 < v1 by omega)
   omega
def lft (d e : Vc) : Vc := if 0 < dt2 d e then e else (-e.1, -e.2)
theorem qk (d e : Vc) : dt2 d (-e.1, -e.2) = - dt2 d e := by simp only [dt2, zBw]; omega
theorem qj (d e : Vc) : dt2 (-e.1, -e.2) d = - dt2 e d := by simp only [dt2, zBZ]; omega
theorem nH {d e : Vc} (h : dt2 d e ≠ 0) : 0 < dt2 d (lft d e) := by
 unfold lft
 split
 ·assumption
 ·rw [qk]; omega
theorem za {d e f g : Vc} (he : 0 < dt2 d e) (hf : 0 < dt2 d f) (hg : 0 < dt2 d g) (h1 : 0 < dt2 e f) (h2 : 0 < dt2 f g) : 0 < dt2 e g := by
 have i : dt2 e g * dt2 d f = dt2 f g * dt2 d e + dt2 e f * dt2 d g := by
  obtain ⟨i1, i2⟩ := qi e f g
  have a : dt2 e g * dt2 d f = d.1 * (dt2 e g * f.2) - d.2 * (dt2 e g * f.1) := by
   show dt2 e g * (d.1 * f.2 - d.2 * f.1) = _
   rw [Int.mul_sub, zBg, zBg (dt2 e g) d.2]
  rw [a, i1, i2, Int.mul_add, Int.mul_add]
  show _ = dt2 f g * (d.1 * e.2 - d.2 * e.1) + dt2 e f * (d.1 * g.2 - d.2 * g.1)
  rw [Int.mul_sub, Int.mul_sub, zBg (dt2 f g) d.1, zBg (dt2 f g) d.2, zBg (dt2 e f) d.1, zBg (dt2 e f) d.2]
  omega
 have := zBL h2 he
 have := zBL h1 hg
 exact mul_pos_iff (b := dt2 d f) (by omega) hf
theorem ham {A B : Dt -> Bool} {qs : List Dt} (hp : Pos qs) (hAB : ∀ p ∈ qs, A p = true ∨ B p = true) (two : ∃ p ∈ qs, ∃ q ∈ qs, sp2 p ≠ sp2 q) : ∃ p ∈ qs, ∃ q ∈ qs, sp2 p ≠ sp2 q /\ tZ A qs p q /\ tZ B qs p q := by
 have two' : ∃ p ∈ qs, ∃ q ∈ qs, rk p q = true := by
  obtain ⟨p, h1, q, h2, h⟩ := two
  rcases qY h with r | r
  ·exact ⟨p, h1, q, h2, r⟩
  ·exact ⟨q, h2, p, h1, r⟩
 obtain ⟨d, ld, r, hr, la, lb⟩ := AD hp hAB two'
 suffices h : ∃ q ∈ qs, sp2 r ≠ sp2 q /\ ((∀ z ∈ qs, (0 < tq r q z -> 0 < dt2 d (vec r z)) /\ (tq r q z < 0 -> dt2 d (vec r z) < 0)) ∨ ∀ z ∈ qs, (0 < tq r q z -> dt2 d (vec r z) < 0) /\ (tq r q z < 0 -> 0 < dt2 d (vec r z))) by
  obtain ⟨q, hq, ne, k⟩ := h
  exact ⟨r, hr, q, hq, ne, sR hp la k, sR hp lb k⟩
 have off : ∃ q ∈ qs, sp2 r ≠ sp2 q := by
  obtain ⟨p, h1, q, h2, h⟩ := two
  by_cases e : sp2 r = sp2 p
  ·exact ⟨q, h2, by rw [e]; exact h⟩
  ·exact ⟨p, h1, e⟩
 by_cases on : ∃ q ∈ qs, sp2 r ≠ sp2 q /\ dt2 d (vec r q) = 0
 ·obtain ⟨q, hq, ne, e0⟩ := on
  refine ⟨q, hq, ne, ?_⟩
  have par : ∀ z, dt2 (vec r q) (vec r z) * d.1 = dt2 d (vec r z) * (vec r q).1 /\ dt2 (vec r q) (vec r z) * d.2 = dt2 d (vec r z) * (vec r q).2 := fun z => by
   obtain ⟨i1, i2⟩ := qi (vec r q) d (vec r z)
   have := cQ (vec r q) d
   have e : dt2 (vec r q) d = 0 := by omega
   rw [e] at i1 i2
   exact ⟨by omega, by omega⟩
  have nz : dt2 d (vec r q) = d.1 * (vec r q).2 - d.2 * (vec r q).1 := rfl
  rcases qY ne with k | k
  ·left
   intro z _
   rw [rC]
   exact qQ ld (gJ k) (by omega) (par z).1 (par z).2
  ·right
   intro z _
   rw [rC]
   have lv := gJ k
   have v1 : (vec q r).1 = -(vec r q).1 := by simp only [vec]; omega
   have v2 : (vec q r).2 = -(vec r q).2 := by simp only [vec]; omega
   have := qQ (X := -dt2 (vec r q) (vec r z)) (Y := dt2 d (vec r z)) ld lv (by rw [v1, v2, zBw, zBw]; omega) (by rw [v1, zBZ, zBw, (par z).1]) (by rw [v2, zBZ, zBw, (par z).2])
   constructor
   ·intro x; exact this.2 (by omega)
   ·intro x; exact this.1 (by omega)
 ·have on' : ∀ q ∈ qs, sp2 r ≠ sp2 q -> dt2 d (vec r q) ≠ 0 := fun q hq ne z => on ⟨q, hq, ne, z⟩
  obtain ⟨q, hq, nq, mq⟩ := sel (fun a b => 0 < dt2 (lft d (vec r a)) (lft d (vec r b))) (fun q : Dt => q ∈ qs /\ sp2 r ≠ sp2 q) (fun a b c x y z => za (nH (on' a x.1 x.2)) (nH (on' b y.1 y.2)) (nH (on' c z.1 z.2))) (fun a _ z => by have := cQ (lft d (vec r a)) (lft d (vec r a)); omega) qs (by obtain ⟨q, h1, h2⟩ := off; exact ⟨q, h1, h1, h2⟩)
  refine ⟨q, hq, nq.2, ?_⟩
  have side : ∀ z ∈ qs, (0 < dt2 (lft d (vec r q)) (vec r z) -> 0 < dt2 d (vec r z)) /\ (dt2 (lft d (vec r q)) (vec r z) < 0 -> dt2 d (vec r z) < 0) := fun z hz => by
   by_cases e : sp2 r = sp2 z
   ·have : vec r z = (0, 0) := by
     unfold sp2 at e
     simp only [zBe] at e
     simp only [vec, zBe]
     omega
    rw [this]
    simp only [dt2, zBm]
    omega
   ·have n1 := on' z hz e
    have n2 := mq z hz ⟨hz, e⟩
    have n3 := cQ (lft d (vec r z)) (lft d (vec r q))
    by_cases h : 0 < dt2 d (vec r z)
    ·have : lft d (vec r z) = vec r z := by unfold lft; rw [if_pos h]
     rw [this] at n2 n3
     omega
    ·have : lft d (vec r z) = (-(vec r z).1, -(vec r z).2) := by unfold lft; rw [if_neg h]
     rw [this, qk] at n3
     rw [this] at n2
     omega
  by_cases h : 0 < dt2 d (vec r q)
  ·left
   have e : lft d (vec r q) = vec r q := by unfold lft; rw [if_pos h]
   rw [e] at side
   exact side
  ·right
   have e : lft d (vec r q) = (-(vec r q).1, -(vec r q).2) := by unfold lft; rw [if_neg h]
   rw [e] at side
   intro z hz
   have := side z hz
   rw [qj] at this
   rw [rC]
   constructor
   ·intro x; exact this.2 (by omega)
   ·intro x; exact this.1 (by omega)
theorem tW (f : Dt -> Bool) (p : Dt) : ∀ qs : List Dt, wq f (qs ++ [p]) = wq f qs + if f p = true then p.2.2.2 else 0
 | [] => by simp [wq]
 | q :: r => by
  rw [zB2]
  unfold wq
  rw [tW f p r]
  omega
theorem kP (cs : Int -> Bool) (g0 g1 g2 s : Int) : ∀ ps : List Dt, wt cs g0 g1 g2 s ps = wq (fun z => cs z.2.2.1 && decide (sg (gv g0 g1 g2 z) = s)) ps
 | [] => rfl
 | p :: r => by
  have ih := kP cs g0 g1 g2 s r
  unfold wt w3 at ih ⊢
  unfold wq
  rw [<- ih]
  by_cases hc : cs p.2.2.1 = true
  ·rw [zBI (by simpa using hc), zAG, List.sum_cons]
   simp [hc]
  ·rw [zBH (by simpa using hc)]
   simp [hc]
theorem ko (cs : Int -> Bool) : ∀ ps : List Dt, tot cs ps = wq (fun z => cs z.2.2.1) ps
 | [] => rfl
 | p :: r => by
  have ih := ko cs r
  unfold tot at ih ⊢
  unfold wq
  rw [<- ih]
  by_cases hc : cs p.2.2.1 = true
  ·rw [zBI (by simpa using hc), zAG, List.sum_cons]
   simp [hc]
  ·rw [zBH (by simpa using hc)]
   simp [hc]
def b7 (k : Int) (z : Dt) : Bool := decide (z.2.2.1 = k)
def aZ (k : Int) (ps : List Dt) (p q : Dt) : Bool := decide (2 * wq (fun z => b7 k z && decide (0 < tq p q z)) ps <= wq (b7 k) ps /\ 2 * wq (fun z => b7 k z && decide (tq p q z < 0)) ps <= wq (b7 k) ps)
theorem ph {x y m : Int} (hm : 0 < m) (e : x * m = y) : (sg x = 1 ↔ 0 < y) /\ (sg x = -1 ↔ y < 0) := by
 subst e
 unfold sg
 by_cases h : 0 < x
 ·have := zBL h hm
  rw [if_pos h]
  omega
 ·rw [if_neg h]
  by_cases h' : x < 0
  ·have := zBL (show 0 < -x by omega) hm
   rw [zBZ] at this
   rw [if_pos h']
   omega
  ·have : x = 0 := by omega
   subst this
   simp
theorem vO {g0 g1 g2 m : Int} {p q : Dt} (hm : m ≠ 0) (hg : ∀ z, gv g0 g1 g2 z * m = tq p q z) (k : Int) (ps : List Dt) : decide (2 * max (wt (fun c => decide (c = k)) g0 g1 g2 (-1) ps) (wt (fun c => decide (c = k)) g0 g1 g2 1 ps) <= tot (fun c => decide (c = k)) ps) = aZ k ps p q := by
 unfold aZ
 rw [kP, kP, ko]
 show decide (2 * max _ _ <= wq (b7 k) ps) = _
 by_cases h : 0 < m
 ·have e1 : wq (fun z => decide (z.2.2.1 = k) && decide (sg (gv g0 g1 g2 z) = -1)) ps = wq (fun z => b7 k z && decide (tq p q z < 0)) ps := aL fun z _ => by
   rw [show decide (sg (gv g0 g1 g2 z) = -1) = decide (tq p q z < 0) from decide_eq_decide.mpr (ph h (hg z)).2]; rfl
  have e2 : wq (fun z => decide (z.2.2.1 = k) && decide (sg (gv g0 g1 g2 z) = 1)) ps = wq (fun z => b7 k z && decide (0 < tq p q z)) ps := aL fun z _ => by
   rw [show decide (sg (gv g0 g1 g2 z) = 1) = decide (0 < tq p q z) from decide_eq_decide.mpr (ph h (hg z)).1]; rfl
  rw [e1, e2]
  apply decide_eq_decide.mpr
  omega
 ·have hn : 0 < -m := by omega
  have sg' : ∀ z, (sg (gv g0 g1 g2 z) = 1 ↔ tq p q z < 0) /\ (sg (gv g0 g1 g2 z) = -1 ↔ 0 < tq p q z) := fun z => by
   have := ph (x := gv g0 g1 g2 z) (y := -tq p q z) hn (by rw [zBw, hg])
   omega
  have e1 : wq (fun z => decide (z.2.2.1 = k) && decide (sg (gv g0 g1 g2 z) = -1)) ps = wq (fun z => b7 k z && decide (0 < tq p q z)) ps := aL fun z _ => by
   rw [show decide (sg (gv g0 g1 g2 z) = -1) = decide (0 < tq p q z) from decide_eq_decide.mpr (sg' z).2]; rfl
  have e2 : wq (fun z => decide (z.2.2.1 = k) && decide (sg (gv g0 g1 g2 z) = 1)) ps = wq (fun z => b7 k z && decide (tq p q z < 0)) ps := aL fun z _ => by
   rw [show decide (sg (gv g0 g1 g2 z) = 1) = decide (tq p q z < 0) from decide_eq_decide.mpr (sg' z).1]; rfl
  rw [e1, e2]
  apply decide_eq_decide.mpr
  omega
def prs (n : Nat) : List (Nat × Nat) := (List.range' 0 n).flatMap fun i => (List.range' (i + 1) (n - (i + 1))).map fun k => (i, k)
def prD (ij : Nat × Nat) : D := .tup [.int ij.1, .int ij.2]
theorem iJ {a b : Nat × Nat} (h : prD a = prD b) : a = b := by
 unfold prD at h
 simp only [D.tup.injEq, zAD, D.int.injEq, and_true] at h
 obtain ⟨h1, h2⟩ := h
 exact zBx (by omega) (by omega)
theorem nM {a b : List (Nat × Nat)} (h : a.map prD = b.map prD) : a = b := map_inj iJ h
theorem gI (a : Nat × Nat) : aI (prD a) = prD a := by unfold prD; simp only [dE, bQ, cg, bN]
theorem mW (ps : List (Nat × Nat)) : aV (ps.map prD) = ps.map prD := fT prD gI ps
def prO : Option (Nat × Nat) -> D
 | none => .non
 | some ij => prD ij
theorem oJ (o : Option (Nat × Nat)) : aI (prO o) = prO o := by
 cases o with
 | none => exact gT
 | some a => exact gI a
def dI (pk : List Nat) : Nat := match pk.getLast? with
 | none => 0
 | some l => l + 1
def nxt (n : Nat) (pk : List Nat) : List (List Nat) := (List.range' (dI pk) (n - dI pk)).map fun k => pk ++ [k]
def lev (n : Nat) : Nat -> List (List Nat)
 | 0 => [[]]
 | j + 1 => (lev n j).flatMap (nxt n)
def pkD (pk : List Nat) : D := .lst true (pk.map fun (k : Nat) => D.int (k : Int))
theorem tw {n : Nat} : ∀ {j : Nat} {pk : List Nat}, pk ∈ lev n j -> pk.length = j /\ ∀ k ∈ pk, k < n
 | 0, pk, h => by
  simp only [lev, zA0] at h
  subst h
  simp
 | j + 1, pk, h => by
  simp only [lev, List.mem_flatMap] at h
  obtain ⟨q, hq, h⟩ := h
  obtain ⟨h1, h2⟩ := tw hq
  unfold nxt at h
  obtain ⟨k, hk, rfl⟩ := zAU.mp h
  rw [List.mem_range'_1] at hk
  refine ⟨by simp [h1], fun x hx => ?_⟩
  rcases zAW.mp hx with z | z
  ·exact h2 x z
  ·simp at z; subst z; omega
theorem iH (n : Nat) : ∀ j : Nat, (lev n j).length <= n ^ j
 | 0 => by simp [lev]
 | j + 1 => by
  have ih := iH n j
  simp only [lev]
  have : ∀ l : List (List Nat), (l.flatMap (nxt n)).length <= l.length * n := by
   intro l
   induction l with
   | nil => simp
   | cons a r ih =>
    rw [List.flatMap_cons, zAR, zAn, Nat.add_mul]
    have : (nxt n a).length <= n := by unfold nxt; rw [zAA, zAq]; omega
    omega
  refine zAX (this _) ?_
  rw [zA4]
  exact Nat.mul_le_mul_right _ ih
theorem uJ (n : Nat) : lev n 2 = (prs n).map fun ij => [ij.1, ij.2] := by
 have e1 : lev n 1 = (List.range' 0 n).map fun i => [i] := by
  simp [lev, nxt, dI]
 have e2 : lev n 2 = (lev n 1).flatMap (nxt n) := rfl
 rw [e2, e1, List.flatMap_map, prs, List.map_flatMap]
 congr 1
 funext i
 rw [zAg]
 rfl
theorem tQ (a b : Nat) : gh (a : Int) 1 (gk a b 1) = (List.range' a (b - a)).map fun (k : Nat) => D.int (k : Int) := by
 unfold gh
 rw [By, show ((b : Int) - (a : Int)).toNat = b - a by omega, List.range'_eq_map_range, zAg]
 apply List.map_congr_left
 intro k _
 simp
theorem fW {n i j : Nat} : (i, j) ∈ prs n ↔ i < j /\ j < n := by
 unfold prs
 simp only [List.mem_flatMap, zAU, List.mem_range'_1, zBe]
 constructor
 ·rintro ⟨a, ha, k, hk, rfl, rfl⟩; omega
 ·intro h; exact ⟨i, by omega, j, by omega, rfl, rfl⟩
def gp (ps : List Dt) (i : Nat) : Dt := ps.getD i (0, 0, 0, 0)
theorem vV {ps : List Dt} {i : Nat} (h : i < ps.length) : ps[i]? = some (gp ps i) := by unfold gp; simp [h]
theorem cn {ps : List Dt} {i : Nat} (h : i < ps.length) : gp ps i ∈ ps := zAV (vV h)
theorem gL {ps : List Dt} {i : Nat} (h : i < ps.length) {Q : D -> Prop} (q : Q (dtD (gp ps i))) : ∃ d, atI (ps.map dtD) (i : Int) = some d /\ Q d := by
 refine ⟨_, ?_, q⟩
 unfold atI ixN
 rw [zAA, if_pos (by omega), if_pos (by omega)]
 simp [vV h]
def inc (a b : Int) (p : Dt) : Bool := decide (p.2.2.1 = a) || decide (p.2.2.1 = b)
def uF (a b : Int) (ps : List Dt) (i j : Nat) : Bool := (decide (sp2 (gp ps i) ≠ sp2 (gp ps j)) && (inc a b (gp ps i) && inc a b (gp ps j))) && (aZ a ps (gp ps i) (gp ps j) && aZ b ps (gp ps i) (gp ps j))
def fpO (a b : Int) (ps : List Dt) : Option (Nat × Nat) := (prs ps.length).find? fun ij => uF a b ps ij.1 ij.2
theorem A8 (p q z : Dt) : tq q p z = - tq p q z := by
 have e1 : tq q p z = dt2 (vec q p) (vec q z) := rfl
 have e2 : vec q p = (-(vec p q).1, -(vec p q).2) := by simp only [vec, zBe]; omega
 have e3 : dt2 (vec p q) (vec q z) = dt2 (vec p q) (vec p z) := by
  have : ∀ d : Vc, dt2 d (vec q z) = dt2 d (vec p z) - dt2 d (vec p q) := fun d => by rw [<- jY, <- jY, <- jY]; omega
  rw [this]
  have := cQ (vec p q) (vec p q)
  omega
 rw [e1, e2, qj, e3]
 rfl
theorem qp (n : Nat) : ∀ l : List (List Nat), (l.flatMap (nxt n)).length <= l.length * n
 | [] => by simp
 | a :: r => by
  rw [List.flatMap_cons, zAR, zAn, Nat.add_mul]
  have := qp n r
  have : (nxt n a).length <= n := by unfold nxt; rw [zAA, zAq]; omega
  omega
theorem yT {pk : List Nat} (h : pk ≠ []) {Q : D -> Prop} (q : Q (.int ((dI pk : Nat) - 1 : Int))) : ∃ d, atI (pk.map fun (k : Nat) => D.int (k : Int)) (-1) = some d /\ Q d := by
 obtain ⟨r, l, rfl⟩ : ∃ r l, pk = r ++ [l] := ⟨pk.dropLast, pk.getLast h, (List.dropLast_concat_getLast h).symm⟩
 refine ⟨.int l, ?_, ?_⟩
 ·unfold atI ixN
  rw [zAA, zAR]
  have e : (-1 + ((r.length : Int) + 1)).toNat = r.length := by omega
  have l : (1 : Int) <= (r.length : Int) + 1 := by omega
  simp [e, l]
 ·have : ((dI (r ++ [l]) : Nat) : Int) - 1 = l := by
   unfold dI
   simp
  rw [<- this]
  exact q
theorem uY (n : Nat) : gh 0 1 (gk 0 (n : Int) 1) = (List.range' 0 n).map fun (k : Nat) => D.int (k : Int) := tQ 0 n
theorem kB {α : Type} {p : α -> Bool} : ∀ {xs : List α} {j : Nat} {x : α}, xs[j]? = some x -> (∀ y ∈ xs.take j, p y = false) -> p x = true -> xs.find? p = some x
 | [], _, _, h, _, _ => by simp at h
 | a :: r, 0, x, h, _, px => by
  simp at h
  subst h
  rw [zA2, px]
 | a :: r, j + 1, x, h, hn, px => by
  rw [zA2, hn a (by simp)]
  exact kB (by simpa using h) (fun y hy => hn y (by simp [hy])) px
theorem take_snoc {α : Type} {xs : List α} {j : Nat} {x y : α} (h : xs[j]? = some x) (hy : y ∈ xs.take (j + 1)) : y ∈ xs.take j ∨ y = x := by
 rw [zCH, h] at hy
 rcases zAW.mp hy with z | z
 ·exact .inl z
 ·simp at z; exact .inr z
def kp (p : Dt) : List Key := [.inl p.1, .inl p.2.1]
structure Met (a b : Int) (done : List Dt) (kvs : List (List Key × D)) : Prop where
 nd : (kvs.map (·.1)).Nodup
 mem : ∀ k, k ∈ kvs.map (·.1) ↔ ∃ p ∈ done, inc a b p = true /\ k = kp p
 len : kvs.length <= done.length
theorem BN {α : Type} (xs : List α) {m : Int} (h : 0 <= m) : (m8 xs none (some m)).length <= m.toNat := by
 unfold m8
 rw [zAc]
 have : HT.sIx xs.length xs.length (some m) <= m.toNat := by
  unfold HT.sIx
  simp only
  split
  ·omega
  ·omega
 omega
theorem Am (a b c d : Int) : eqD (.tup [.int a, .int b]) (.tup [.int c, .int d]) = decide (a = c /\ b = d) := by
 rw [sN, jU, jU, qn, fV, fV]
 by_cases h : a = c <;> by_cases h' : b = d <;> simp [h, h']
theorem j3 (a b : Int) : OkN 1 (.tup [.int a, .int b]) := OkN.tup (.cons (.int _ _) (.cons (.int _ _) (.nil _)))
theorem AG (p q : Dt) : (!eqD (.tup [.int p.1, .int p.2.1]) (.tup [.int q.1, .int q.2.1])) = decide (sp2 p ≠ sp2 q) := by
 rw [Am]
 unfold sp2
 by_cases h : p.1 = q.1 <;> by_cases h' : p.2.1 = q.2.1 <;> simp [h, h']
theorem p13 : ((10 : Int) ^ (13 : Int).toNat) = 10000000000000 := by decide
theorem Ad : pD 10 13 := ⟨by decide, by decide, by decide⟩
def hv (p : Dt) : Dt := (p.1, p.2.1, p.2.2.1, 9 * p.2.2.2)
theorem fL {α : Type} {p q : α -> Bool} : ∀ {xs : List α}, (∀ x ∈ xs, p x = q x) -> xs.find? p = xs.find? q
 | [], _ => rfl
 | a :: r, h => by
  rw [zA2, zA2, h a (by simp), fL fun x hx => h x (by simp [hx])]
def qf (f h : Dt -> Int) (a b : Int) (ps : List Dt) : Int := wq (fun z => decide (sg (f z) = a) && decide (sg (h z) = b)) ps
def WA (ps : List Dt) : Int := wq (fun _ => true) ps
def kC (f h : Dt -> Int) (ps : List Dt) : List Int := [qf f h (-1) (-1) ps, qf f h (-1) 1 ps, qf f h 1 (-1) ps, qf f h 1 1 ps]
def bg (f : Dt -> Int) (ps : List Dt) : Bool := decide (2 * qf f f (-1) (-1) ps <= WA ps /\ 2 * qf f f 1 1 ps <= WA ps)
def quB (f h : Dt -> Int) (ps : List Dt) : Bool := decide (4 * qf f h (-1) (-1) ps <= WA ps /\ 4 * qf f h (-1) 1 ps <= WA ps /\ 4 * qf f h 1 (-1) ps <= WA ps /\ 4 * qf f h 1 1 ps <= WA ps)
theorem A1 {x : Int} : sg x = 1 ↔ 0 < x := by unfold sg; split <;> (try split) <;> omega
theorem A0 {x : Int} : sg x = -1 ↔ x < 0 := by unfold sg; split <;> (try split) <;> omega
theorem kM {x y m : Int} (hm : 0 < m) (e : x * m = y) : sg x = sg y := by
 obtain ⟨h1, h2⟩ := ph hm e
 by_cases p : 0 < y
 ·rw [h1.mpr p, A1.mpr p]
 ·by_cases q : y < 0
  ·rw [h2.mpr q, A0.mpr q]
  ·have y0 : y = 0 := by omega
   have x0 : x = 0 := by
    rw [y0] at e
    rcases zBc.mp e with z | z
    ·exact z
    ·omega
   rw [x0, y0]
theorem nS {x y m : Int} (hm : m < 0) (e : x * m = y) : sg x = - sg y := by
 have h := kM (x := x) (y := -y) (m := -m) (by omega) (by rw [zBw, e])
 rw [h]
 unfold sg
 split <;> split <;> (try split) <;> (try split) <;> omega
theorem cz {f h f' h' : Dt -> Int} (h1 : ∀ z, sg (f z) = sg (f' z)) (h2 : ∀ z, sg (h z) = sg (h' z)) (a b : Int) (ps : List Dt) : qf f h a b ps = qf f' h' a b ps := aL fun z _ => by rw [h1 z, h2 z]
theorem kJ {f h f' : Dt -> Int} (h1 : ∀ z, sg (f z) = - sg (f' z)) (a b : Int) (ps : List Dt) : qf f h a b ps = qf f' h (-a) b ps := aL fun z _ => by
 rw [h1 z, show decide (-sg (f' z) = a) = decide (sg (f' z) = -a) from decide_eq_decide.mpr (by omega)]
theorem kK {f h h' : Dt -> Int} (h1 : ∀ z, sg (h z) = - sg (h' z)) (a b : Int) (ps : List Dt) : qf f h a b ps = qf f h' a (-b) ps := aL fun z _ => by
 rw [h1 z, show decide (-sg (h' z) = b) = decide (sg (h' z) = -b) from decide_eq_decide.mpr (by omega)]
theorem yI {f h f' : Dt -> Int} {m : Int} (hm : m ≠ 0) (e : ∀ z, f z * m = f' z) (ps : List Dt) : quB f h ps = quB f' h ps := by
 by_cases p : 0 < m
 ·have s := fun z => kM p (e z)
  unfold quB
  rw [cz s (fun _ => rfl), cz s (fun _ => rfl), cz s (fun _ => rfl), cz s (fun _ => rfl)]
 ·have s := fun z => nS (show m < 0 by omega) (e z)
  unfold quB
  rw [kJ s (-1) (-1), kJ s (-1) 1, kJ s 1 (-1), kJ s 1 1]
  apply decide_eq_decide.mpr
  simp only [Int.neg_neg]
  constructor
  ·rintro ⟨a, b, c, d⟩; exact ⟨c, d, a, b⟩
  ·rintro ⟨a, b, c, d⟩; exact ⟨c, d, a, b⟩
theorem yJ {f h h' : Dt -> Int} {m : Int} (hm : m ≠ 0) (e : ∀ z, h z * m = h' z) (ps : List Dt) : quB f h ps = quB f h' ps := by
 by_cases p : 0 < m
 ·have s := fun z => kM p (e z)
  unfold quB
  rw [cz (fun _ => rfl) s, cz (fun _ => rfl) s, cz (fun _ => rfl) s, cz (fun _ => rfl) s]
 ·have s := fun z => nS (show m < 0 by omega) (e z)
  unfold quB
  rw [kK s (-1) (-1), kK s (-1) 1, kK s 1 (-1), kK s 1 1]
  apply decide_eq_decide.mpr
  simp only [Int.neg_neg]
  constructor
  ·rintro ⟨a, b, c, d⟩; exact ⟨b, a, d, c⟩
  ·rintro ⟨a, b, c, d⟩; exact ⟨b, a, d, c⟩
theorem nC {f f' : Dt -> Int} {m : Int} (hm : m ≠ 0) (e : ∀ z, f z * m = f' z) (ps : List Dt) : bg f ps = bg f' ps := by
 by_cases p : 0 < m
 ·have s := fun z => kM p (e z)
  unfold bg
  rw [cz s s, cz s s]
 ·have s := fun z => nS (show m < 0 by omega) (e z)
  unfold bg
  rw [kJ s (-1) (-1), kJ s 1 1, kK s _ (-1), kK s _ 1]
  apply decide_eq_decide.mpr
  simp only [Int.neg_neg]
  exact and_comm
theorem Bw (f : Dt -> Int) (ps : List Dt) : qf f f 1 1 ps = wq (fun z => decide (0 < f z)) ps := aL fun z _ => by
 rw [Bool.and_self]
 exact decide_eq_decide.mpr A1
theorem Bv (f : Dt -> Int) (ps : List Dt) : qf f f (-1) (-1) ps = wq (fun z => decide (f z < 0)) ps := aL fun z _ => by
 rw [Bool.and_self]
 exact decide_eq_decide.mpr A0
theorem wg (g0 g1 g2 : Int) (ps : List Dt) : decide (2 * max (wt (fun _ => true) g0 g1 g2 (-1) ps) (wt (fun _ => true) g0 g1 g2 1 ps) <= tot (fun _ => true) ps) = bg (gv g0 g1 g2) ps := by
 have e : ∀ s, wt (fun _ => true) g0 g1 g2 s ps = qf (gv g0 g1 g2) (gv g0 g1 g2) s s ps := fun s => by
  rw [kP]
  exact aL fun z _ => by simp
 have et : tot (fun _ => true) ps = WA ps := ko _ _
 unfold bg
 rw [e, e, et]
 apply decide_eq_decide.mpr
 omega
def tqf (ps : List Dt) (ij : Nat × Nat) : Dt -> Int := tq (gp ps ij.1) (gp ps ij.2)
def sps (ps : List Dt) : List (Nat × Nat) := (prs ps.length).filter fun ij => decide (sp2 (gp ps ij.1) ≠ sp2 (gp ps ij.2))
theorem dA {ps : List Dt} {ij : Nat × Nat} : ij ∈ sps ps ↔ ij.1 < ij.2 /\ ij.2 < ps.length /\ sp2 (gp ps ij.1) ≠ sp2 (gp ps ij.2) := by
 unfold sps
 rw [zBJ, decide_eq_true_eq]
 have := fW (n := ps.length) (i := ij.1) (j := ij.2)
 constructor
 ·rintro ⟨a, b⟩; exact ⟨(this.mp a).1, (this.mp a).2, b⟩
 ·rintro ⟨a, b, c⟩; exact ⟨this.mpr ⟨a, b⟩, c⟩
def cj (ps : List Dt) : Option (Nat × Nat) := (sps ps).find? fun ij => bg (tqf ps ij) ps
def fX (ps : List Dt) (ij : Nat × Nat) : Option (Nat × Nat) := (sps ps).find? fun kl => quB (tqf ps ij) (tqf ps kl) ps
theorem zE {ps : List Dt} {p q : Dt} (hp : p ∈ ps) (hq : q ∈ ps) (ne : sp2 p ≠ sp2 q) : ∃ kl ∈ sps ps, ∃ m : Int, m ≠ 0 /\ ∀ z, tq p q z * m = tqf ps kl z := by
 obtain ⟨i, hi, ei⟩ := zAr hp
 obtain ⟨j, hj, ej⟩ := zAr hq
 have gi : gp ps i = p := by unfold gp; simp [hi, ei]
 have gj : gp ps j = q := by unfold gp; simp [hj, ej]
 have ij : i ≠ j := fun z => by subst z; rw [gi] at gj; subst gj; exact ne rfl
 by_cases l : i < j
 ·refine ⟨(i, j), dA.mpr ⟨l, hj, by rw [gi, gj]; exact ne⟩, 1, by decide, fun z => ?_⟩
  unfold tqf
  rw [gi, gj, Int.mul_one]
 ·refine ⟨(j, i), dA.mpr ⟨by omega, hi, by rw [gi, gj]; exact Ne.symm ne⟩, -1, by decide, fun z => ?_⟩
  unfold tqf
  rw [gi, gj, A8 p q z]
  omega
theorem ex1 {ps : List Dt} (hp : Pos ps) (h : sps ps ≠ []) : ∃ ij, cj ps = some ij := by
 obtain ⟨ab, hab⟩ := List.exists_mem_of_ne_nil _ h
 obtain ⟨a1, a2, a3⟩ := dA.mp hab
 obtain ⟨p, hpm, q, hqm, ne, fa, _⟩ := ham (A := fun _ => true) (B := fun _ => true) hp (fun _ _ => .inl rfl) ⟨_, cn (Nat.lt_trans a1 a2), _, cn a2, a3⟩
 obtain ⟨kl, hk, m, hm, e⟩ := zE hpm hqm ne
 have ff : bg (tqf ps kl) ps = true := by
  rw [<- nC hm e]
  unfold bg
  rw [Bw, Bv]
  unfold tZ at fa
  simp only [Bool.true_and] at fa
  exact decide_eq_true ⟨fa.2, fa.1⟩
 have : (cj ps).isSome = true := by
  unfold cj
  rw [List.find?_isSome]
  exact ⟨kl, hk, ff⟩
 exact Option.isSome_iff_exists.mp this
theorem BX {f h : Dt -> Int} {ps : List Dt} {m : Int} (h1 : m ∈ kC f h ps) (h2 : ∀ n ∈ kC f h ps, n <= m) : decide (4 * m <= WA ps) = quB f h ps := by
 unfold quB kC at *
 simp only [zAN, zBP, or_false] at h1
 have a := h2 _ (zAK ..)
 have b := h2 (qf f h (-1) 1 ps) (by simp)
 have c := h2 (qf f h 1 (-1) ps) (by simp)
 have d := h2 (qf f h 1 1 ps) (by simp)
 apply decide_eq_decide.mpr
 rcases h1 with e | e | e | e <;> omega
def dT4 (a b c d : Int) : List (List Key × D) := [([.inl (-1), .inl (-1)], .int a), ([.inl (-1), .inl 1], .int b), ([.inl 1, .inl (-1)], .int c), ([.inl 1, .inl 1], .int d)]
theorem pu1 (a b c d x : Int) : putD (dT4 a b c d) [Sum.inl (-1), Sum.inl (-1)] (.int x) = dT4 x b c d := rfl
theorem pu2 (a b c d x : Int) : putD (dT4 a b c d) [Sum.inl (-1), Sum.inl 1] (.int x) = dT4 a x c d := rfl
theorem pu3 (a b c d x : Int) : putD (dT4 a b c d) [Sum.inl 1, Sum.inl (-1)] (.int x) = dT4 a b x d := rfl
theorem pu4 (a b c d x : Int) : putD (dT4 a b c d) [Sum.inl 1, Sum.inl 1] (.int x) = dT4 a b c x := rfl
theorem wH (ij : Nat × Nat) : OkN 1 (prD ij) := j3 _ _
def ld (c1 c2 : Int) : Int := if c1 = 0 then c2 else c1
abbrev Tr := Int × Int × Int
def trD (h : Tr) : D := T3 h.1 h.2.1 h.2.2
def qW (x y z : Int) : Tr := (x.fdiv (PM.dv3 x y z (ld y z)), y.fdiv (PM.dv3 x y z (ld y z)), z.fdiv (PM.dv3 x y z (ld y z)))
def lnF (p q : Dt) : Tr := qW (p.1 * q.2.1 - q.1 * p.2.1) (p.2.1 * 1 - q.2.1 * 1) (1 * q.1 - 1 * p.1)
structure NF (g : Tr) : Prop where
 sgn : 0 < g.2.1 ∨ (g.2.1 = 0 /\ 0 < g.2.2)
 one : PM.g3 g.1 g.2.1 g.2.2 = 1
structure LF (g : Tr) (p q : Dt) : Prop where
 b0 : Bd 1000 g.1
 b1 : Bd 1000 g.2.1
 b2 : Bd 1000 g.2.2
 nf : NF g
 ex : ∃ m : Int, m ≠ 0 /\ ∀ z, gv g.1 g.2.1 g.2.2 z * m = tq p q z
theorem Be (g : Int) : Int.fdiv 0 g = 0 := by simp
theorem uL {p q : Dt} (hp : GD p) (hq : GD q) (ne : sp2 p ≠ sp2 q) : LF (lnF p q) p q := by
 have hz : ¬ (p.2.1 * 1 - q.2.1 * 1 = 0 /\ 1 * q.1 - 1 * p.1 = 0) := fun ⟨e1, e2⟩ => ne (by unfold sp2; rw [zBe]; omega)
 have one : Bd 200 1 := Bd.mono (m := 2) (by unfold Bd; decide) (by decide)
 have B0 := bO (hp.x.mono (show 60 <= 200 by decide)) (hq.y.mono (show 60 <= 200 by decide)) (hq.x.mono (show 60 <= 200 by decide)) (hp.y.mono (show 60 <= 200 by decide))
 have B1 := bO (hp.y.mono (show 60 <= 200 by decide)) one (hq.y.mono (show 60 <= 200 by decide)) one
 have B2 := bO one (hq.x.mono (show 60 <= 200 by decide)) one (hp.x.mono (show 60 <= 200 by decide))
 have hex : ∀ z : Dt, (p.1 * q.2.1 - q.1 * p.2.1) + (p.2.1 * 1 - q.2.1 * 1) * z.1 + (1 * q.1 - 1 * p.1) * z.2.1 = tq p q z := fun z => by unfold tq; grind
 unfold lnF qW
 generalize p.1 * q.2.1 - q.1 * p.2.1 = x at *
 generalize p.2.1 * 1 - q.2.1 * 1 = y at *
 generalize 1 * q.1 - 1 * p.1 = w at *
 have hz' : ¬ (x = 0 /\ y = 0 /\ w = 0) := fun z => hz z.2
 have dn : ∀ l, PM.dv3 x y w l ≠ 0 := fun l => PM.l9 hz'
 refine ⟨dY (dn _) (PM.d4 (PM.jW _ _ _)) B0, dY (dn _) (PM.d4 (PM.i6 _ _ _)) B1, dY (dn _) (PM.d4 (PM.i7 _ _ _)) B2, ⟨?_, PM.AY hz'⟩, PM.dv3 x y w (ld y w), dn _, fun z => ?_⟩
 ·by_cases hy : y = 0
  ·have hzz : w ≠ 0 := fun e => hz ⟨hy, e⟩
   right
   unfold ld
   rw [if_pos hy]
   exact ⟨by show y.fdiv _ = 0; rw [hy]; exact Be _, PM.tN hzz (PM.i7 _ _ _) hz'⟩
  ·left
   unfold ld
   rw [if_neg hy]
   exact PM.tN hy (PM.i6 _ _ _) hz'
 ·have e1 := PM.cA (l := ld y w) (PM.jW x y w)
  have e2 := PM.cA (l := ld y w) (PM.i6 x y w)
  have e3 := PM.cA (l := ld y w) (PM.i7 x y w)
  rw [<- hex z]
  unfold gv
  dsimp only
  rw [Int.add_mul, Int.add_mul, e1, zAu, e2, zAu, e3]
theorem qr (k x y z : Int) : PM.g3 (k * x) (k * y) (k * z) = k.natAbs * PM.g3 x y z := by
 unfold PM.g3
 rw [Int.gcd_mul_left]
 have e : ((k.natAbs * Int.gcd x y : Nat) : Int) = (k.natAbs : Int) * (Int.gcd x y : Int) := Int.natCast_mul _ _
 rw [e]
 unfold Int.gcd
 simp only [Int.natAbs_mul, Int.natAbs_natCast]
 exact Nat.gcd_mul_left _ _ _
theorem wD {g h : Tr} {a b : Int} (G : NF g) (H : NF h) (a0 : a ≠ 0) (e0 : a * g.1 = b * h.1) (e1 : a * g.2.1 = b * h.2.1) (e2 : a * g.2.2 = b * h.2.2) : g = h := by
 have ab : a.natAbs = b.natAbs := by
  have x := qr a g.1 g.2.1 g.2.2
  rw [e0, e1, e2, qr b, G.one, H.one] at x
  omega
 have cases : a = b ∨ a = -b := by omega
 have fin : ∀ {x y : Int}, a * x = a * y -> x = y := fun h => Int.eq_of_mul_eq_mul_left a0 h
 rcases cases with e | e
 ·subst e
  exact zBx (fin e0) (zBx (fin e1) (fin e2))
 ·have f : ∀ {x y : Int}, a * x = b * y -> x = -y := fun {x y} h => fin (by rw [h, e, Int.neg_mul_neg])
  have s1 := f e1
  have s2 := f e2
  have := G.sgn
  have := H.sgn
  omega
theorem y9 {g h : Tr} {a b : Int} (e : ∀ z : Dt, a * gv g.1 g.2.1 g.2.2 z = b * gv h.1 h.2.1 h.2.2 z) : a * g.1 = b * h.1 /\ a * g.2.1 = b * h.2.1 /\ a * g.2.2 = b * h.2.2 := by
 have e1 := e (0, 0, 0, 0)
 have e2 := e (1, 0, 0, 0)
 have e3 := e (0, 1, 0, 0)
 unfold gv at e1 e2 e3
 simp only [zBm, Int.mul_one, Int.add_zero, Int.mul_add] at e1 e2 e3
 omega
structure Mp where
 (a b c d e f : Int)
def Mp.det (M : Mp) : Int := M.a * M.d - M.b * M.c
def Mp.to (M : Mp) (z : Dt) : Dt := (M.a * z.1 + M.b * z.2.1 + M.e, M.c * z.1 + M.d * z.2.1 + M.f, z.2.2.1, z.2.2.2)
theorem eW (M : Mp) (p q z : Dt) : tq (M.to p) (M.to q) (M.to z) = M.det * tq p q z := by
 unfold tq Mp.to Mp.det
 grind
theorem u9 {M : Mp} (h : M.det ≠ 0) (p q : Dt) : sp2 (M.to p) = sp2 (M.to q) ↔ sp2 p = sp2 q := by
 unfold sp2 Mp.to
 simp only [zBe]
 constructor
 ·rintro ⟨e1, e2⟩
  have x : M.det * (p.1 - q.1) = M.d * (M.a * p.1 + M.b * p.2.1 + M.e - (M.a * q.1 + M.b * q.2.1 + M.e)) - M.b * (M.c * p.1 + M.d * p.2.1 + M.f - (M.c * q.1 + M.d * q.2.1 + M.f)) := by unfold Mp.det; grind
  have y : M.det * (p.2.1 - q.2.1) = M.a * (M.c * p.1 + M.d * p.2.1 + M.f - (M.c * q.1 + M.d * q.2.1 + M.f)) - M.c * (M.a * p.1 + M.b * p.2.1 + M.e - (M.a * q.1 + M.b * q.2.1 + M.e)) := by unfold Mp.det; grind
  rw [e1, e2, zBy, zBy, zBm, zBm, zBy] at x
  rw [e1, e2, zBy, zBy, zBm, zBm, zBy] at y
  rcases zBc.mp x with q1 | q1
  ·exact absurd q1 h
  ·rcases zBc.mp y with q2 | q2
   ·exact absurd q2 h
   ·omega
 ·rintro ⟨e1, e2⟩
  rw [e1, e2]
  exact ⟨rfl, rfl⟩
theorem Bg {M : Mp} (h : M.det ≠ 0) {g k : Tr} {a b : Int} (e : ∀ z : Dt, a * gv g.1 g.2.1 g.2.2 (M.to z) = b * gv k.1 k.2.1 k.2.2 (M.to z)) : a * g.1 = b * k.1 /\ a * g.2.1 = b * k.2.1 /\ a * g.2.2 = b * k.2.2 := by
 have e1 := e (0, 0, 0, 0)
 have e2 := e (1, 0, 0, 0)
 have e3 := e (0, 1, 0, 0)
 unfold gv Mp.to at e1 e2 e3
 simp only [zBm, Int.mul_one, Int.zero_add, Int.add_zero] at e1 e2 e3
 generalize eu : a * g.2.1 - b * k.2.1 = u
 generalize ev : a * g.2.2 - b * k.2.2 = v
 have f1 : M.a * u + M.c * v = 0 := by rw [<- eu, <- ev]; grind
 have f2 : M.b * u + M.d * v = 0 := by rw [<- eu, <- ev]; grind
 have u0 : M.det * u = 0 := by
  have : M.det * u = M.d * (M.a * u + M.c * v) - M.c * (M.b * u + M.d * v) := by unfold Mp.det; grind
  rw [this, f1, f2]; simp
 have v0 : M.det * v = 0 := by
  have : M.det * v = M.a * (M.b * u + M.d * v) - M.b * (M.a * u + M.c * v) := by unfold Mp.det; grind
  rw [this, f1, f2]; simp
 have u1 : u = 0 := (zBc.mp u0).resolve_left h
 have v1 : v = 0 := (zBc.mp v0).resolve_left h
 subst u1 v1
 refine ⟨?_, by omega, by omega⟩
 have g1 : a * g.2.1 = b * k.2.1 := by omega
 have g2 : a * g.2.2 = b * k.2.2 := by omega
 have : a * g.1 - b * k.1 = a * (g.1 + g.2.1 * M.e + g.2.2 * M.f) - b * (k.1 + k.2.1 * M.e + k.2.2 * M.f) - M.e * (a * g.2.1 - b * k.2.1) - M.f * (a * g.2.2 - b * k.2.2) := by grind
 rw [e1, g1, g2] at this
 simp only [zBy, zBm] at this
 omega
theorem Bk {M : Mp} (h : M.det ≠ 0) {p q p' q' : Dt} {g k G K : Tr} (a : LF g p q) (b : LF k p' q') (A : LF G (M.to p) (M.to q)) (B : LF K (M.to p') (M.to q')) (e : g = k) : G = K := by
 subst e
 obtain ⟨m, m0, em⟩ := a.ex
 obtain ⟨n, n0, en⟩ := b.ex
 obtain ⟨u, u0, eu⟩ := A.ex
 obtain ⟨v, v0, ev⟩ := B.ex
 have al : ∀ z, n * u * gv G.1 G.2.1 G.2.2 (M.to z) = m * v * gv K.1 K.2.1 K.2.2 (M.to z) := fun z => by
  have x := eu (M.to z)
  have y := ev (M.to z)
  rw [eW, <- em z] at x
  rw [eW, <- en z] at y
  have : n * u * gv G.1 G.2.1 G.2.2 (M.to z) = n * (gv G.1 G.2.1 G.2.2 (M.to z) * u) := by grind
  rw [this, x]
  have : m * v * gv K.1 K.2.1 K.2.2 (M.to z) = m * (gv K.1 K.2.1 K.2.2 (M.to z) * v) := by grind
  rw [this, y]
  grind
 obtain ⟨e0, e1, e2⟩ := Bg h al
 exact wD A.nf B.nf (zBs n0 u0) e0 e1 e2
theorem zj {M : Mp} (h : M.det ≠ 0) {p q p' q' : Dt} {g k G K : Tr} (a : LF g p q) (b : LF k p' q') (A : LF G (M.to p) (M.to q)) (B : LF K (M.to p') (M.to q')) (e : G = K) : g = k := by
 subst e
 obtain ⟨m, m0, em⟩ := a.ex
 obtain ⟨n, n0, en⟩ := b.ex
 obtain ⟨u, u0, eu⟩ := A.ex
 obtain ⟨v, v0, ev⟩ := B.ex
 have al : ∀ z, v * m * gv g.1 g.2.1 g.2.2 z = u * n * gv k.1 k.2.1 k.2.2 z := fun z => by
  have x := eu (M.to z)
  have y := ev (M.to z)
  rw [eW, <- em z] at x
  rw [eW, <- en z] at y
  have t : M.det * (v * m * gv g.1 g.2.1 g.2.2 z) = M.det * (u * n * gv k.1 k.2.1 k.2.2 z) := by
   have t1 : M.det * (v * m * gv g.1 g.2.1 g.2.2 z) = v * (M.det * (gv g.1 g.2.1 g.2.2 z * m)) := by grind
   have t2 : M.det * (u * n * gv k.1 k.2.1 k.2.2 z) = u * (M.det * (gv k.1 k.2.1 k.2.2 z * n)) := by grind
   rw [t1, t2, <- x, <- y]
   grind
  exact Int.eq_of_mul_eq_mul_left h t
 obtain ⟨e0, e1, e2⟩ := y9 al
 exact wD a.nf b.nf (zBs v0 m0) e0 e1 e2
theorem cG (M : Mp) (f : Dt -> Bool) : ∀ ps : List Dt, wq f (ps.map M.to) = wq (fun z => f (M.to z)) ps
 | [] => rfl
 | p :: r => by
  rw [zAG]
  unfold wq
  rw [cG M f r]
  rfl
theorem eP (M : Mp) {ps : List Dt} {i : Nat} (h : i < ps.length) : gp (ps.map M.to) i = M.to (gp ps i) := by
 unfold gp
 rw [zBN, zBN, zAO, zAH h]
 rfl
theorem qo {M : Mp} (h : M.det ≠ 0) (k : Int) (ps : List Dt) (p q : Dt) : aZ k (ps.map M.to) (M.to p) (M.to q) = aZ k ps p q := by
 unfold aZ
 rw [cG, cG, cG]
 have c : (fun z => b7 k (M.to z)) = b7 k := rfl
 rw [c]
 apply decide_eq_decide.mpr
 rcases Int.lt_or_gt_of_ne h with d | d
 ·have e1 : wq (fun z => b7 k (M.to z) && decide (0 < tq (M.to p) (M.to q) (M.to z))) ps = wq (fun z => b7 k z && decide (tq p q z < 0)) ps := aL fun z _ => by
   rw [eW]
   have : (0 < M.det * tq p q z) ↔ tq p q z < 0 := by
    constructor
    ·intro w
     by_cases t : tq p q z < 0
     ·exact t
     ·have := zA9 (show 0 <= -M.det by omega) (show 0 <= tq p q z by omega)
      rw [zBZ] at this
      omega
    ·intro t; exact zCA d t
   rw [decide_eq_decide.mpr this]
   rfl
  have e2 : wq (fun z => b7 k (M.to z) && decide (tq (M.to p) (M.to q) (M.to z) < 0)) ps = wq (fun z => b7 k z && decide (0 < tq p q z)) ps := aL fun z _ => by
   rw [eW]
   have : (M.det * tq p q z < 0) ↔ 0 < tq p q z := by
    constructor
    ·intro w
     by_cases t : 0 < tq p q z
     ·exact t
     ·have := zA9 (show 0 <= -M.det by omega) (show 0 <= -tq p q z by omega)
      rw [Int.neg_mul_neg] at this
      omega
    ·intro t; exact zB9 d t
   rw [decide_eq_decide.mpr this]
   rfl
  rw [e1, e2]
  exact and_comm
 ·have e1 : wq (fun z => b7 k (M.to z) && decide (0 < tq (M.to p) (M.to q) (M.to z))) ps = wq (fun z => b7 k z && decide (0 < tq p q z)) ps := aL fun z _ => by
   rw [eW]
   have : (0 < M.det * tq p q z) ↔ 0 < tq p q z := by
    constructor
    ·intro w
     by_cases t : 0 < tq p q z
     ·exact t
     ·have := zA9 (show 0 <= M.det by omega) (show 0 <= -tq p q z by omega)
      rw [zBw] at this
      omega
    ·intro t; exact zBL d t
   rw [decide_eq_decide.mpr this]
   rfl
  have e2 : wq (fun z => b7 k (M.to z) && decide (tq (M.to p) (M.to q) (M.to z) < 0)) ps = wq (fun z => b7 k z && decide (tq p q z < 0)) ps := aL fun z _ => by
   rw [eW]
   have : (M.det * tq p q z < 0) ↔ tq p q z < 0 := by
    constructor
    ·intro w
     by_cases t : tq p q z < 0
     ·exact t
     ·have := zA9 (show 0 <= M.det by omega) (show 0 <= tq p q z by omega)
      omega
    ·intro t; exact Int.mul_neg_of_pos_of_neg d t
   rw [decide_eq_decide.mpr this]
   rfl
  rw [e1, e2]
theorem Ao {M : Mp} (h : M.det ≠ 0) (a b : Int) (ps : List Dt) : fpO a b (ps.map M.to) = fpO a b ps := by
 unfold fpO
 rw [zAA]
 refine fL fun ij hij => ?_
 have m := fW.mp (show (ij.1, ij.2) ∈ prs ps.length from hij)
 unfold uF
 rw [eP M (show ij.1 < ps.length by omega), eP M m.2, qo h, qo h]
 have e : decide (sp2 (M.to (gp ps ij.1)) ≠ sp2 (M.to (gp ps ij.2))) = decide (sp2 (gp ps ij.1) ≠ sp2 (gp ps ij.2)) := decide_eq_decide.mpr (not_congr (u9 h _ _))
 rw [e]
 rfl
theorem mU {M : Mp} (h : M.det ≠ 0) (ps : List Dt) : sps (ps.map M.to) = sps ps := by
 unfold sps
 rw [zAA]
 refine List.filter_congr fun ij hij => ?_
 have m := fW.mp (show (ij.1, ij.2) ∈ prs ps.length from hij)
 rw [eP M (show ij.1 < ps.length by omega), eP M m.2]
 exact decide_eq_decide.mpr (not_congr (u9 h _ _))
theorem rD {M : Mp} {ps : List Dt} {ij : Nat × Nat} (hij : ij ∈ sps ps) (z : Dt) : tqf ps ij z * M.det = tqf (ps.map M.to) ij (M.to z) := by
 obtain ⟨a, b, _⟩ := dA.mp hij
 unfold tqf
 rw [eP M (show ij.1 < ps.length by omega), eP M b, eW, zBK]
theorem AW {M : Mp} (h : M.det ≠ 0) {ps : List Dt} {ij kl : Nat × Nat} (h1 : ij ∈ sps ps) (h2 : kl ∈ sps ps) : quB (tqf (ps.map M.to) ij) (tqf (ps.map M.to) kl) (ps.map M.to) = quB (tqf ps ij) (tqf ps kl) ps := by
 rw [yI h (fun z => rD h1 z), yJ h (fun z => rD h2 z)]
 unfold quB qf WA
 rw [cG, cG, cG, cG, cG]
theorem xy {M : Mp} (h : M.det ≠ 0) {ps : List Dt} {ij : Nat × Nat} (h1 : ij ∈ sps ps) : bg (tqf (ps.map M.to) ij) (ps.map M.to) = bg (tqf ps ij) ps := by
 rw [nC h (fun z => rD h1 z)]
 unfold bg qf WA
 rw [cG, cG, cG]
def cb (ps : List Dt) : List Tr := (sps ps).map fun ij => lnF (gp ps ij.1) (gp ps ij.2)
def wl (ps : List Dt) (g : Tr) (s : Int) : Int := wt (fun _ => true) g.1 g.2.1 g.2.2 s ps
def dZ (ps : List Dt) (g : Tr) : Tr := (wl ps g 0, min (wl ps g (-1)) (wl ps g 1), max (wl ps g (-1)) (wl ps g 1))
def uK (p q : Tr) : Prop := p.1 < q.1 ∨ (p.1 = q.1 /\ (p.2.1 < q.2.1 ∨ (p.2.1 = q.2.1 /\ p.2.2 < q.2.2)))
def bJ (ys ls : List Tr) : Prop := ys.Pairwise uK /\ ∀ g, g ∈ ys ↔ g ∈ ls
theorem bJ.nd {ys ls : List Tr} (h : bJ ys ls) : ys.Nodup := h.1.imp fun {p q} r e => by subst e; unfold uK at r; omega
theorem pP {α β γ : Type} [DecidableEq β] {R : α -> β -> Prop} {f : α -> γ} {f' : β -> γ} : ∀ {L : List α} {L' : List β}, L.Nodup -> L'.Nodup -> (∀ a ∈ L, ∃ b ∈ L', R a b) -> (∀ b ∈ L', ∃ a ∈ L, R a b) -> (∀ a b b', R a b -> R a b' -> b = b') -> (∀ a a' b, R a b -> R a' b -> a = a') -> (∀ a b, R a b -> f a = f' b) -> (L.map f).Perm (L'.map f')
 | [], L', _, _, _, h2, _, _, _ => by
  cases L' with
  | nil => exact .nil
  | cons b r => obtain ⟨a, ha, _⟩ := h2 b zAK; cases ha
 | a :: L, L', n1, n2, h1, h2, u1, u2, hf => by
  obtain ⟨b, hb, r⟩ := h1 a zAK
  obtain ⟨na, nl⟩ := zBd.mp n1
  have ih := pP (R := R) (f := f) (f' := f') (L := L) (L' := L'.erase b) nl (n2.erase b) (fun c hc => ?_) (fun c hc => ?_) u1 u2 hf
  ·rw [zAG, hf a b r]
   exact ((ih.cons (f' b)).trans (List.Perm.of_eq (by rw [zAG]))).trans ((List.perm_cons_erase hb).map f').symm
  ·obtain ⟨d, hd, rd⟩ := h1 c (zAI _ hc)
   refine ⟨d, (List.mem_erase_of_ne ?_).mpr hd, rd⟩
   intro e
   subst e
   rw [u2 _ _ _ rd r] at hc
   exact na hc
  ·have hc' := List.mem_of_mem_erase hc
   obtain ⟨d, hd, rd⟩ := h2 c hc'
   rcases zAN.mp hd with e | e
   ·subst e
    rw [u1 _ _ _ rd r] at hc
    exact absurd hc (n2.not_mem_erase)
   ·exact ⟨d, e, rd⟩
theorem wR {a b x y : Int} (ha : a ≠ 0) (hb : b ≠ 0) (e : x * a = y * b) : (∃ s : Int, (s = 1 ∨ s = -1) /\ (0 < a * b -> s = 1) /\ (a * b < 0 -> s = -1) /\ sg x = s * sg y) := by
 have key : ∀ {u : Int}, (0 < u ↔ sg u = 1) /\ (u < 0 ↔ sg u = -1) /\ (u = 0 ↔ sg u = 0) := fun {u} => by unfold sg; split <;> (try split) <;> omega
 have mp : ∀ {u v : Int}, v ≠ 0 -> (0 < u * v ↔ (0 < u /\ 0 < v) ∨ (u < 0 /\ v < 0)) /\ (u * v < 0 ↔ (0 < u /\ v < 0) ∨ (u < 0 /\ 0 < v)) := fun {u v} hv => by
  rcases Int.lt_trichotomy u 0 with k | k | k
  ·rcases Int.lt_or_gt_of_ne hv with w | w
   ·have := zCA k w; omega
   ·have := zB9 k w; omega
  ·subst k; rw [Int.zero_mul]; omega
  ·rcases Int.lt_or_gt_of_ne hv with w | w
   ·have := Int.mul_neg_of_pos_of_neg k w; omega
   ·have := zBL k w; omega
 have x1 := mp (u := x) ha
 have y1 := mp (u := y) hb
 rw [e] at x1
 have ab := mp (u := a) hb
 have kx := key (u := x)
 have ky := key (u := y)
 by_cases c : 0 < a * b
 ·refine ⟨1, .inl rfl, fun _ => rfl, fun z => by omega, ?_⟩
  rw [Int.one_mul]
  rcases Int.lt_trichotomy y 0 with k | k | k
  ·rw [ky.2.1.mp k]; apply kx.2.1.mp; omega
  ·rw [ky.2.2.mp k]; apply kx.2.2.mp; omega
  ·rw [ky.1.mp k]; apply kx.1.mp; omega
 ·have c' : a * b < 0 := by have := zBs ha hb; omega
  refine ⟨-1, .inr rfl, fun z => by omega, fun _ => rfl, ?_⟩
  rcases Int.lt_trichotomy y 0 with k | k | k
  ·rw [ky.2.1.mp k]; apply kx.1.mp; omega
  ·rw [ky.2.2.mp k]; apply kx.2.2.mp; omega
  ·rw [ky.1.mp k]; apply kx.2.1.mp; omega
theorem BE {M : Mp} (h : M.det ≠ 0) {ps : List Dt} {p q : Dt} {g G : Tr} (a : LF g p q) (A : LF G (M.to p) (M.to q)) : dZ (ps.map M.to) G = dZ ps g /\ max (wl (ps.map M.to) G (-1)) (wl (ps.map M.to) G 1) = max (wl ps g (-1)) (wl ps g 1) := by
 obtain ⟨m, m0, em⟩ := a.ex
 obtain ⟨u, u0, eu⟩ := A.ex
 have al : ∀ z, gv G.1 G.2.1 G.2.2 (M.to z) * u = gv g.1 g.2.1 g.2.2 z * (m * M.det) := fun z => by
  rw [eu (M.to z), eW, <- em z]; grind
 have md := zBs m0 h
 have ww : ∀ s, wl (ps.map M.to) G s = wq (fun z => decide (sg (gv G.1 G.2.1 G.2.2 (M.to z)) = s)) ps := fun s => by
  unfold wl
  rw [kP, cG]
  exact aL fun z _ => by rw [Bool.true_and]
 have w0 : ∀ s, wl ps g s = wq (fun z => decide (sg (gv g.1 g.2.1 g.2.2 z) = s)) ps := fun s => by
  unfold wl
  rw [kP]
  exact aL fun z _ => by rw [Bool.true_and]
 by_cases c : 0 < u * (m * M.det)
 ·have e : ∀ z, sg (gv G.1 G.2.1 G.2.2 (M.to z)) = sg (gv g.1 g.2.1 g.2.2 z) := fun z => by
   obtain ⟨s, _, s1, _, es⟩ := wR u0 md (al z)
   rw [es, s1 c, Int.one_mul]
  have es : ∀ s, wl (ps.map M.to) G s = wl ps g s := fun s => by rw [ww, w0]; exact aL fun z _ => by rw [e z]
  unfold dZ
  rw [es, es, es]
  exact ⟨rfl, rfl⟩
 ·have c' : u * (m * M.det) < 0 := by have := zBs u0 md; omega
  have e : ∀ z, sg (gv G.1 G.2.1 G.2.2 (M.to z)) = - sg (gv g.1 g.2.1 g.2.2 z) := fun z => by
   obtain ⟨s, _, _, s1, es⟩ := wR u0 md (al z)
   rw [es, s1 c']
   omega
  have es : ∀ s, wl (ps.map M.to) G s = wl ps g (-s) := fun s => by
   rw [ww, w0]
   exact aL fun z _ => by rw [e z]; exact decide_eq_decide.mpr (by omega)
  unfold dZ
  rw [es, es, es, show (-(-1) : Int) = 1 from rfl, show (-0 : Int) = 0 from rfl]
  refine ⟨?_, Int.max_comm _ _⟩
  rw [Int.min_comm, Int.max_comm]
theorem wx {M : Mp} (h : M.det ≠ 0) {ps : List Dt} (hG : ∀ p ∈ ps, GD p) (hG' : ∀ p ∈ ps.map M.to, GD p) {L L' : List Tr} (r : bJ L (cb ps)) (r' : bJ L' (cb (ps.map M.to))) : (L.map fun g => dZ ps g).Perm (L'.map fun g => dZ (ps.map M.to) g) := by
 have lf : ∀ {ij : Nat × Nat}, ij ∈ sps ps -> LF (lnF (gp ps ij.1) (gp ps ij.2)) (gp ps ij.1) (gp ps ij.2) /\ LF (lnF (gp (ps.map M.to) ij.1) (gp (ps.map M.to) ij.2)) (M.to (gp ps ij.1)) (M.to (gp ps ij.2)) := fun {ij} hij => by
  obtain ⟨a, b, c⟩ := dA.mp hij
  have l1 : ij.1 < ps.length := by omega
  refine ⟨uL (hG _ (cn l1)) (hG _ (cn b)) c, ?_⟩
  have x := uL (p := gp (ps.map M.to) ij.1) (q := gp (ps.map M.to) ij.2) (hG' _ (cn (by rw [zAA]; exact l1))) (hG' _ (cn (by rw [zAA]; exact b))) (by rw [eP M l1, eP M b]; exact fun e => c ((u9 h _ _).mp e))
  rw [eP M l1, eP M b] at x ⊢
  exact x
 refine pP (R := fun g G => ∃ ij ∈ sps ps, g = lnF (gp ps ij.1) (gp ps ij.2) /\ G = lnF (gp (ps.map M.to) ij.1) (gp (ps.map M.to) ij.2)) r.nd r'.nd (fun g hg => ?_) (fun G hG2 => ?_) ?_ ?_ ?_
 ·obtain ⟨ij, hij, e⟩ := zAU.mp ((r.2 g).mp hg)
  exact ⟨_, (r'.2 _).mpr (zAU.mpr ⟨ij, by rw [mU h]; exact hij, rfl⟩), ij, hij, e.symm, rfl⟩
 ·obtain ⟨ij, hij, e⟩ := zAU.mp ((r'.2 G).mp hG2)
  rw [mU h] at hij
  exact ⟨_, (r.2 _).mpr (zAU.mpr ⟨ij, hij, rfl⟩), ij, hij, rfl, e.symm⟩
 ·rintro g G G' ⟨ij, hij, e1, e2⟩ ⟨kl, hkl, e3, e4⟩
  rw [e2, e4]
  exact Bk h (lf hij).1 (lf hkl).1 (lf hij).2 (lf hkl).2 (by rw [<- e1, <- e3])
 ·rintro g g' G ⟨ij, hij, e1, e2⟩ ⟨kl, hkl, e3, e4⟩
  rw [e1, e3]
  exact zj h (lf hij).1 (lf hkl).1 (lf hij).2 (lf hkl).2 (by rw [<- e2, <- e4])
 ·rintro g G ⟨ij, hij, e1, e2⟩
  rw [e1, e2]
  exact (BE h (lf hij).1 (lf hij).2).1.symm
theorem wC : ∀ {ys ps : List Tr}, ys.Nodup -> (∀ p ∈ ys, p ∈ ps) -> ys.length <= ps.length
 | [], _, _, _ => zAi _
 | y :: ys, ps, nd, h => by
  obtain ⟨n1, n2⟩ := zBd.mp nd
  have m := h y zAK
  have r := wC (ps := ps.erase y) n2 fun p hp => (List.mem_erase_of_ne (fun e => by subst e; exact n1 hp)).mpr (h p (zAI _ hp))
  rw [List.length_erase_of_mem m] at r
  have : 0 < ps.length := List.length_pos_of_mem m
  rw [zAn]
  omega
theorem xc {α : Type} {wi : DA} {js : List Nat} {te : DE} {ρ : Ro} {Q : D -> Prop} {P : List α -> Prop} (f g : α -> D) (hw : ∀ R : List D -> Prop, (∀ ys, P ys -> R (ys.map f)) -> wi ρ R) (hz : ∀ ys, P ys -> ys.length <= sizeLine)
  (he : ∀ ys, P ys -> ∀ x ∈ ys, ∀ K : D -> Prop, K (g x) -> te (some (.val (f x)) :: js.map (bG ρ)) K) (q : ∀ ys, P ys -> Q (.lst true (ys.map g))) : iY wi js nc te ρ Q := by
 refine hw _ fun ys hy => ?_
 have := PD.comp_map (wi := fun _ R => R (ys.map f)) (js := js) (tc := nc) (te := te) (ρ := ρ) (Q := Q) ys f (fun _ => true) g (fun R h => h) (hz ys hy) (fun x hx K k => k) (fun x hx _ K k => he ys hy x hx K k) (by rw [zBp.mpr (fun _ _ => rfl)]; exact q ys hy)
 exact this
def dh (ps : List Dt) : D := match cj ps with
 | none => .non
 | some ij => .tup [prD ij, prO (fX ps ij)]
theorem jd {ps : List Dt} (hp : Pos ps) : (sps ps = [] /\ cj ps = none /\ dh ps = .non) ∨ ∃ ij, sps ps ≠ [] /\ ij ∈ sps ps /\ cj ps = some ij /\ dh ps = .tup [prD ij, prO (fX ps ij)] := by
 by_cases e : sps ps = []
 ·have f : cj ps = none := by unfold cj; rw [e]; rfl
  exact .inl ⟨e, f, by unfold dh; rw [f]⟩
 ·obtain ⟨ij, h1⟩ := ex1 hp e
  exact .inr ⟨ij, e, List.mem_of_find?_eq_some h1, h1, by unfold dh; rw [h1]⟩
theorem zK {M : Mp} (h : M.det ≠ 0) (ps : List Dt) : dh (ps.map M.to) = dh ps := by
 have e1 : cj (ps.map M.to) = cj ps := by
  unfold cj
  rw [mU h]
  exact fL fun ij hij => xy h hij
 unfold dh
 rw [e1]
 cases e : cj ps with
 | none => rfl
 | some ij =>
  have m : ij ∈ sps ps := List.mem_of_find?_eq_some e
  have e2 : fX (ps.map M.to) ij = fX ps ij := by
   unfold fX
   rw [mU h]
   exact fL fun kl hkl => AW h m hkl
  dsimp only
  rw [e2]
theorem bu {s1 s2 : DS} {E : fJ} {ρ : Ro} (P : Ro -> Prop) (h2 : ∀ ρ', P ρ' -> s2 E ρ') (h1 : ∀ K : Ro -> Prop, (∀ ρ', P ρ' -> K ρ') -> s1 { E with nx := K } ρ) : uo s1 s2 E ρ := h1 _ h2
theorem p6 : ((10 : Int) ^ (6 : Int).toNat) = 1000000 := by decide
theorem cp6 : pD 10 6 := ⟨by decide, by decide, by decide⟩
theorem vx {α : Type} {wi : DA} {js : List Nat} {tc : DT} {te : DE} {ρ : Ro} {Q : D -> Prop} {P : List α -> Prop} (f g : α -> D) (c : α -> Bool) (hw : ∀ R : List D -> Prop, (∀ ys, P ys -> R (ys.map f)) -> wi ρ R) (hz : ∀ ys, P ys -> ys.length <= sizeLine)
  (hc : ∀ ys, P ys -> ∀ x ∈ ys, ∀ K : Bool -> Prop, K (c x) -> tc (some (.val (f x)) :: js.map (bG ρ)) K) (he : ∀ ys, P ys -> ∀ x ∈ ys, ∀ K : D -> Prop, K (g x) -> te (some (.val (f x)) :: js.map (bG ρ)) K) (q : ∀ ys, P ys -> Q (.lst true ((ys.filter c).map g))) : iY wi js tc te ρ Q := by
 refine hw _ fun ys hy => ?_
 exact PD.comp_map (wi := fun _ R => R (ys.map f)) (js := js) (tc := tc) (te := te) (ρ := ρ) (Q := Q) ys f c g (fun R h => h) (hz ys hy) (hc ys hy) (fun x hx _ K k => he ys hy x hx K k) (q ys hy)
theorem gd6 (g1 g2 g3 g4 g5 g6 : DG) (tg : Bool) (a b c d e f : D) (ρ : Ro) (Q : Ro -> Prop) : fM 6 (bA g1 (bA g2 (bA g3 (bA g4 (bA g5 (bA g6 i8)))))) (.lst tg [a, b, c, d, e, f]) ρ Q = g1 a ρ fun ρ1 => g2 b ρ1 fun ρ2 => g3 c ρ2 fun ρ3 => g4 d ρ3 fun ρ4 => g5 e ρ4 fun ρ5 => g6 f ρ5 Q := by
 rw [gdN 6 _ _ _ rfl]
 simp only [gdc, gdn]
theorem zU {g h : Tr} (e : trD g = trD h) : g = h := by
 unfold trD T3 at e
 simp only [D.tup.injEq, zAD, D.int.injEq, and_true] at e
 exact zBx e.1 (zBx e.2.1 e.2.2)
theorem tU : ∀ {xs ys : List Tr}, xs.map trD = ys.map trD -> xs = ys
 | [], [], _ => rfl
 | [], _ :: _, h => by simp at h
 | _ :: _, [], h => by simp at h
 | x :: xs, y :: ys, h => by
  rw [zAG, zAG, zAD] at h
  rw [zU h.1, tU h.2]
theorem lL (g : Tr) : aI (trD g) = trD g := by unfold trD T3; simp only [dE, bQ, cg, bN]
theorem jz : ∀ ls : List Tr, aV (ls.map trD) = ls.map trD
 | [] => cg
 | g :: r => by rw [zAG, bQ, lL, jz r]
def trK (g : Tr) : List Int := [g.1, g.2.1, g.2.2]
theorem pC (ls : List Tr) : (ls.map trK).map PD.tupI = ls.map trD := by
 rw [zAg]
 rfl
theorem AJ (g : Tr) : OkN 1 (trD g) := OkN.tup (.cons (.int _ _) (.cons (.int _ _) (.cons (.int _ _) (.nil _))))
theorem okP (o : Option (Nat × Nat)) : OkN 1 (prO o) := by
 cases o with
 | none => exact OkN.non 1
 | some ij => exact wH ij
theorem wM {ps : List Dt} (hP : Pos ps) : okD (dh ps) := by
 rcases jd hP with ⟨_, _, qe⟩ | ⟨ij, _, _, _, qe⟩
 ·rw [qe]; exact (OkN.non 0).ok
 ·rw [qe]; exact (OkN.tup (.cons (wH ij) (.cons (okP _) (.nil _)))).ok
def d8 (ps : List Dt) (g : Tr) : D := .tup [trD g, .int (wl ps g (-1)), .int (wl ps g 0), .int (wl ps g 1)]
theorem oK (ps : List Dt) (g : Tr) : aI (d8 ps g) = d8 ps g := by unfold d8; simp only [dE, bQ, cg, bN, lL]
theorem zh {g h : Tr} (e : SW.lexLt (trK g) (trK h) = true) : uK g h := by
 unfold trK SW.lexLt at e
 unfold uK
 split at e
 ·rename_i e1
  unfold SW.lexLt at e
  split at e
  ·rename_i e2
   unfold SW.lexLt at e
   split at e
   ·cases e
   ·exact .inr ⟨e1, .inr ⟨e2, by simpa using e⟩⟩
  ·exact .inr ⟨e1, .inl (by simpa using e)⟩
 ·exact .inl (by simpa using e)
theorem nV {g h : Tr} (e : trK g = trK h) : g = h := by
 unfold trK at e
 simp only [zAD, and_true] at e
 exact zBx e.1 (zBx e.2.1 e.2.2)
theorem qH : ∀ {zs : List (List Int)}, (∀ z ∈ zs, ∃ g : Tr, z = trK g) -> ∃ ys : List Tr, zs = ys.map trK
 | [], _ => ⟨[], rfl⟩
 | z :: zs, h => by
  obtain ⟨g, e⟩ := h z zAK
  obtain ⟨ys, e2⟩ := qH fun z hz => h z (zAI _ hz)
  exact ⟨g :: ys, by rw [e, e2]; rfl⟩
theorem wN {zs : List (List Int)} {ls : List Tr} (h : PD.vf zs (ls.map trK)) : ∃ ys : List Tr, zs = ys.map trK /\ bJ ys ls := by
 obtain ⟨h1, h2⟩ := h
 obtain ⟨ys, rfl⟩ := qH fun z hz => by
  obtain ⟨p, _, e⟩ := zAU.mp ((h2 z).mp hz)
  exact ⟨p, e.symm⟩
 refine ⟨ys, rfl, (zBh.mp h1).imp fun {p q} e => zh e, fun g => ?_⟩
 have := h2 (trK g)
 constructor
 ·intro hg
  obtain ⟨x, hx, e⟩ := zAU.mp (this.mp (zAU.mpr ⟨g, hg, rfl⟩))
  rw [<- nV e]
  exact hx
 ·intro hg
  obtain ⟨x, hx, e⟩ := zAU.mp (this.mpr (zAU.mpr ⟨g, hg, rfl⟩))
  rw [<- nV e]
  exact hx
theorem j6 {ys ls : List Tr} (h : bJ ys ls) : ys.length <= ls.length := by
 have nd := h.nd
 exact wC nd fun g hg => (h.2 g).mp hg
theorem xZ {xs ys : List Tr} (h : (xs.map trK).Perm (ys.map trK)) : xs.Perm ys := by
 have := h.map fun l : List Int => ((l.getD 0 0, l.getD 1 0, l.getD 2 0) : Tr)
 rw [zAg, zAg] at this
 have e : ((fun l : List Int => ((l.getD 0 0, l.getD 1 0, l.getD 2 0) : Tr)) ∘ trK) = id := rfl
 rw [e, List.map_id, List.map_id] at this
 exact this
def UpT (zs : List Tr) : Prop := zs.Pairwise fun p q => SW.lexLt (trK q) (trK p) = false
theorem wZ : ∀ {xs ys : List Tr}, xs.Perm ys -> UpT xs -> UpT ys -> xs = ys
 | [], ys, p, _, _ => by rw [List.nil_perm.mp p]
 | x :: xs, [], p, _, _ => by have := p.length_eq; simp at this
 | x :: xs, y :: ys, p, h1, h2 => by
  obtain ⟨a1, a2⟩ := zCC.mp h1
  obtain ⟨b1, b2⟩ := zCC.mp h2
  have e : x = y := by
   rcases zAN.mp (p.mem_iff.mp zAK) with e | e
   ·exact e
   ·rcases zAN.mp (p.symm.mem_iff.mp zAK) with e' | e'
    ·exact e'.symm
    ·have q1 := b1 x e
     have q2 := a1 y e'
     rcases SW.eQ _ _ q1 with z | z
     ·exact nV z
     ·rw [z] at q2; cases q2
  subst e
  rw [wZ (p.cons_inv) a2 b2]
def evB (ps : List Dt) (g : Tr) : Bool := decide (2 * max (wl ps g (-1)) (wl ps g 1) <= WA ps)
theorem An {M : Mp} (h : M.det ≠ 0) {ps : List Dt} (hG : ∀ p ∈ ps, GD p) (hG' : ∀ p ∈ ps.map M.to, GD p) {L L' : List Tr} (r : bJ L (cb ps)) (r' : bJ L' (cb (ps.map M.to))) : (L'.filter (evB (ps.map M.to))).length = (L.filter (evB ps)).length := by
 have p := wx h hG hG' r r'
 have w : WA (ps.map M.to) = WA ps := by unfold WA; rw [cG]
 have q := (p.map fun t : Tr => decide (2 * t.2.2 <= WA ps)).countP_eq id
 rw [zAg, zAg] at q
 rw [<- List.countP_eq_length_filter, <- List.countP_eq_length_filter]
 rw [List.countP_map, List.countP_map] at q
 have e1 : evB ps = (id ∘ ((fun t : Tr => decide (2 * t.2.2 <= WA ps)) ∘ fun g => dZ ps g)) := rfl
 have e2 : evB (ps.map M.to) = (id ∘ ((fun t : Tr => decide (2 * t.2.2 <= WA ps)) ∘ fun g => dZ (ps.map M.to) g)) := by
  funext g
  show decide (2 * (dZ (ps.map M.to) g).2.2 <= WA (ps.map M.to)) = _
  rw [w]
  rfl
 rw [e1, e2]
 exact q.symm
theorem kH (ps : List Dt) : (cb ps).length <= ps.length * ps.length := by
 unfold cb sps
 rw [zAA]
 refine zAX (List.length_filter_le _ _) ?_
 have e := iH ps.length 2
 rw [uJ, zAA] at e
 rw [Nat.pow_two] at e
 exact e
theorem AF {ps : List Dt} (hG : ∀ p ∈ ps, GD p) : ∀ g ∈ cb ps, Bd 1000 g.1 /\ Bd 1000 g.2.1 /\ Bd 1000 g.2.2 := fun g hg => by
 obtain ⟨ij, hij, e⟩ := zAU.mp hg
 obtain ⟨a, b, c⟩ := dA.mp hij
 have L := uL (hG _ (cn (show ij.1 < ps.length by omega))) (hG _ (cn b)) c
 rw [<- e]
 exact ⟨L.b0, L.b1, L.b2⟩
def nU (κ : Cls) : DSp := fun ds Q Ed => ∃ (n : Int), ds = [.int n] /\ (Q (.int (sg n)))
theorem mT (κ : Cls) (n : Int) (Q : D -> Prop) (Ed : Value -> Prop) : nU κ [.int n] Q Ed = (Q (.int (sg n))) := by
 apply propext
 constructor
 ·rintro ⟨x0, e, q⟩
  simp only [T3, zAD, D.int.injEq, D.tup.injEq, D.lst.injEq, and_true, true_and] at e
  obtain rfl := e
  exact q
 ·intro q; exact ⟨_, rfl, q⟩
def lJ (κ : Cls) : DSp := fun ds Q Ed => ∃ (g0 g1 g2 : Int) (p0 p1 p2 : Int), ds = [T3 g0 g1 g2, T3 p0 p1 p2] /\ (Bd 1000 g0 /\ Bd 1000 g1 /\ Bd 1000 g2 /\ Bd 1000 p0 /\ Bd 1000 p1 /\ Bd 1000 p2 /\ Q (.int (g0 * p0 + g1 * p1 + g2 * p2)))
theorem k9 (κ : Cls) (g0 g1 g2 : Int) (p0 p1 p2 : Int) (Q : D -> Prop) (Ed : Value -> Prop) : lJ κ [T3 g0 g1 g2, T3 p0 p1 p2] Q Ed = (Bd 1000 g0 /\ Bd 1000 g1 /\ Bd 1000 g2 /\ Bd 1000 p0 /\ Bd 1000 p1 /\ Bd 1000 p2 /\ Q (.int (g0 * p0 + g1 * p1 + g2 * p2))) := by
 apply propext
 constructor
 ·rintro ⟨x0, x1, x2, x3, x4, x5, e, q⟩
  simp only [T3, zAD, D.int.injEq, D.tup.injEq, D.lst.injEq, and_true, true_and] at e
  obtain ⟨⟨rfl, rfl, rfl⟩, ⟨rfl, rfl, rfl⟩⟩ := e
  exact q
 ·intro q; exact ⟨_, _, _, _, _, _, rfl, q⟩
def kN (κ : Cls) : DSp := fun ds Q Ed => ∃ (g0 g1 g2 : Int) (p0 p1 p2 : Int), ds = [T3 g0 g1 g2, T3 p0 p1 p2] /\ (Bd 1000 g0 /\ Bd 1000 g1 /\ Bd 1000 g2 /\ Bd 1000 p0 /\ Bd 1000 p1 /\ Bd 1000 p2 /\ Q (.int (sg (g0 * p0 + g1 * p1 + g2 * p2))))
theorem mS (κ : Cls) (g0 g1 g2 : Int) (p0 p1 p2 : Int) (Q : D -> Prop) (Ed : Value -> Prop) : kN κ [T3 g0 g1 g2, T3 p0 p1 p2] Q Ed = (Bd 1000 g0 /\ Bd 1000 g1 /\ Bd 1000 g2 /\ Bd 1000 p0 /\ Bd 1000 p1 /\ Bd 1000 p2 /\ Q (.int (sg (g0 * p0 + g1 * p1 + g2 * p2)))) := by
 apply propext
 constructor
 ·rintro ⟨x0, x1, x2, x3, x4, x5, e, q⟩
  simp only [T3, zAD, D.int.injEq, D.tup.injEq, D.lst.injEq, and_true, true_and] at e
  obtain ⟨⟨rfl, rfl, rfl⟩, ⟨rfl, rfl, rfl⟩⟩ := e
  exact q
 ·intro q; exact ⟨_, _, _, _, _, _, rfl, q⟩
def cB (κ : Cls) : DSp := fun ds Q Ed => ∃ (a b : Int), ds = [.tup [.int a, .int b]] /\ (Q (T3 1 a b))
theorem iS (κ : Cls) (a b : Int) (Q : D -> Prop) (Ed : Value -> Prop) : cB κ [.tup [.int a, .int b]] Q Ed = (Q (T3 1 a b)) := by
 apply propext
 constructor
 ·rintro ⟨x0, x1, e, q⟩
  simp only [T3, zAD, D.int.injEq, D.tup.injEq, D.lst.injEq, and_true, true_and] at e
  obtain ⟨rfl, rfl⟩ := e
  exact q
 ·intro q; exact ⟨_, _, rfl, q⟩
def cc (κ : Cls) : DSp := fun ds Q Ed => ∃ (p : Dt), ds = [dtD p] /\ (Q (.tup [.int p.1, .int p.2.1]))
theorem jK (κ : Cls) (p : Dt) (Q : D -> Prop) (Ed : Value -> Prop) : cc κ [dtD p] Q Ed = (Q (.tup [.int p.1, .int p.2.1])) := by
 apply propext
 constructor
 ·rintro ⟨x0, e, q⟩
  simp only [T3, zAD, D.int.injEq, D.tup.injEq, D.lst.injEq, and_true, true_and] at e
  have e_p := e
  have f_p := sM e_p
  subst f_p
  exact q
 ·intro q; exact ⟨_, rfl, q⟩
def dW (κ : Cls) : DSp := fun ds Q Ed => ∃ (ps : List Dt) (col : D), ds = [.lst false (ps.map dtD), col] /\ (∃ cs : Int -> Bool, gK col cs /\ ps.length <= 60 /\ Q (.lst true ((ps.filter fun p => cs p.2.2.1).map dtD)))
theorem gR (κ : Cls) (ps : List Dt) (col : D) (Q : D -> Prop) (Ed : Value -> Prop) : dW κ [.lst false (ps.map dtD), col] Q Ed = (∃ cs : Int -> Bool, gK col cs /\ ps.length <= 60 /\ Q (.lst true ((ps.filter fun p => cs p.2.2.1).map dtD))) := by
 apply propext
 constructor
 ·rintro ⟨x0, x1, e, q⟩
  simp only [T3, zAD, D.int.injEq, D.tup.injEq, D.lst.injEq, and_true, true_and] at e
  obtain ⟨e_ps, rfl⟩ := e
  have f_ps := aO e_ps
  subst f_ps
  exact q
 ·intro q; exact ⟨_, _, rfl, q⟩
def du (κ : Cls) : DSp := fun ds Q Ed => ∃ (ps : List Dt) (col : D), ds = [.lst false (ps.map dtD), col] /\ (∃ cs : Int -> Bool, gK col cs /\ ps.length <= 60 /\ Q (.int (tot cs ps)))
theorem k8 (κ : Cls) (ps : List Dt) (col : D) (Q : D -> Prop) (Ed : Value -> Prop) : du κ [.lst false (ps.map dtD), col] Q Ed = (∃ cs : Int -> Bool, gK col cs /\ ps.length <= 60 /\ Q (.int (tot cs ps))) := by
 apply propext
 constructor
 ·rintro ⟨x0, x1, e, q⟩
  simp only [T3, zAD, D.int.injEq, D.tup.injEq, D.lst.injEq, and_true, true_and] at e
  obtain ⟨e_ps, rfl⟩ := e
  have f_ps := aO e_ps
  subst f_ps
  exact q
 ·intro q; exact ⟨_, _, rfl, q⟩
def cf (κ : Cls) : DSp := fun ds Q Ed => ∃ (ps : List Dt) (g0 g1 g2 : Int) (col : D), ds = [.lst false (ps.map dtD), T3 g0 g1 g2, col] /\ (∃ cs : Int -> Bool, gK col cs /\ ps.length <= 60 /\ Bd 1000 g0 /\ Bd 1000 g1 /\ Bd 1000 g2 /\ (∀ p ∈ ps, GD p) /\ Q (.tup [.int (wt cs g0 g1 g2 (-1) ps), .int (wt cs g0 g1 g2 0 ps), .int (wt cs g0 g1 g2 1 ps)]))
theorem fD (κ : Cls) (ps : List Dt) (g0 g1 g2 : Int) (col : D) (Q : D -> Prop) (Ed : Value -> Prop) : cf κ [.lst false (ps.map dtD), T3 g0 g1 g2, col] Q Ed = (∃ cs : Int -> Bool, gK col cs /\ ps.length <= 60 /\ Bd 1000 g0 /\ Bd 1000 g1 /\ Bd 1000 g2 /\ (∀ p ∈ ps, GD p) /\ Q (.tup [.int (wt cs g0 g1 g2 (-1) ps), .int (wt cs g0 g1 g2 0 ps), .int (wt cs g0 g1 g2 1 ps)])) := by
 apply propext
 constructor
 ·rintro ⟨x0, x1, x2, x3, x4, e, q⟩
  simp only [T3, zAD, D.int.injEq, D.tup.injEq, D.lst.injEq, and_true, true_and] at e
  obtain ⟨e_ps, ⟨rfl, rfl, rfl⟩, rfl⟩ := e
  have f_ps := aO e_ps
  subst f_ps
  exact q
 ·intro q; exact ⟨_, _, _, _, _, rfl, q⟩
def cV (κ : Cls) : DSp := fun ds Q Ed => ∃ (a : Int) (b : Int), ds = [.int a, .int b] /\ (Q (.int (Int.gcd a b : Int)))
theorem dR (κ : Cls) (a : Int) (b : Int) (Q : D -> Prop) (Ed : Value -> Prop) : cV κ [.int a, .int b] Q Ed = (Q (.int (Int.gcd a b : Int))) := by
 apply propext
 constructor
 ·rintro ⟨x0, x1, e, q⟩
  simp only [T3, zAD, D.int.injEq, D.tup.injEq, D.lst.injEq, and_true, true_and] at e
  obtain ⟨rfl, rfl⟩ := e
  exact q
 ·intro q; exact ⟨_, _, rfl, q⟩
def fR (κ : Cls) : DSp := fun ds Q Ed => ∃ (x y z : Int) (l : Int), ds = [T3 x y z, .int l] /\ (¬ (x = 0 /\ y = 0 /\ z = 0) /\ Bd 4000 x /\ Bd 4000 y /\ Bd 4000 z /\ Q (T3 (x.fdiv (PM.dv3 x y z l)) (y.fdiv (PM.dv3 x y z l)) (z.fdiv (PM.dv3 x y z l))))
theorem jJ (κ : Cls) (x y z : Int) (l : Int) (Q : D -> Prop) (Ed : Value -> Prop) : fR κ [T3 x y z, .int l] Q Ed = (¬ (x = 0 /\ y = 0 /\ z = 0) /\ Bd 4000 x /\ Bd 4000 y /\ Bd 4000 z /\ Q (T3 (x.fdiv (PM.dv3 x y z l)) (y.fdiv (PM.dv3 x y z l)) (z.fdiv (PM.dv3 x y z l)))) := by
 apply propext
 constructor
 ·rintro ⟨x0, x1, x2, x3, e, q⟩
  simp only [T3, zAD, D.int.injEq, D.tup.injEq, D.lst.injEq, and_true, true_and] at e
  obtain ⟨⟨rfl, rfl, rfl⟩, rfl⟩ := e
  exact q
 ·intro q; exact ⟨_, _, _, _, rfl, q⟩
def eU (κ : Cls) : DSp := fun ds Q Ed => ∃ (g0 g1 g2 : Int), ds = [T3 g0 g1 g2] /\ (Q (.bl (decide (g1 = 0 /\ g2 = 0))))
theorem iN (κ : Cls) (g0 g1 g2 : Int) (Q : D -> Prop) (Ed : Value -> Prop) : eU κ [T3 g0 g1 g2] Q Ed = (Q (.bl (decide (g1 = 0 /\ g2 = 0)))) := by
 apply propext
 constructor
 ·rintro ⟨x0, x1, x2, e, q⟩
  simp only [T3, zAD, D.int.injEq, D.tup.injEq, D.lst.injEq, and_true, true_and] at e
  obtain ⟨rfl, rfl, rfl⟩ := e
  exact q
 ·intro q; exact ⟨_, _, _, rfl, q⟩
def fQ (κ : Cls) : DSp := fun ds Q Ed => ∃ (a0 a1 a2 : Int) (b0 b1 b2 : Int), ds = [T3 a0 a1 a2, T3 b0 b1 b2] /\ (Bd 200 a0 /\ Bd 200 a1 /\ Bd 200 a2 /\ Bd 200 b0 /\ Bd 200 b1 /\ Bd 200 b2 /\ Q (T3 (a1 * b2 - b1 * a2) (a2 * b0 - b2 * a0) (a0 * b1 - b0 * a1)))
theorem jF (κ : Cls) (a0 a1 a2 : Int) (b0 b1 b2 : Int) (Q : D -> Prop) (Ed : Value -> Prop) : fQ κ [T3 a0 a1 a2, T3 b0 b1 b2] Q Ed = (Bd 200 a0 /\ Bd 200 a1 /\ Bd 200 a2 /\ Bd 200 b0 /\ Bd 200 b1 /\ Bd 200 b2 /\ Q (T3 (a1 * b2 - b1 * a2) (a2 * b0 - b2 * a0) (a0 * b1 - b0 * a1))) := by
 apply propext
 constructor
 ·rintro ⟨x0, x1, x2, x3, x4, x5, e, q⟩
  simp only [T3, zAD, D.int.injEq, D.tup.injEq, D.lst.injEq, and_true, true_and] at e
  obtain ⟨⟨rfl, rfl, rfl⟩, ⟨rfl, rfl, rfl⟩⟩ := e
  exact q
 ·intro q; exact ⟨_, _, _, _, _, _, rfl, q⟩
def lH (κ : Cls) : DSp := fun ds Q Ed => ∃ (n : Int) (s : Int), ds = [.int n, .int s] /\ (∃ m t : Nat, n = (m : Int) /\ s = (t : Int) /\ m <= 60 /\ t <= 3 /\ Q (.lst true ((lev m t).map pkD)))
theorem k5 (κ : Cls) (n : Int) (s : Int) (Q : D -> Prop) (Ed : Value -> Prop) : lH κ [.int n, .int s] Q Ed = (∃ m t : Nat, n = (m : Int) /\ s = (t : Int) /\ m <= 60 /\ t <= 3 /\ Q (.lst true ((lev m t).map pkD))) := by
 apply propext
 constructor
 ·rintro ⟨x0, x1, e, q⟩
  simp only [T3, zAD, D.int.injEq, D.tup.injEq, D.lst.injEq, and_true, true_and] at e
  obtain ⟨rfl, rfl⟩ := e
  exact q
 ·intro q; exact ⟨_, _, rfl, q⟩
def lF (κ : Cls) : DSp := fun ds Q Ed => ∃ (a0 a1 a2 : Int) (b0 b1 b2 : Int), ds = [T3 a0 a1 a2, T3 b0 b1 b2] /\ (Bd 200 a0 /\ Bd 200 a1 /\ Bd 200 a2 /\ Bd 200 b0 /\ Bd 200 b1 /\ Bd 200 b2 /\ ¬ (a2 * b0 - b2 * a0 = 0 /\ a0 * b1 - b0 * a1 = 0) /\ ∀ g0 g1 g2 m : Int, Bd 1000 g0 -> Bd 1000 g1 -> Bd 1000 g2 -> m ≠ 0 -> g0 * m = a1 * b2 - b1 * a2 -> g1 * m = a2 * b0 - b2 * a0 -> g2 * m = a0 * b1 - b0 * a1 -> Q (T3 g0 g1 g2))
theorem kY (κ : Cls) (a0 a1 a2 : Int) (b0 b1 b2 : Int) (Q : D -> Prop) (Ed : Value -> Prop) : lF κ [T3 a0 a1 a2, T3 b0 b1 b2] Q Ed = (Bd 200 a0 /\ Bd 200 a1 /\ Bd 200 a2 /\ Bd 200 b0 /\ Bd 200 b1 /\ Bd 200 b2 /\ ¬ (a2 * b0 - b2 * a0 = 0 /\ a0 * b1 - b0 * a1 = 0) /\ ∀ g0 g1 g2 m : Int, Bd 1000 g0 -> Bd 1000 g1 -> Bd 1000 g2 -> m ≠ 0 -> g0 * m = a1 * b2 - b1 * a2 -> g1 * m = a2 * b0 - b2 * a0 -> g2 * m = a0 * b1 - b0 * a1 -> Q (T3 g0 g1 g2)) := by
 apply propext
 constructor
 ·rintro ⟨x0, x1, x2, x3, x4, x5, e, q⟩
  simp only [T3, zAD, D.int.injEq, D.tup.injEq, D.lst.injEq, and_true, true_and] at e
  obtain ⟨⟨rfl, rfl, rfl⟩, ⟨rfl, rfl, rfl⟩⟩ := e
  exact q
 ·intro q; exact ⟨_, _, _, _, _, _, rfl, q⟩
def lG (κ : Cls) : DSp := fun ds Q Ed => ∃ (a0 a1 a2 : Int) (b0 b1 b2 : Int), ds = [T3 a0 a1 a2, T3 b0 b1 b2] /\ (Bd 200 a0 /\ Bd 200 a1 /\ Bd 200 a2 /\ Bd 200 b0 /\ Bd 200 b1 /\ Bd 200 b2 /\ ¬ (a2 * b0 - b2 * a0 = 0 /\ a0 * b1 - b0 * a1 = 0) /\ Q (trD (qW (a1 * b2 - b1 * a2) (a2 * b0 - b2 * a0) (a0 * b1 - b0 * a1))))
theorem kZ (κ : Cls) (a0 a1 a2 : Int) (b0 b1 b2 : Int) (Q : D -> Prop) (Ed : Value -> Prop) : lG κ [T3 a0 a1 a2, T3 b0 b1 b2] Q Ed = (Bd 200 a0 /\ Bd 200 a1 /\ Bd 200 a2 /\ Bd 200 b0 /\ Bd 200 b1 /\ Bd 200 b2 /\ ¬ (a2 * b0 - b2 * a0 = 0 /\ a0 * b1 - b0 * a1 = 0) /\ Q (trD (qW (a1 * b2 - b1 * a2) (a2 * b0 - b2 * a0) (a0 * b1 - b0 * a1)))) := by
 apply propext
 constructor
 ·rintro ⟨x0, x1, x2, x3, x4, x5, e, q⟩
  simp only [T3, zAD, D.int.injEq, D.tup.injEq, D.lst.injEq, and_true, true_and] at e
  obtain ⟨⟨rfl, rfl, rfl⟩, ⟨rfl, rfl, rfl⟩⟩ := e
  exact q
 ·intro q; exact ⟨_, _, _, _, _, _, rfl, q⟩
def dX (κ : Cls) : DSp := fun ds Q Ed => ∃ (ps : List Dt) (ij : (Nat × Nat)), ds = [.lst false (ps.map dtD), prD ij] /\ (ij.1 < ps.length /\ ij.2 < ps.length /\ Q (.bl (decide (sp2 (gp ps ij.1) ≠ sp2 (gp ps ij.2)))))
theorem fg (κ : Cls) (ps : List Dt) (ij : (Nat × Nat)) (Q : D -> Prop) (Ed : Value -> Prop) : dX κ [.lst false (ps.map dtD), prD ij] Q Ed = (ij.1 < ps.length /\ ij.2 < ps.length /\ Q (.bl (decide (sp2 (gp ps ij.1) ≠ sp2 (gp ps ij.2))))) := by
 apply propext
 constructor
 ·rintro ⟨x0, x1, e, q⟩
  simp only [T3, zAD, D.int.injEq, D.tup.injEq, D.lst.injEq, and_true, true_and] at e
  obtain ⟨e_ps, e_ij⟩ := e
  have f_ps := aO e_ps
  subst f_ps
  have f_ij := iJ e_ij
  subst f_ij
  exact q
 ·intro q; exact ⟨_, _, rfl, q⟩
def cx (κ : Cls) : DSp := fun ds Q Ed => ∃ (ps : List Dt), ds = [.lst false (ps.map dtD)] /\ (ps.length <= 60 /\ Q (.lst true (((prs ps.length).filter fun ij => decide (sp2 (gp ps ij.1) ≠ sp2 (gp ps ij.2))).map prD)))
theorem gF (κ : Cls) (ps : List Dt) (Q : D -> Prop) (Ed : Value -> Prop) : cx κ [.lst false (ps.map dtD)] Q Ed = (ps.length <= 60 /\ Q (.lst true (((prs ps.length).filter fun ij => decide (sp2 (gp ps ij.1) ≠ sp2 (gp ps ij.2))).map prD))) := by
 apply propext
 constructor
 ·rintro ⟨x0, e, q⟩
  simp only [T3, zAD, D.int.injEq, D.tup.injEq, D.lst.injEq, and_true, true_and] at e
  have e_ps := e
  have f_ps := aO e_ps
  subst f_ps
  exact q
 ·intro q; exact ⟨_, rfl, q⟩
def bH (κ : Cls) : DSp := fun ds Q Ed => ∃ (ps : List Dt) (ij : (Nat × Nat)), ds = [.lst false (ps.map dtD), prD ij] /\ (ij.1 < ps.length /\ ij.2 < ps.length /\ (∀ p ∈ ps, GD p) /\ sp2 (gp ps ij.1) ≠ sp2 (gp ps ij.2) /\ ∀ g0 g1 g2 m : Int, Bd 1000 g0 -> Bd 1000 g1 -> Bd 1000 g2 -> m ≠ 0 -> (∀ z, gv g0 g1 g2 z * m = tq (gp ps ij.1) (gp ps ij.2) z) -> Q (T3 g0 g1 g2))
theorem dq (κ : Cls) (ps : List Dt) (ij : (Nat × Nat)) (Q : D -> Prop) (Ed : Value -> Prop) : bH κ [.lst false (ps.map dtD), prD ij] Q Ed = (ij.1 < ps.length /\ ij.2 < ps.length /\ (∀ p ∈ ps, GD p) /\ sp2 (gp ps ij.1) ≠ sp2 (gp ps ij.2) /\ ∀ g0 g1 g2 m : Int, Bd 1000 g0 -> Bd 1000 g1 -> Bd 1000 g2 -> m ≠ 0 -> (∀ z, gv g0 g1 g2 z * m = tq (gp ps ij.1) (gp ps ij.2) z) -> Q (T3 g0 g1 g2)) := by
 apply propext
 constructor
 ·rintro ⟨x0, x1, e, q⟩
  simp only [T3, zAD, D.int.injEq, D.tup.injEq, D.lst.injEq, and_true, true_and] at e
  obtain ⟨e_ps, e_ij⟩ := e
  have f_ps := aO e_ps
  subst f_ps
  have f_ij := iJ e_ij
  subst f_ij
  exact q
 ·intro q; exact ⟨_, _, rfl, q⟩
def fz (κ : Cls) : DSp := fun ds Q Ed => ∃ (ps : List Dt) (ij : (Nat × Nat)), ds = [.lst false (ps.map dtD), prD ij] /\ (ij.1 < ps.length /\ ij.2 < ps.length /\ (∀ p ∈ ps, GD p) /\ sp2 (gp ps ij.1) ≠ sp2 (gp ps ij.2) /\ Q (trD (lnF (gp ps ij.1) (gp ps ij.2))))
theorem gC (κ : Cls) (ps : List Dt) (ij : (Nat × Nat)) (Q : D -> Prop) (Ed : Value -> Prop) : fz κ [.lst false (ps.map dtD), prD ij] Q Ed = (ij.1 < ps.length /\ ij.2 < ps.length /\ (∀ p ∈ ps, GD p) /\ sp2 (gp ps ij.1) ≠ sp2 (gp ps ij.2) /\ Q (trD (lnF (gp ps ij.1) (gp ps ij.2)))) := by
 apply propext
 constructor
 ·rintro ⟨x0, x1, e, q⟩
  simp only [T3, zAD, D.int.injEq, D.tup.injEq, D.lst.injEq, and_true, true_and] at e
  obtain ⟨e_ps, e_ij⟩ := e
  have f_ps := aO e_ps
  subst f_ps
  have f_ij := iJ e_ij
  subst f_ij
  exact q
 ·intro q; exact ⟨_, _, rfl, q⟩
def iw (κ : Cls) : DSp := fun ds Q Ed => ∃ (ps : List Dt) (ls : List Tr), ds = [.lst false (ps.map dtD), .lst false (ls.map trD)] /\ (ps.length <= 60 /\ (∀ p ∈ ps, GD p) /\ ls.length <= 900 /\ (∀ g ∈ ls, Bd 1000 g.1 /\ Bd 1000 g.2.1 /\ Bd 1000 g.2.2) /\ ∀ ys, bJ ys ls -> Q (.lst true (ys.map (d8 ps))))
theorem iU (κ : Cls) (ps : List Dt) (ls : List Tr) (Q : D -> Prop) (Ed : Value -> Prop) : iw κ [.lst false (ps.map dtD), .lst false (ls.map trD)] Q Ed = (ps.length <= 60 /\ (∀ p ∈ ps, GD p) /\ ls.length <= 900 /\ (∀ g ∈ ls, Bd 1000 g.1 /\ Bd 1000 g.2.1 /\ Bd 1000 g.2.2) /\ ∀ ys, bJ ys ls -> Q (.lst true (ys.map (d8 ps)))) := by
 apply propext
 constructor
 ·rintro ⟨x0, x1, e, q⟩
  simp only [T3, zAD, D.int.injEq, D.tup.injEq, D.lst.injEq, and_true, true_and] at e
  obtain ⟨e_ps, e_ls⟩ := e
  have f_ps := aO e_ps
  subst f_ps
  have f_ls := tU e_ls
  subst f_ls
  exact q
 ·intro q; exact ⟨_, _, rfl, q⟩
def fC (κ : Cls) : DSp := fun ds Q Ed => ∃ (ps : List Dt), ds = [.lst false (ps.map dtD)] /\ (ps.length <= 30 /\ (∀ p ∈ ps, GD p) /\ Q (.lst true ((cb ps).map trD)))
theorem gD (κ : Cls) (ps : List Dt) (Q : D -> Prop) (Ed : Value -> Prop) : fC κ [.lst false (ps.map dtD)] Q Ed = (ps.length <= 30 /\ (∀ p ∈ ps, GD p) /\ Q (.lst true ((cb ps).map trD))) := by
 apply propext
 constructor
 ·rintro ⟨x0, e, q⟩
  simp only [T3, zAD, D.int.injEq, D.tup.injEq, D.lst.injEq, and_true, true_and] at e
  have e_ps := e
  have f_ps := aO e_ps
  subst f_ps
  exact q
 ·intro q; exact ⟨_, rfl, q⟩
def eV (κ : Cls) : DSp := fun ds Q Ed => ∃ (ps : List Dt), ds = [.lst false (ps.map dtD)] /\ (ps.length <= 30 /\ (∀ p ∈ ps, GD p) /\ ∀ ys, bJ ys (cb ps) -> Q (.lst true (ys.map (d8 ps))))
theorem iR (κ : Cls) (ps : List Dt) (Q : D -> Prop) (Ed : Value -> Prop) : eV κ [.lst false (ps.map dtD)] Q Ed = (ps.length <= 30 /\ (∀ p ∈ ps, GD p) /\ ∀ ys, bJ ys (cb ps) -> Q (.lst true (ys.map (d8 ps)))) := by
 apply propext
 constructor
 ·rintro ⟨x0, e, q⟩
  simp only [T3, zAD, D.int.injEq, D.tup.injEq, D.lst.injEq, and_true, true_and] at e
  have e_ps := e
  have f_ps := aO e_ps
  subst f_ps
  exact q
 ·intro q; exact ⟨_, rfl, q⟩
def dS (κ : Cls) : DSp := fun ds Q Ed => ∃ (u : Int) (o : Int) (w : Int), ds = [.int u, .int o, .int w] /\ (Q (.bl (decide (2 * max u o <= w))))
theorem jH (κ : Cls) (u : Int) (o : Int) (w : Int) (Q : D -> Prop) (Ed : Value -> Prop) : dS κ [.int u, .int o, .int w] Q Ed = (Q (.bl (decide (2 * max u o <= w)))) := by
 apply propext
 constructor
 ·rintro ⟨x0, x1, x2, e, q⟩
  simp only [T3, zAD, D.int.injEq, D.tup.injEq, D.lst.injEq, and_true, true_and] at e
  obtain ⟨rfl, rfl, rfl⟩ := e
  exact q
 ·intro q; exact ⟨_, _, _, rfl, q⟩
def jx (κ : Cls) : DSp := fun ds Q Ed => ∃ (ps : List Dt), ds = [.lst false (ps.map dtD)] /\ (ps.length <= 30 /\ (∀ p ∈ ps, GD p) /\ ∀ ys, bJ ys (cb ps) -> Q (.int ((ys.filter (evB ps)).length : Int)))
theorem jG (κ : Cls) (ps : List Dt) (Q : D -> Prop) (Ed : Value -> Prop) : jx κ [.lst false (ps.map dtD)] Q Ed = (ps.length <= 30 /\ (∀ p ∈ ps, GD p) /\ ∀ ys, bJ ys (cb ps) -> Q (.int ((ys.filter (evB ps)).length : Int))) := by
 apply propext
 constructor
 ·rintro ⟨x0, e, q⟩
  simp only [T3, zAD, D.int.injEq, D.tup.injEq, D.lst.injEq, and_true, true_and] at e
  have e_ps := e
  have f_ps := aO e_ps
  subst f_ps
  exact q
 ·intro q; exact ⟨_, rfl, q⟩
def ic (κ : Cls) : DSp := fun ds Q Ed => ∃ (ps : List Dt) (g0 g1 g2 : Int) (k : Int), ds = [.lst false (ps.map dtD), T3 g0 g1 g2, .int k] /\ (ps.length <= 60 /\ Bd 1000 g0 /\ Bd 1000 g1 /\ Bd 1000 g2 /\ (∀ p ∈ ps, GD p) /\ Q (.bl (decide (2 * max (wt (fun c => decide (c = k)) g0 g1 g2 (-1) ps) (wt (fun c => decide (c = k)) g0 g1 g2 1 ps) <= tot (fun c => decide (c = k)) ps))))
theorem iL (κ : Cls) (ps : List Dt) (g0 g1 g2 : Int) (k : Int) (Q : D -> Prop) (Ed : Value -> Prop) : ic κ [.lst false (ps.map dtD), T3 g0 g1 g2, .int k] Q Ed = (ps.length <= 60 /\ Bd 1000 g0 /\ Bd 1000 g1 /\ Bd 1000 g2 /\ (∀ p ∈ ps, GD p) /\ Q (.bl (decide (2 * max (wt (fun c => decide (c = k)) g0 g1 g2 (-1) ps) (wt (fun c => decide (c = k)) g0 g1 g2 1 ps) <= tot (fun c => decide (c = k)) ps)))) := by
 apply propext
 constructor
 ·rintro ⟨x0, x1, x2, x3, x4, e, q⟩
  simp only [T3, zAD, D.int.injEq, D.tup.injEq, D.lst.injEq, and_true, true_and] at e
  obtain ⟨e_ps, ⟨rfl, rfl, rfl⟩, rfl⟩ := e
  have f_ps := aO e_ps
  subst f_ps
  exact q
 ·intro q; exact ⟨_, _, _, _, _, rfl, q⟩
def ie (κ : Cls) : DSp := fun ds Q Ed => ∃ (ps : List Dt) (g0 g1 g2 : Int) (col : D), ds = [.lst false (ps.map dtD), T3 g0 g1 g2, col] /\ (col = .non /\ ps.length <= 60 /\ Bd 1000 g0 /\ Bd 1000 g1 /\ Bd 1000 g2 /\ (∀ p ∈ ps, GD p) /\ Q (.bl (bg (gv g0 g1 g2) ps)))
theorem iM (κ : Cls) (ps : List Dt) (g0 g1 g2 : Int) (col : D) (Q : D -> Prop) (Ed : Value -> Prop) : ie κ [.lst false (ps.map dtD), T3 g0 g1 g2, col] Q Ed = (col = .non /\ ps.length <= 60 /\ Bd 1000 g0 /\ Bd 1000 g1 /\ Bd 1000 g2 /\ (∀ p ∈ ps, GD p) /\ Q (.bl (bg (gv g0 g1 g2) ps))) := by
 apply propext
 constructor
 ·rintro ⟨x0, x1, x2, x3, x4, e, q⟩
  simp only [T3, zAD, D.int.injEq, D.tup.injEq, D.lst.injEq, and_true, true_and] at e
  obtain ⟨e_ps, ⟨rfl, rfl, rfl⟩, rfl⟩ := e
  have f_ps := aO e_ps
  subst f_ps
  exact q
 ·intro q; exact ⟨_, _, _, _, _, rfl, q⟩
def eI (κ : Cls) : DSp := fun ds Q Ed => ∃ (ps : List Dt) (rs : List (Nat × Nat)) (a b : Int), ds = [.lst false (ps.map dtD), .lst false (rs.map prD), .tup [.int a, .int b]] /\ (ps.length <= 60 /\ (∀ p ∈ ps, GD p) /\ (∀ ij ∈ rs, ij.1 < ps.length /\ ij.2 < ps.length /\ sp2 (gp ps ij.1) ≠ sp2 (gp ps ij.2)) /\ Q (prO (rs.find? fun ij => aZ a ps (gp ps ij.1) (gp ps ij.2) && aZ b ps (gp ps ij.1) (gp ps ij.2))))
theorem fE (κ : Cls) (ps : List Dt) (rs : List (Nat × Nat)) (a b : Int) (Q : D -> Prop) (Ed : Value -> Prop) : eI κ [.lst false (ps.map dtD), .lst false (rs.map prD), .tup [.int a, .int b]] Q Ed = (ps.length <= 60 /\ (∀ p ∈ ps, GD p) /\ (∀ ij ∈ rs, ij.1 < ps.length /\ ij.2 < ps.length /\ sp2 (gp ps ij.1) ≠ sp2 (gp ps ij.2)) /\ Q (prO (rs.find? fun ij => aZ a ps (gp ps ij.1) (gp ps ij.2) && aZ b ps (gp ps ij.1) (gp ps ij.2)))) := by
 apply propext
 constructor
 ·rintro ⟨x0, x1, x2, x3, e, q⟩
  simp only [T3, zAD, D.int.injEq, D.tup.injEq, D.lst.injEq, and_true, true_and] at e
  obtain ⟨e_ps, e_rs, ⟨rfl, rfl⟩⟩ := e
  have f_ps := aO e_ps
  subst f_ps
  have f_rs := nM e_rs
  subst f_rs
  exact q
 ·intro q; exact ⟨_, _, _, _, rfl, q⟩
def eJ (κ : Cls) : DSp := fun ds Q Ed => ∃ (ps : List Dt) (rs : List (Nat × Nat)) (cs : D), ds = [.lst false (ps.map dtD), .lst false (rs.map prD), cs] /\ (cs = .tup [.non] /\ ps.length <= 60 /\ (∀ p ∈ ps, GD p) /\ (∀ ij ∈ rs, ij.1 < ps.length /\ ij.2 < ps.length /\ sp2 (gp ps ij.1) ≠ sp2 (gp ps ij.2)) /\ Q (prO (rs.find? fun ij => bg (tqf ps ij) ps)))
theorem fF (κ : Cls) (ps : List Dt) (rs : List (Nat × Nat)) (cs : D) (Q : D -> Prop) (Ed : Value -> Prop) : eJ κ [.lst false (ps.map dtD), .lst false (rs.map prD), cs] Q Ed = (cs = .tup [.non] /\ ps.length <= 60 /\ (∀ p ∈ ps, GD p) /\ (∀ ij ∈ rs, ij.1 < ps.length /\ ij.2 < ps.length /\ sp2 (gp ps ij.1) ≠ sp2 (gp ps ij.2)) /\ Q (prO (rs.find? fun ij => bg (tqf ps ij) ps))) := by
 apply propext
 constructor
 ·rintro ⟨x0, x1, x2, e, q⟩
  simp only [T3, zAD, D.int.injEq, D.tup.injEq, D.lst.injEq, and_true, true_and] at e
  obtain ⟨e_ps, e_rs, rfl⟩ := e
  have f_ps := aO e_ps
  subst f_ps
  have f_rs := nM e_rs
  subst f_rs
  exact q
 ·intro q; exact ⟨_, _, _, rfl, q⟩
def eK (κ : Cls) : DSp := fun ds Q Ed => ∃ (ps : List Dt) (ij : (Nat × Nat)) (a b : Int), ds = [.lst false (ps.map dtD), prD ij, .tup [.int a, .int b]] /\ (ij.1 < ps.length /\ ij.2 < ps.length /\ Q (.bl (inc a b (gp ps ij.1) && inc a b (gp ps ij.2))))
theorem fG (κ : Cls) (ps : List Dt) (ij : (Nat × Nat)) (a b : Int) (Q : D -> Prop) (Ed : Value -> Prop) : eK κ [.lst false (ps.map dtD), prD ij, .tup [.int a, .int b]] Q Ed = (ij.1 < ps.length /\ ij.2 < ps.length /\ Q (.bl (inc a b (gp ps ij.1) && inc a b (gp ps ij.2)))) := by
 apply propext
 constructor
 ·rintro ⟨x0, x1, x2, x3, e, q⟩
  simp only [T3, zAD, D.int.injEq, D.tup.injEq, D.lst.injEq, and_true, true_and] at e
  obtain ⟨e_ps, e_ij, ⟨rfl, rfl⟩⟩ := e
  have f_ps := aO e_ps
  subst f_ps
  have f_ij := iJ e_ij
  subst f_ij
  exact q
 ·intro q; exact ⟨_, _, _, _, rfl, q⟩
def gz (κ : Cls) : DSp := fun ds Q Ed => ∃ (ps : List Dt) (a : Int) (b : Int), ds = [.lst false (ps.map dtD), .int a, .int b] /\ (ps.length <= 60 /\ (∀ p ∈ ps, GD p) /\ Q (prO (fpO a b ps)))
theorem gP (κ : Cls) (ps : List Dt) (a : Int) (b : Int) (Q : D -> Prop) (Ed : Value -> Prop) : gz κ [.lst false (ps.map dtD), .int a, .int b] Q Ed = (ps.length <= 60 /\ (∀ p ∈ ps, GD p) /\ Q (prO (fpO a b ps))) := by
 apply propext
 constructor
 ·rintro ⟨x0, x1, x2, e, q⟩
  simp only [T3, zAD, D.int.injEq, D.tup.injEq, D.lst.injEq, and_true, true_and] at e
  obtain ⟨e_ps, rfl, rfl⟩ := e
  have f_ps := aO e_ps
  subst f_ps
  exact q
 ·intro q; exact ⟨_, _, _, rfl, q⟩
def iu (κ : Cls) : DSp := fun ds Q Ed => ∃ (ps : List Dt) (g0 g1 g2 : Int) (o0 o1 o2 : Int), ds = [.lst false (ps.map dtD), T3 g0 g1 g2, T3 o0 o1 o2] /\ (Bd 1000 g0 /\ Bd 1000 g1 /\ Bd 1000 g2 /\ Bd 1000 o0 /\ Bd 1000 o1 /\ Bd 1000 o2 /\ ps.length <= 60 /\ (∀ p ∈ ps, GD p) /\ Q (.lst true ((kC (gv g0 g1 g2) (gv o0 o1 o2) ps).map D.int)))
theorem iT (κ : Cls) (ps : List Dt) (g0 g1 g2 : Int) (o0 o1 o2 : Int) (Q : D -> Prop) (Ed : Value -> Prop) : iu κ [.lst false (ps.map dtD), T3 g0 g1 g2, T3 o0 o1 o2] Q Ed = (Bd 1000 g0 /\ Bd 1000 g1 /\ Bd 1000 g2 /\ Bd 1000 o0 /\ Bd 1000 o1 /\ Bd 1000 o2 /\ ps.length <= 60 /\ (∀ p ∈ ps, GD p) /\ Q (.lst true ((kC (gv g0 g1 g2) (gv o0 o1 o2) ps).map D.int))) := by
 apply propext
 constructor
 ·rintro ⟨x0, x1, x2, x3, x4, x5, x6, e, q⟩
  simp only [T3, zAD, D.int.injEq, D.tup.injEq, D.lst.injEq, and_true, true_and] at e
  obtain ⟨e_ps, ⟨rfl, rfl, rfl⟩, ⟨rfl, rfl, rfl⟩⟩ := e
  have f_ps := aO e_ps
  subst f_ps
  exact q
 ·intro q; exact ⟨_, _, _, _, _, _, _, rfl, q⟩
def cE (κ : Cls) : DSp := fun ds Q Ed => ∃ (ps : List Dt) (rs : List (Nat × Nat)) (g0 g1 g2 : Int), ds = [.lst false (ps.map dtD), .lst false (rs.map prD), T3 g0 g1 g2] /\ (ps.length <= 60 /\ Bd 1000 g0 /\ Bd 1000 g1 /\ Bd 1000 g2 /\ (∀ p ∈ ps, GD p) /\ (∀ ij ∈ rs, ij.1 < ps.length /\ ij.2 < ps.length /\ sp2 (gp ps ij.1) ≠ sp2 (gp ps ij.2)) /\ Q (prO (rs.find? fun ij => quB (gv g0 g1 g2) (tqf ps ij) ps)))
theorem cZ (κ : Cls) (ps : List Dt) (rs : List (Nat × Nat)) (g0 g1 g2 : Int) (Q : D -> Prop) (Ed : Value -> Prop) : cE κ [.lst false (ps.map dtD), .lst false (rs.map prD), T3 g0 g1 g2] Q Ed = (ps.length <= 60 /\ Bd 1000 g0 /\ Bd 1000 g1 /\ Bd 1000 g2 /\ (∀ p ∈ ps, GD p) /\ (∀ ij ∈ rs, ij.1 < ps.length /\ ij.2 < ps.length /\ sp2 (gp ps ij.1) ≠ sp2 (gp ps ij.2)) /\ Q (prO (rs.find? fun ij => quB (gv g0 g1 g2) (tqf ps ij) ps))) := by
 apply propext
 constructor
 ·rintro ⟨x0, x1, x2, x3, x4, e, q⟩
  simp only [T3, zAD, D.int.injEq, D.tup.injEq, D.lst.injEq, and_true, true_and] at e
  obtain ⟨e_ps, e_rs, ⟨rfl, rfl, rfl⟩⟩ := e
  have f_ps := aO e_ps
  subst f_ps
  have f_rs := nM e_rs
  subst f_rs
  exact q
 ·intro q; exact ⟨_, _, _, _, _, rfl, q⟩
def gE (κ : Cls) : DSp := fun ds Q Ed => ∃ (ps : List Dt), ds = [.lst false (ps.map dtD)] /\ (ps.length <= 60 /\ (∀ p ∈ ps, GD p) /\ Pos ps /\ Q (dh ps))
theorem gS (κ : Cls) (ps : List Dt) (Q : D -> Prop) (Ed : Value -> Prop) : gE κ [.lst false (ps.map dtD)] Q Ed = (ps.length <= 60 /\ (∀ p ∈ ps, GD p) /\ Pos ps /\ Q (dh ps)) := by
 apply propext
 constructor
 ·rintro ⟨x0, e, q⟩
  simp only [T3, zAD, D.int.injEq, D.tup.injEq, D.lst.injEq, and_true, true_and] at e
  have e_ps := e
  have f_ps := aO e_ps
  subst f_ps
  exact q
 ·intro q; exact ⟨_, rfl, q⟩
def dU (κ : Cls) : DSp := fun ds Q Ed => ∃ (a : Int), ds = [.int a] /\ (Q (.bl true))
theorem gQ (κ : Cls) (a : Int) (Q : D -> Prop) (Ed : Value -> Prop) : dU κ [.int a] Q Ed = (Q (.bl true)) := by
 apply propext
 constructor
 ·rintro ⟨x0, e, q⟩
  simp only [T3, zAD, D.int.injEq, D.tup.injEq, D.lst.injEq, and_true, true_and] at e
  obtain rfl := e
  exact q
 ·intro q; exact ⟨_, rfl, q⟩
def cT (κ : Cls) : DSp := fun ds Q Ed => ∃ (ns : List Int) (k : Int), ds = [.lst false (ns.map D.int), .int k] /\ (0 <= k /\ ns.length <= 63 /\ ∀ v : Int, Q (.int v))
theorem fH (κ : Cls) (ns : List Int) (k : Int) (Q : D -> Prop) (Ed : Value -> Prop) : cT κ [.lst false (ns.map D.int), .int k] Q Ed = (0 <= k /\ ns.length <= 63 /\ ∀ v : Int, Q (.int v)) := by
 apply propext
 constructor
 ·rintro ⟨x0, x1, e, q⟩
  simp only [T3, zAD, D.int.injEq, D.tup.injEq, D.lst.injEq, and_true, true_and] at e
  obtain ⟨e_ns, rfl⟩ := e
  have f_ns := eR e_ns
  subst f_ns
  exact q
 ·intro q; exact ⟨_, _, rfl, q⟩
def df (κ : Cls) : DSp := fun ds Q Ed => ∃ (c : Int) (m : Int), ds = [.int c, .int m] /\ (0 <= m /\ m < 1000 /\ ∀ xs : List Int, xs.length = m.toNat -> (∀ x ∈ xs, 0 <= x /\ x < 10000000000000) -> Q (.lst true (xs.map D.int)))
theorem gB (κ : Cls) (c : Int) (m : Int) (Q : D -> Prop) (Ed : Value -> Prop) : df κ [.int c, .int m] Q Ed = (0 <= m /\ m < 1000 /\ ∀ xs : List Int, xs.length = m.toNat -> (∀ x ∈ xs, 0 <= x /\ x < 10000000000000) -> Q (.lst true (xs.map D.int))) := by
 apply propext
 constructor
 ·rintro ⟨x0, x1, e, q⟩
  simp only [T3, zAD, D.int.injEq, D.tup.injEq, D.lst.injEq, and_true, true_and] at e
  obtain ⟨rfl, rfl⟩ := e
  exact q
 ·intro q; exact ⟨_, _, rfl, q⟩
def iq (κ : Cls) : DSp := fun ds Q Ed => ∃ (k : Int) (xs : List Int) (w0 w1 w2 : Int), ds = [.int k, .lst false (xs.map D.int), T3 w0 w1 w2] /\ (xs.length = 4 /\ (∀ x ∈ xs, 0 <= x /\ x < 10000000000000) /\ Bd 8 w0 /\ Bd 8 w1 /\ Bd 8 w2 /\ ∀ a b : Int, Bd 40 a -> Bd 40 b -> Q (.tup [.int a, .int b]))
theorem iQ (κ : Cls) (k : Int) (xs : List Int) (w0 w1 w2 : Int) (Q : D -> Prop) (Ed : Value -> Prop) : iq κ [.int k, .lst false (xs.map D.int), T3 w0 w1 w2] Q Ed = (xs.length = 4 /\ (∀ x ∈ xs, 0 <= x /\ x < 10000000000000) /\ Bd 8 w0 /\ Bd 8 w1 /\ Bd 8 w2 /\ ∀ a b : Int, Bd 40 a -> Bd 40 b -> Q (.tup [.int a, .int b])) := by
 apply propext
 constructor
 ·rintro ⟨x0, x1, x2, x3, x4, e, q⟩
  simp only [T3, zAD, D.int.injEq, D.tup.injEq, D.lst.injEq, and_true, true_and] at e
  obtain ⟨rfl, e_xs, ⟨rfl, rfl, rfl⟩⟩ := e
  have f_xs := eR e_xs
  subst f_xs
  exact q
 ·intro q; exact ⟨_, _, _, _, _, rfl, q⟩
def ig (κ : Cls) : DSp := fun ds Q Ed => ∃ (f : Int) (cs : List Int) (m : Int), ds = [.int f, .lst false (cs.map D.int), .int m] /\ (cs.length <= 63 /\ 0 <= m /\ m <= 30 /\ ∀ ps : List Dt, ps.length <= 30 -> (∀ p ∈ ps, GD p /\ Bd 40 p.1 /\ Bd 40 p.2.1) -> Pos ps -> Q (.lst true (ps.map dtD)))
theorem eL (κ : Cls) (f : Int) (cs : List Int) (m : Int) (Q : D -> Prop) (Ed : Value -> Prop) : ig κ [.int f, .lst false (cs.map D.int), .int m] Q Ed = (cs.length <= 63 /\ 0 <= m /\ m <= 30 /\ ∀ ps : List Dt, ps.length <= 30 -> (∀ p ∈ ps, GD p /\ Bd 40 p.1 /\ Bd 40 p.2.1) -> Pos ps -> Q (.lst true (ps.map dtD))) := by
 apply propext
 constructor
 ·rintro ⟨x0, x1, x2, e, q⟩
  simp only [T3, zAD, D.int.injEq, D.tup.injEq, D.lst.injEq, and_true, true_and] at e
  obtain ⟨rfl, e_cs, rfl⟩ := e
  have f_cs := eR e_cs
  subst f_cs
  exact q
 ·intro q; exact ⟨_, _, _, rfl, q⟩
def jy (κ : Cls) : DSp := fun ds Q Ed => ∃ (ns : List Int), ds = [.lst false (ns.map D.int)] /\ (ns.length <= 63 /\ ∀ M : Mp, M.det ≠ 0 -> Bd 8 M.a -> Bd 8 M.b -> Bd 8 M.c -> Bd 8 M.d -> Bd 21 M.e -> Bd 21 M.f -> Q (.lst true [.int M.a, .int M.b, .int M.c, .int M.d, .int M.e, .int M.f]))
theorem jI (κ : Cls) (ns : List Int) (Q : D -> Prop) (Ed : Value -> Prop) : jy κ [.lst false (ns.map D.int)] Q Ed = (ns.length <= 63 /\ ∀ M : Mp, M.det ≠ 0 -> Bd 8 M.a -> Bd 8 M.b -> Bd 8 M.c -> Bd 8 M.d -> Bd 21 M.e -> Bd 21 M.f -> Q (.lst true [.int M.a, .int M.b, .int M.c, .int M.d, .int M.e, .int M.f])) := by
 apply propext
 constructor
 ·rintro ⟨x0, e, q⟩
  simp only [T3, zAD, D.int.injEq, D.tup.injEq, D.lst.injEq, and_true, true_and] at e
  have e_ns := e
  have f_ns := eR e_ns
  subst f_ns
  exact q
 ·intro q; exact ⟨_, rfl, q⟩
def ip (κ : Cls) : DSp := fun ds Q Ed => ∃ (ps : List Dt) (m : D), ds = [.lst false (ps.map dtD), m] /\ (∃ M : Mp, m = .lst false [.int M.a, .int M.b, .int M.c, .int M.d, .int M.e, .int M.f] /\ ps.length <= 30 /\ (Bd 8 M.a /\ Bd 8 M.b /\ Bd 8 M.c /\ Bd 8 M.d) /\ (∀ p ∈ ps, Bd 40 p.1 /\ Bd 40 p.2.1) /\ Q (.lst true ((ps.map M.to).map dtD)))
theorem iP (κ : Cls) (ps : List Dt) (m : D) (Q : D -> Prop) (Ed : Value -> Prop) : ip κ [.lst false (ps.map dtD), m] Q Ed = (∃ M : Mp, m = .lst false [.int M.a, .int M.b, .int M.c, .int M.d, .int M.e, .int M.f] /\ ps.length <= 30 /\ (Bd 8 M.a /\ Bd 8 M.b /\ Bd 8 M.c /\ Bd 8 M.d) /\ (∀ p ∈ ps, Bd 40 p.1 /\ Bd 40 p.2.1) /\ Q (.lst true ((ps.map M.to).map dtD))) := by
 apply propext
 constructor
 ·rintro ⟨x0, x1, e, q⟩
  simp only [T3, zAD, D.int.injEq, D.tup.injEq, D.lst.injEq, and_true, true_and] at e
  obtain ⟨e_ps, rfl⟩ := e
  have f_ps := aO e_ps
  subst f_ps
  exact q
 ·intro q; exact ⟨_, _, rfl, q⟩
def fy (κ : Cls) : DSp := fun ds Q Ed => ∃ (ps : List Dt), ds = [.lst false (ps.map dtD)] /\ (ps.length <= 30 /\ (∀ p ∈ ps, GD p) /\ ∀ zs : List Tr, (∃ ys, bJ ys (cb ps) /\ zs.Perm (ys.map (dZ ps))) -> UpT zs -> Q (.lst true (zs.map trD)))
theorem gA (κ : Cls) (ps : List Dt) (Q : D -> Prop) (Ed : Value -> Prop) : fy κ [.lst false (ps.map dtD)] Q Ed = (ps.length <= 30 /\ (∀ p ∈ ps, GD p) /\ ∀ zs : List Tr, (∃ ys, bJ ys (cb ps) /\ zs.Perm (ys.map (dZ ps))) -> UpT zs -> Q (.lst true (zs.map trD))) := by
 apply propext
 constructor
 ·rintro ⟨x0, e, q⟩
  simp only [T3, zAD, D.int.injEq, D.tup.injEq, D.lst.injEq, and_true, true_and] at e
  have e_ps := e
  have f_ps := aO e_ps
  subst f_ps
  exact q
 ·intro q; exact ⟨_, rfl, q⟩
def ik (κ : Cls) : DSp := fun ds Q Ed => ∃ (found : D), ds = [found] /\ (∃ o, found = prO o /\ Q (.bl true))
theorem iO (κ : Cls) (found : D) (Q : D -> Prop) (Ed : Value -> Prop) : ik κ [found] Q Ed = (∃ o, found = prO o /\ Q (.bl true)) := by
 apply propext
 constructor
 ·rintro ⟨x0, e, q⟩
  simp only [T3, zAD, D.int.injEq, D.tup.injEq, D.lst.injEq, and_true, true_and] at e
  obtain rfl := e
  exact q
 ·intro q; exact ⟨_, rfl, q⟩
section
variable {P : Program} {w : World} {K : PySem.W.Frag} {mg : Str -> Option Value} {base : Heap} {κ : Cls}
local macro_rules | `(tactic| walk_at "rd") => do
 let l := ("uo ui uq xo xi dOp dB xf dOr xm ud uj dIf xj dC kr pY uv uh lU dCB dIs vz vA yL yM tM qT ya yb wc qI tF qJ fV qm wj o5 xn ng ni sP sQ iY nc vS vU vT zAG zA8 Au uG bN rE gT oM dE oI cg bQ iy qV lE yz vJ sO at0 at1 at2 at3 zBC zB2 zBv tm tu wI sW sV ox sU mz ou ow ot oq true_and false_and and_false false_or or_false exists_false ug o6 um tP tO jX xg gd2 zAY Bool.true_eq_false if_false if_true decide_eq_true_eq Bool.not_eq_eq_eq_not zB6 Bool.not_false decide_eq_false_iff_not ite_not pK vh vg wb tH xh ue pZ qg uD ur p5 xk xp uk iB p4 vM vN tS sE lr pL pX wk zCD List.set_cons_succ nh vK vL yA uf pW ux nj qc uB mT k9 mS iS jK gR k8 fD dR jJ iN jF k5 kY kZ fg gF dq gC iU gD iR jH jG iL iM fE fF fG gP iT cZ gS gQ fH gB iQ eL jI iP gA iO lg ki gI mW oJ jz oK gd6 uG".splitOn " ").toArray.map fun s => Lean.mkIdent s.toName
 `(tactic| try simp only [$[$l:ident],*])
local macro_rules | `(tactic| walk_at "rx") => do
 let l := ("uo ui uq xo xi dOp dB xf dOr xm ud uj dIf xj dC kr pY uv uh lU dCB dIs vz vA yL yM tM qT ya yb wc qI tF qJ fV qm wj o5 xn ng ni sP sQ nc vS vU vT zAG zA8 Au uG bN rE gT oM dE oI cg bQ iy qV lE yz vJ sO at0 at1 at2 at3 zBC zB2 zBv tm tu wI sW sV ox sU mz ou ow ot oq true_and false_and and_false false_or or_false exists_false o6 um tP tO jX xg gd2 zAY Bool.true_eq_false if_false if_true decide_eq_true_eq Bool.not_eq_eq_eq_not zB6 Bool.not_false decide_eq_false_iff_not ite_not pK vh vg wb tH xh ue pZ qg uD ur p5 xk xp uk iB p4 vM vN tS sE lr pL pX wk zCD List.set_cons_succ nh vK vL yA uf pW ux nj qc uB mT k9 mS iS jK gR k8 fD dR jJ iN jF k5 kY kZ fg gF dq gC iU gD iR jH jG iL iM fE fF fG gP iT cZ gS gQ fH gB iQ eL jI iP gA iO lg ki gI mW oJ jz oK gd6 uG".splitOn " ").toArray.map fun s => Lean.mkIdent s.toName
 `(tactic| try simp only [$[$l:ident],*])
theorem zA {f : Addr} {fd : FuncData} (F : av K "sign" "sign" rf f fd) (C : COk K mg κ)   : aD P w K mg base (CX1 P w) 1 f fd ["number"] (aE K (nU κ)) := by
 refine av.okN F zP (fun ds Q E h => by obtain ⟨_, rfl, _⟩ := h; rfl) fun cdv A outer s H E hr => ⟨_, (ah (aY (aQ uP (dv 0) ae) (ao (aw ae)) aM) (ah (aY (aQ uQ (dv 0) ae) (ao (aw (bU ae))) aM) (ao (aw ae)))), ?_⟩
 rintro ds Q Ed ⟨n, rfl, h⟩
 have e0 : aA ["number"] [.int n] = ([some (.val (.int n))] : Ro) := rfl
 rw [e0]; clear e0
 walk_at "rd"
 unfold sg at h
 split
 ·rename_i h0; rw [if_pos h0] at h; exact h
 ·rename_i h0
  rw [if_neg h0] at h
  split
  ·rename_i h1; rw [if_pos h1] at h; exact h
  ·rename_i h1; rw [if_neg h1] at h; exact h
theorem xW {f : Addr} {fd : FuncData} (F : av K "value" "value" nP f fd) (C : COk K mg κ)   : aD P w K mg base (CX1 P w) 1 f fd ["gauge", "place"] (aE K (lJ κ)) := by
 refine av.okN F yo (fun ds Q E h => by obtain ⟨_, _, _, _, _, _, rfl, _⟩ := h; rfl) fun cdv A outer s H E hr => ⟨_, (ao (aw (ar aP (ar aP (ar aN (au (dv 0) ae) (au (dv 1) ae)) (ar aN (au (dv 0) ae) (au (dv 1) ae))) (ar aN (au (dv 0) ae) (au (dv 1) ae))))), ?_⟩
 rintro ds Q Ed ⟨g0, g1, g2, p0, p1, p2, rfl, h⟩
 have e0 : aA ["gauge", "place"] [T3 g0 g1 g2, T3 p0 p1 p2] = ([some (.val (T3 g0 g1 g2)), some (.val (T3 p0 p1 p2))] : Ro) := rfl
 rw [e0]; clear e0
 obtain ⟨h0, h1, h2, k0, k1, k2, h⟩ := h
 have cm : ∀ {x y : Int}, Bd 1000 x -> Bd 1000 y -> CM x y := fun hx hy => .inr (.inr ⟨hx.mono (by decide), hy.mono (by decide)⟩)
 walk_at "rd"
 exact ⟨cm h0 k0, cm h1 k1, cm h2 k2, h⟩
theorem zw {f : Addr} {fd : FuncData} (F : av K "side" "side" q9 f fd) (C : COk K mg κ) (h_sign : Has P w K mg base "sign" 1 ["number"] (nU κ)) (h_value : Has P w K mg base "value" 1 ["gauge", "place"] (lJ κ))  : aD P w K mg base (CX1 P w) 2 f fd ["gauge", "place"] (aE K (kN κ)) := by
 refine av.okN F zO (fun ds Q E h => by obtain ⟨_, _, _, _, _, _, rfl, _⟩ := h; rfl) fun cdv A outer s H E hr => ⟨_, (ao (aw (ak h_sign (hr.mono (by decide)) (aa (ak h_value (hr.mono (by decide)) (aa (dv 0) (aa (dv 1) ag))) ag)))), ?_⟩
 rintro ds Q Ed ⟨g0, g1, g2, p0, p1, p2, rfl, h⟩
 have e0 : aA ["gauge", "place"] [T3 g0 g1 g2, T3 p0 p1 p2] = ([some (.val (T3 g0 g1 g2)), some (.val (T3 p0 p1 p2))] : Ro) := rfl
 rw [e0]; clear e0
 obtain ⟨h0, h1, h2, k0, k1, k2, h⟩ := h
 walk_at "rd"
 exact ⟨h0, h1, h2, k0, k1, k2, h⟩
theorem sd {f : Addr} {fd : FuncData} (F : av K "place_of" "place_of" jr f fd) (C : COk K mg κ)   : aD P w K mg base (CX1 P w) 1 f fd ["spot"] (aE K (cB κ)) := by
 refine av.okN F su (fun ds Q E h => by obtain ⟨_, _, rfl, _⟩ := h; rfl) fun cdv A outer s H E hr => ⟨_, (ao (aw (aK (aa ae (aa (au (dv 0) ae) (aa (au (dv 0) ae) ag)))))), ?_⟩
 rintro ds Q Ed ⟨a, b, rfl, h⟩
 have e0 : aA ["spot"] [.tup [.int a, .int b]] = ([some (.val (.tup [.int a, .int b]))] : Ro) := rfl
 rw [e0]; clear e0
 walk_at "rd"
 exact ⟨sz3 _ _ _, h⟩
theorem uW {f : Addr} {fd : FuncData} (F : av K "spot_of" "spot_of" kf f fd) (C : COk K mg κ)   : aD P w K mg base (CX1 P w) 1 f fd ["dot"] (aE K (cc κ)) := by
 refine av.okN F u4 (fun ds Q E h => by obtain ⟨_, rfl, _⟩ := h; rfl) fun cdv A outer s H E hr => ⟨_, (ao (aw (aK (aa (au (dv 0) ae) (aa (au (dv 0) ae) ag))))), ?_⟩
 rintro ds Q Ed ⟨p, rfl, h⟩
 have e0 : aA ["dot"] [dtD p] = ([some (.val (dtD p))] : Ro) := rfl
 rw [e0]; clear e0
 unfold dtD
 walk_at "rd"
 exact ⟨sz2 _ _, h⟩
theorem qM {f : Addr} {fd : FuncData} (F : av K "of_colour" "of_colour" eT f fd) (C : COk K mg κ)   : aD P w K mg base (CX1 P w) 1 f fd ["dots", "colour"] (aE K (dW κ)) := by
 refine av.okN F rm (fun ds Q E h => by obtain ⟨_, _, rfl, _⟩ := h; rfl) fun cdv A outer s H E hr => ⟨_, (ao (aw (cP (by rfl) (by exact bT (osc := ai eT) (xs := ["dot"]) (ns := ["colour"]) (by decide +kernel)) (bj.cons 1 bj.nil) (aX (dv 0)) (fun _ _ _ _ _ => (mV (o7 (aQ wF (dv 1) eY) (mf (aQ (yD (by exact hr.units)) (au (dv 0) ae) (dv 1)))).pt)) (fun _ _ _ _ _ => (dv 0))))), ?_⟩
 rintro ds Q Ed ⟨ps, col, rfl, h⟩
 have e0 : aA ["dots", "colour"] [.lst false (ps.map dtD), col] = ([some (.val (.lst false (ps.map dtD))), some (.val (col))] : Ro) := rfl
 rw [e0]; clear e0
 obtain ⟨cs, hc, hl, h⟩ := h
 walk_at "rx"
 refine PD.comp_map ps dtD (fun p => cs p.2.2.1) dtD (fun R q => ?_) (by rw [sizeLine_eq]; omega) (fun p hp K hk => ?_) (fun p hp _ K hk => ?_) h
 ·walk_at "rd"
  exact q
 ·unfold dtD
  rcases hc with ⟨rfl, rfl⟩ | ⟨k, rfl, rfl⟩
  ·walk_at "rd"
   exact hk
  ·walk_at "rd"
   exact hk
 ·walk_at "rd"
  exact hk
theorem xV {f : Addr} {fd : FuncData} (F : av K "total" "total" eE f fd) (C : COk K mg κ) (h_of_colour : Has P w K mg base "of_colour" 1 ["dots", "colour"] (dW κ)) (z_sum : mg "sum" = none) : aD P w K mg base (CX1 P w) 2 f fd ["dots", "colour"] (aE K (du κ)) := by
 refine av.okN F yn (fun ds Q E h => by obtain ⟨_, _, rfl, _⟩ := h; rfl) fun cdv A outer s H E hr => ⟨_, (ao (aw (bo (Ac rfl) (by rfl) z_sum boot_sum (aa (cP (by rfl) (by exact bT (osc := ai eE) (xs := ["dot"]) (ns := []) (by decide +kernel)) bj.nil (aX (ak h_of_colour (hr.mono (by decide)) (aa (dv 0) (aa (dv 1) ag)))) (fun _ _ _ _ _ => gH) (fun _ _ _ _ _ => (au (dv 0) ae))) ag)))), ?_⟩
 rintro ds Q Ed ⟨ps, col, rfl, h⟩
 have e0 : aA ["dots", "colour"] [.lst false (ps.map dtD), col] = ([some (.val (.lst false (ps.map dtD))), some (.val (col))] : Ro) := rfl
 rw [e0]; clear e0
 obtain ⟨cs, hc, hl, h⟩ := h
 have hu := hc.unt
 unfold tot at h
 walk_at "rx"
 refine PD.comp_map (ps.filter fun p => cs p.2.2.1) dtD (fun _ => true) (fun p => .int p.2.2.2) (fun R q => ?_) (by have := List.length_filter_le (fun p : Dt => cs p.2.2.1) ps; rw [sizeLine_eq]; omega) (fun p hp K hk => ?_) (fun p hp _ K hk => ?_) ⟨true, (ps.filter fun p => cs p.2.2.1).map fun p => p.2.2.2, by simp [zAg, Function.comp_def], h⟩
 ·walk_at "rd"
  simp only [hu]
  exact ⟨cs, hc, hl, q⟩
 ·walk_at "rd"
  exact hk
 ·unfold dtD
  walk_at "rd"
  exact hk
theorem uX {f : Addr} {fd : FuncData} (F : av K "weighed" "weighed" dD f fd) (C : COk K mg κ) (h_of_colour : Has P w K mg base "of_colour" 1 ["dots", "colour"] (dW κ)) (h_place_of : Has P w K mg base "place_of" 1 ["spot"] (cB κ)) (h_side : Has P w K mg base "side" 2 ["gauge", "place"] (kN κ)) (h_spot_of : Has P w K mg base "spot_of" 1 ["dot"] (cc κ))  : aD P w K mg base (CX1 P w) 3 f fd ["dots", "gauge", "colour"] (aE K (cf κ)) := by
 refine av.okN F jv (fun ds Q E h => by obtain ⟨_, _, _, _, _, rfl, _⟩ := h; rfl) fun cdv A outer s H E hr => ⟨_, (ah (xu 3 jv.nd (nA (bU ae) ae (nA ae ae (nA ae ae Aj)))) (ah (bW PassesOwn.never rfl (aX (ak h_of_colour (hr.mono (by decide)) (aa (dv 0) (aa (dv 2) ag)))) (aJ 4 jv.nd) (ao (yW 3 (by exact ja hr) (ak h_side (hr.mono (by decide)) (aa (dv 1) (aa (ak h_place_of (hr.mono (by decide)) (aa (ak h_spot_of (hr.mono (by decide)) (aa (dv 4) ag)) ag)) ag))) (au (dv 4) ae)))) (ao (aw (aK (aa (qa 3 (by exact ja hr) (bU ae)) (aa (qa 3 (by exact ja hr) ae) (aa (qa 3 (by exact ja hr) ae) ag)))))))), ?_⟩
 rintro ds Q Ed ⟨ps, g0, g1, g2, col, rfl, h⟩
 have e0 : aA ["dots", "gauge", "colour", "weights", "dot"] [.lst false (ps.map dtD), T3 g0 g1 g2, col] = ([some (.val (.lst false (ps.map dtD))), some (.val (T3 g0 g1 g2)), some (.val (col)), none, none] : Ro) := rfl
 rw [e0]; clear e0
 obtain ⟨cs, hc, hl, h0, h1, h2, hg, h⟩ := h
 have hu := hc.unt
 walk_at "rx"
 refine ⟨[(.inl (-1), .int 0), (.inl 0, .int 0), (.inl 1, .int 0)], rfl, by decide, by decide, ?_⟩
 refine PD.nE (ps.filter fun p => cs p.2.2.1) dtD (fun done ρ => ∃ v, ρ = [some (.val (.lst false (ps.map dtD))), some (.val (T3 g0 g1 g2)), some (.val col), some (.ob (.dk [(.inl (-1), .int (w3 g0 g1 g2 (-1) done)), (.inl 0, .int (w3 g0 g1 g2 0 done)), (.inl 1, .int (w3 g0 g1 g2 1 done))])), v]) (fun R q => ?_) ⟨none, rfl⟩ ?_ ?_
 ·walk_at "rd"
  simp only [hu]
  exact ⟨cs, hc, hl, q⟩
 ·rintro done p ρ' hp hlt ⟨v, rfl⟩
  have G := hg p (zBJ.mp hp).1
  have e : g0 * 1 + g1 * p.1 + g2 * p.2.1 = gv g0 g1 g2 p := by unfold gv; omega
  walk_at "rd"
  refine ⟨h0, h1, h2, Bd.mono (m := 2) (by unfold Bd; decide) (by decide), G.x.mono (by decide), G.y.mono (by decide), ?_⟩
  rw [e]
  have sn := zW g0 g1 g2
  rcases sg3 (gv g0 g1 g2 p) with z | z | z
  ·refine ⟨.inl (-1), _, by rw [z]; rfl, rfl, ?_⟩
   unfold dtD
   walk_at "rd"
   refine ⟨by rw [sizeLine_eq]; show 3 < 16777216; decide, some (.val (.tup [.int p.1, .int p.2.1, .int p.2.2.1, .int p.2.2.2])), ?_⟩
   rw [Bs, sn, sn, sn, z]
   simp
  ·refine ⟨.inl 0, _, by rw [z]; rfl, rfl, ?_⟩
   unfold dtD
   walk_at "rd"
   refine ⟨by rw [sizeLine_eq]; show 3 < 16777216; decide, some (.val (.tup [.int p.1, .int p.2.1, .int p.2.2.1, .int p.2.2.2])), ?_⟩
   rw [Bt, sn, sn, sn, z]
   simp
  ·refine ⟨.inl 1, _, by rw [z]; rfl, rfl, ?_⟩
   unfold dtD
   walk_at "rd"
   refine ⟨by rw [sizeLine_eq]; show 3 < 16777216; decide, some (.val (.tup [.int p.1, .int p.2.1, .int p.2.2.1, .int p.2.2.2])), ?_⟩
   rw [Bu, sn, sn, sn, z]
   simp
 ·rintro ρ' ⟨v, rfl⟩
  walk_at "rd"
  exact ⟨.inl (-1), _, rfl, rfl, .inl 0, _, rfl, rfl, .inl 1, _, rfl, rfl, sz3 _ _ _, h⟩
theorem kQ {f : Addr} {fd : FuncData} (F : av K "common_divisor" "common_divisor" dj f fd) (C : COk K mg κ)  (z_abs : mg "abs" = none) : aD P w K mg base (CX1 P w) 1 f fd ["one", "other"] (aE K (cV κ)) := by
 refine av.okN F bR (fun ds Q E h => by obtain ⟨_, _, rfl, _⟩ := h; rfl) fun cdv A outer s H E hr => ⟨_, (ah (xv PassesOwn.never (aQ qG (dv 1) ae) (ah (aB 2 bR.nd (ar aH (dv 0) (dv 1))) (ah (aB 0 bR.nd (dv 1)) (ao (aB 1 bR.nd (dv 2)))))) (ao (aw (bo vo (by rfl) z_abs boot_abs (aa (dv 0) ag))))), ?_⟩
 rintro ds Q Ed ⟨a, b, rfl, h⟩
 have e0 : aA ["one", "other", "rest"] [.int a, .int b] = ([some (.val (.int a)), some (.val (.int b)), none] : Ro) := rfl
 rw [e0]; clear e0
 refine ⟨fun m ρ => ∃ (x y : Int) (r : Option Sl), ρ = [some (.val (.int x)), some (.val (.int y)), r] /\ Int.gcd x y = Int.gcd a b /\ m = y.natAbs, ⟨_, a, b, none, rfl, rfl, rfl⟩, ?_⟩
 rintro m ρ ⟨x, y, r, rfl, hg, rfl⟩
 walk_at "rd"
 by_cases hy : y = 0
 ·subst hy
  rw [PM.vR] at hg
  rw [if_pos rfl, hg]
  exact h
 ·rw [if_neg hy]
  exact ⟨hy, _, PM.vP x hy, y, x.fmod y, _, rfl, (PM.xA x y).trans hg, rfl⟩
theorem uV {f : Addr} {fd : FuncData} (F : av K "reduced" "reduced" kc f fd) (C : COk K mg κ) (h_common_divisor : Has P w K mg base "common_divisor" 1 ["one", "other"] (cV κ))  : aD P w K mg base (CX1 P w) 2 f fd ["triple", "lead"] (aE K (fR κ)) := by
 refine av.okN F ju (fun ds Q E h => by obtain ⟨_, _, _, _, rfl, _⟩ := h; rfl) fun cdv A outer s H E hr => ⟨_, (ah (aB 2 ju.nd (ak h_common_divisor (hr.mono (by decide)) (aa (ak h_common_divisor (hr.mono (by decide)) (aa (au (dv 0) ae) (aa (au (dv 0) ae) ag))) (aa (au (dv 0) ae) ag)))) (ah (aY (aQ uQ (dv 1) ae) (ao (aB 2 ju.nd (bU (dv 2)))) aM) (ao (aw (aK (aa (ar bX (au (dv 0) ae) (dv 2)) (aa (ar bX (au (dv 0) ae) (dv 2)) (aa (ar bX (au (dv 0) ae) (dv 2)) ag)))))))), ?_⟩
 rintro ds Q Ed ⟨x, y, z, l, rfl, h⟩
 have e0 : aA ["triple", "lead", "divisor"] [T3 x y z, .int l] = ([some (.val (T3 x y z)), some (.val (.int l)), none] : Ro) := rfl
 rw [e0]; clear e0
 obtain ⟨hz, bx, by', bz, h⟩ := h
 have hne := PM.l9 (l := l) hz
 have hbd := (vi (l := l) hz bx by' bz).mono (show 4000 <= 8000 by decide)
 walk_at "rd"
 have eg : ((Int.gcd (Int.gcd x y : Int) z : Nat) : Int) = (PM.g3 x y z : Int) := rfl
 rw [eg]
 have fin : ∀ g : Int, g = PM.dv3 x y z l -> CD x g /\ CD y g /\ CD z g /\ ([D.int (x.fdiv g), .int (y.fdiv g), .int (z.fdiv g)] : List D).length <= sizeLine /\ Q (.tup [.int (x.fdiv g), .int (y.fdiv g), .int (z.fdiv g)]) := by
  rintro g rfl
  exact ⟨⟨hne, hbd⟩, ⟨hne, hbd⟩, ⟨hne, hbd⟩, sz3 _ _ _, h⟩
 by_cases hl : l < 0
 ·rw [if_pos (by simpa using hl)]
  exact fin _ (by unfold PM.dv3; rw [if_pos hl])
 ·rw [if_neg (by simpa using hl)]
  exact fin _ (by unfold PM.dv3; rw [if_neg hl])
theorem rV {f : Addr} {fd : FuncData} (F : av K "is_level" "is_level" jh f fd) (C : COk K mg κ)   : aD P w K mg base (CX1 P w) 1 f fd ["gauge"] (aE K (eU κ)) := by
 refine av.okN F sk (fun ds Q E h => by obtain ⟨_, _, _, rfl, _⟩ := h; rfl) fun cdv A outer s H E hr => ⟨_, (ao (aw (iD (eX cL (au (dv 0) ae) ae) (lW (eX cL (au (dv 0) ae) ae))))), ?_⟩
 rintro ds Q Ed ⟨g0, g1, g2, rfl, h⟩
 have e0 : aA ["gauge"] [T3 g0 g1 g2] = ([some (.val (T3 g0 g1 g2))] : Ro) := rfl
 rw [e0]; clear e0
 walk_at "rd"
 by_cases e1 : g1 = 0
 ·rw [if_pos e1]
  by_cases e2 : g2 = 0
  ·rw [decide_eq_true e2]
   rw [decide_eq_true ⟨e1, e2⟩] at h
   exact h
  ·rw [decide_eq_false e2]
   rw [decide_eq_false (fun z => e2 z.2)] at h
   exact h
 ·rw [if_neg e1]
  rw [decide_eq_false (fun z => e1 z.1)] at h
  exact h
theorem uR {f : Addr} {fd : FuncData} (F : av K "crossed" "crossed" j9 f fd) (C : COk K mg κ)   : aD P w K mg base (CX1 P w) 1 f fd ["one", "other"] (aE K (fQ κ)) := by
 refine av.okN F uZ (fun ds Q E h => by obtain ⟨_, _, _, _, _, _, rfl, _⟩ := h; rfl) fun cdv A outer s H E hr => ⟨_, (ao (aw (aK (aa (ar bB (ar aN (au (dv 0) ae) (au (dv 1) ae)) (ar aN (au (dv 1) ae) (au (dv 0) ae))) (aa (ar bB (ar aN (au (dv 0) ae) (au (dv 1) ae)) (ar aN (au (dv 1) ae) (au (dv 0) ae))) (aa (ar bB (ar aN (au (dv 0) ae) (au (dv 1) ae)) (ar aN (au (dv 1) ae) (au (dv 0) ae))) ag)))))), ?_⟩
 rintro ds Q Ed ⟨a0, a1, a2, b0, b1, b2, rfl, h⟩
 have e0 : aA ["one", "other"] [T3 a0 a1 a2, T3 b0 b1 b2] = ([some (.val (T3 a0 a1 a2)), some (.val (T3 b0 b1 b2))] : Ro) := rfl
 rw [e0]; clear e0
 obtain ⟨h0, h1, h2, k0, k1, k2, h⟩ := h
 have cm : ∀ {x y : Int}, Bd 200 x -> Bd 200 y -> CM x y := fun hx hy => .inr (.inr ⟨hx.mono (by decide), hy.mono (by decide)⟩)
 walk_at "rd"
 exact ⟨cm h1 k2, cm k1 h2, cm h2 k0, cm k2 h0, cm h0 k1, cm k0 h1, sz3 _ _ _, h⟩
theorem xU {f : Addr} {fd : FuncData} (F : av K "picks" "picks" kL f fd) (C : COk K mg κ)  (z_range : mg "range" = none) : aD P w K mg base (CX1 P w) 1 f fd ["count", "size"] (aE K (lH κ)) := by
 refine av.okN F dm (fun ds Q E h => by obtain ⟨_, _, rfl, _⟩ := h; rfl) fun cdv A outer s H E hr => ⟨_, (ah (aB 2 dm.nd (dG (aa (dG ag) ag))) (ah (bW PassesOwn.never rfl (gM (by rfl) z_range (aa (dv 1) ag)) (aJ 3 dm.nd) (ah (gg 4 dm.nd ag) (ah (bW PassesOwn.never rfl (aX (dv 2)) (aJ 5 dm.nd) (ah (aB 6 dm.nd (lA (aQ uP (dv 3) ae) (ar aP (au (dv 5) (bU ae)) ae) ae)) (ao (vH 4 (cP (by rfl) (by exact bT (osc := ai kL) (xs := ["number"]) (ns := ["pick"]) (by decide +kernel)) (bj.cons 5 bj.nil) (vY (by rfl) z_range (aa (dv 6) (aa (dv 0) ag))) (fun _ _ _ _ _ => gH) (fun _ _ _ _ _ => (ar aP (dv 1) (dG (aa (dv 0) ag))))))))) (b9 4 (ao (aB 2 dm.nd (dv 4))))))) (ao (aw (dv 2))))), ?_⟩
 rintro ds Q Ed ⟨n, s, rfl, h⟩
 have e0 : aA ["count", "size", "found", "length", "longer", "pick", "first"] [.int n, .int s] = ([some (.val (.int n)), some (.val (.int s)), none, none, none, none, none] : Ro) := rfl
 rw [e0]; clear e0
 obtain ⟨m, t, rfl, rfl, hm, ht, h⟩ := h
 have sz : ∀ j, j <= 3 -> (lev m j).length <= 216000 := fun j hj => zAX (iH m j) (zAX (Nat.pow_le_pow_left hm j) (zAX (Nat.pow_le_pow_right (by decide) hj) (by decide)))
 walk_at "rx"
 refine ⟨zAi _, by rw [sizeLine_eq]; decide, ?_⟩
 refine PD.cK (List.range' 0 t) (fun (k : Nat) => D.int (k : Int)) (fun j ρ => ∃ v3 v4 v5 v6 : Option Sl, ρ = [some (.val (.int m)), some (.val (.int t)), some (.val (.lst true ((lev m j).map pkD))), v3, v4, v5, v6]) (fun R q => ?_) ⟨none, none, none, none, rfl⟩ ?_ ?_
 ·walk_at "rd"
  rw [uY]
  exact ⟨⟨by omega, by omega⟩, q⟩
 ·rintro j x ρ' hx ⟨v3, v4, v5, v6, rfl⟩
  obtain ⟨hj, ex⟩ := zAF.mp hx
  rw [zAq] at hj
  rw [List.getElem_range'] at ex
  have ex' : x = j := by omega
  subst ex'
  walk_at "rx"
  refine ⟨zAi _, ?_⟩
  refine PD.nE (lev m x) pkD (fun done ρ => ∃ v5 v6 : Option Sl, ρ = [some (.val (.int m)), some (.val (.int t)), some (.val (.lst true ((lev m x).map pkD))), some (.val (.int x)), some (.own ((done.flatMap (nxt m)).map pkD)), v5, v6]) (fun R q => ?_) ⟨_, _, rfl⟩ ?_ ?_
  ·walk_at "rd"
   exact q
  ·rintro done pk ρ2 hpk hlt ⟨v5, v6, rfl⟩
   obtain ⟨hlen, hlt'⟩ := tw hpk
   have hf : dI pk <= m := by
    unfold dI
    cases e : pk.getLast? with
    | none => exact zAi _
    | some l => have := hlt' l (List.mem_of_getLast? e); exact this
   have dl : done.length * m <= 216000 * 60 := zCI (zAX (zBT hlt) (sz x (by omega))) hm
   have fl := qp m done
   have nl : (nxt m pk).length <= 60 := by unfold nxt; rw [zAA, zAq]; omega
   have rest : ∀ (v : D) (Qd : D -> Prop), v = .int (dI pk) -> Qd (.lst true ((nxt m pk).map pkD)) -> iY (o6 (kr (jQ 6) (kr (jQ 0) pY))) [5] nc (dOp mL (jQ 1) (uh (kr (jQ 0) pY))) [some (.val (.int m)), some (.val (.int t)), some (.val (.lst true ((lev m x).map pkD))), some (.val (.int x)), some (.own ((done.flatMap (nxt m)).map pkD)), some (.val (pkD pk)), some (.val v)] Qd := by
    rintro v Qd rfl hQ
    refine PD.comp_map (List.range' (dI pk) (m - dI pk)) (fun (k : Nat) => D.int (k : Int)) (fun _ => true) (fun k => pkD (pk ++ [k])) (fun R q => ?_) (by rw [zAq, sizeLine_eq]; omega) (fun k hk K hK => ?_) (fun k hk _ K hK => ?_) ?_
    ·walk_at "rd"
     rw [tQ]
     exact ⟨⟨by omega, by omega⟩, ⟨by omega, by omega⟩, q⟩
    ·walk_at "rd"
     exact hK
    ·unfold pkD at hK ⊢
     walk_at "rd"
     rw [zAb] at hK
     refine ⟨sz1 _, ?_, hK⟩
     rw [zAA, sizeLine_eq, hlen]
     show x + 1 <= _
     omega
    ·rw [zBp.mpr (fun _ _ => rfl)]
     unfold nxt at hQ
     rw [zAg] at hQ
     exact hQ
   have end_ : ∀ v : D, ∃ xs, D.lst true ((nxt m pk).map pkD) = D.lst true xs /\ (List.map pkD (List.flatMap (nxt m) done)).length + xs.length <= sizeLine /\ ∃ v5 v6 : Option Sl, ([some (Sl.val (D.int m)), some (Sl.val (D.int t)), some (Sl.val (D.lst true (List.map pkD (lev m x)))), some (Sl.val (D.int x)), some (Sl.own (List.map pkD (List.flatMap (nxt m) done) ++ xs)), some (Sl.val (pkD pk)), some (Sl.val v)] : Ro) = [some (Sl.val (D.int m)), some (Sl.val (D.int t)), some (Sl.val (D.lst true (List.map pkD (lev m x)))), some (Sl.val (D.int x)), some (Sl.own (List.map pkD (List.flatMap (nxt m) (done ++ [pk])))), v5, v6] := fun v =>
    ⟨_, rfl, by rw [zAA, zAA, sizeLine_eq]; omega, _, _, by rw [List.flatMap_append, zAb, List.flatMap_singleton]⟩
   walk_at "rx"
   by_cases hx0 : x = 0
   ·subst hx0
    have : pk = [] := zAx hlen
    subst this
    rw [if_neg (by omega)]
    exact rest _ _ rfl (end_ _)
   ·rw [if_pos (by omega)]
    have hne : pk ≠ [] := fun e => hx0 (by rw [<- hlen, e]; rfl)
    show qU (.lst true (pk.map fun (k : Nat) => D.int (k : Int))) _ _
    rw [lE]
    refine yT hne ?_
    rw [pK]
    exact rest _ _ (by congr 1; omega) (end_ _)
  ·rintro ρ2 ⟨v5, v6, rfl⟩
   walk_at "rd"
   exact ⟨_, _, _, _, rfl⟩
 ·rintro ρ' ⟨v3, v4, v5, v6, rfl⟩
  walk_at "rd"
  rw [zAq]
  exact h
theorem xS {f : Addr} {fd : FuncData} (F : av K "line" "line" nN f fd) (C : COk K mg κ) (h_crossed : Has P w K mg base "crossed" 1 ["one", "other"] (fQ κ)) (h_is_level : Has P w K mg base "is_level" 1 ["gauge"] (eU κ)) (h_reduced : Has P w K mg base "reduced" 2 ["triple", "lead"] (fR κ))  : aD P w K mg base (CX1 P w) 3 f fd ["one", "other"] (aE K (lF κ)) := by
 refine av.okN F rh (fun ds Q E h => by obtain ⟨_, _, _, _, _, _, rfl, _⟩ := h; rfl) fun cdv A outer s H E hr => ⟨_, (ah (aB 2 rh.nd (ak h_crossed (hr.mono (by decide)) (aa (dv 0) (aa (dv 1) ag)))) (ah (aY (cJ (ak h_is_level (hr.mono (by decide)) (aa (dv 2) ag))) (ao qh) aM) (ao (aw (ak h_reduced (hr.mono (by decide)) (aa (dv 2) (aa (lA (aQ qG (au (dv 2) ae) ae) (au (dv 2) ae) (au (dv 2) ae)) ag))))))), ?_⟩
 rintro ds Q Ed ⟨a0, a1, a2, b0, b1, b2, rfl, h⟩
 have e0 : aA ["one", "other", "gauge"] [T3 a0 a1 a2, T3 b0 b1 b2] = ([some (.val (T3 a0 a1 a2)), some (.val (T3 b0 b1 b2)), none] : Ro) := rfl
 rw [e0]; clear e0
 obtain ⟨h0, h1, h2, k0, k1, k2, hz, h⟩ := h
 have B0 := bO h1 k2 k1 h2
 have B1 := bO h2 k0 k2 h0
 have B2 := bO h0 k1 k0 h1
 walk_at "rd"
 refine ⟨h0, h1, h2, k0, k1, k2, ?_⟩
 walk_at "rd"
 rw [if_neg hz]
 generalize a1 * b2 - b1 * a2 = x at *
 generalize a2 * b0 - b2 * a0 = y at *
 generalize a0 * b1 - b0 * a1 = z at *
 have hz' : ¬ (x = 0 /\ y = 0 /\ z = 0) := fun e => hz e.2
 have fin : ∀ l : Int, Q (T3 (x.fdiv (PM.dv3 x y z l)) (y.fdiv (PM.dv3 x y z l)) (z.fdiv (PM.dv3 x y z l))) := fun l => by
  have dn := PM.l9 (l := l) hz'
  exact h _ _ _ _ (dY dn (PM.d4 (PM.jW _ _ _)) B0) (dY dn (PM.d4 (PM.i6 _ _ _)) B1) (dY dn (PM.d4 (PM.i7 _ _ _)) B2) dn (PM.cA (PM.jW x y z)) (PM.cA (PM.i6 x y z)) (PM.cA (PM.i7 x y z))
 split
 ·exact ⟨hz', B0.mono (by decide), B1.mono (by decide), B2.mono (by decide), fin _⟩
 ·exact ⟨hz', B0.mono (by decide), B1.mono (by decide), B2.mono (by decide), fin _⟩
theorem xT {f : Addr} {fd : FuncData} (F : av K "line" "line" nO f fd) (C : COk K mg κ) (h_crossed : Has P w K mg base "crossed" 1 ["one", "other"] (fQ κ)) (h_is_level : Has P w K mg base "is_level" 1 ["gauge"] (eU κ)) (h_reduced : Has P w K mg base "reduced" 2 ["triple", "lead"] (fR κ))  : aD P w K mg base (CX1 P w) 3 f fd ["one", "other"] (aE K (lG κ)) := by
 refine av.okN F rj (fun ds Q E h => by obtain ⟨_, _, _, _, _, _, rfl, _⟩ := h; rfl) fun cdv A outer s H E hr => ⟨_, (ah (aB 2 rj.nd (ak h_crossed (hr.mono (by decide)) (aa (dv 0) (aa (dv 1) ag)))) (ah (aY (cJ (ak h_is_level (hr.mono (by decide)) (aa (dv 2) ag))) (ao qh) aM) (ao (aw (ak h_reduced (hr.mono (by decide)) (aa (dv 2) (aa (lA (aQ qG (au (dv 2) ae) ae) (au (dv 2) ae) (au (dv 2) ae)) ag))))))), ?_⟩
 rintro ds Q Ed ⟨a0, a1, a2, b0, b1, b2, rfl, h⟩
 have e0 : aA ["one", "other", "gauge"] [T3 a0 a1 a2, T3 b0 b1 b2] = ([some (.val (T3 a0 a1 a2)), some (.val (T3 b0 b1 b2)), none] : Ro) := rfl
 rw [e0]; clear e0
 obtain ⟨h0, h1, h2, k0, k1, k2, hz, h⟩ := h
 have B0 := bO h1 k2 k1 h2
 have B1 := bO h2 k0 k2 h0
 have B2 := bO h0 k1 k0 h1
 walk_at "rd"
 refine ⟨h0, h1, h2, k0, k1, k2, ?_⟩
 walk_at "rd"
 rw [if_neg hz]
 have hz' : ¬ (a1 * b2 - b1 * a2 = 0 /\ a2 * b0 - b2 * a0 = 0 /\ a0 * b1 - b0 * a1 = 0) := fun e => hz e.2
 unfold qW ld trD at h
 by_cases hy : a2 * b0 - b2 * a0 = 0
 ·rw [if_pos hy] at h
  rw [if_pos hy]
  exact ⟨hz', B0.mono (by decide), B1.mono (by decide), B2.mono (by decide), h⟩
 ·rw [if_neg hy] at h
  rw [if_neg hy]
  exact ⟨hz', B0.mono (by decide), B1.mono (by decide), B2.mono (by decide), h⟩
theorem mH {f : Addr} {fd : FuncData} (F : av K "on_two_spots" "on_two_spots" d9 f fd) (C : COk K mg κ) (h_spot_of : Has P w K mg base "spot_of" 1 ["dot"] (cc κ))  : aD P w K mg base (CX1 P w) 2 f fd ["dots", "pair"] (aE K (dX κ)) := by
 refine av.okN F mP (fun ds Q E h => by obtain ⟨_, _, rfl, _⟩ := h; rfl) fun cdv A outer s H E hr => ⟨_, (ao (aw (eX (o9 (by exact hr.units)) (ak h_spot_of (hr.mono (by decide)) (aa (au (dv 0) (au (dv 1) ae)) ag)) (ak h_spot_of (hr.mono (by decide)) (aa (au (dv 0) (au (dv 1) ae)) ag))))), ?_⟩
 rintro ds Q Ed ⟨ps, ij, rfl, h⟩
 have e0 : aA ["dots", "pair"] [.lst false (ps.map dtD), prD ij] = ([some (.val (.lst false (ps.map dtD))), some (.val (prD ij))] : Ro) := rfl
 rw [e0]; clear e0
 obtain ⟨h1, h2, h⟩ := h
 unfold prD
 walk_at "rd"
 refine gL h1 ?_
 walk_at "rd"
 refine gL h2 ?_
 walk_at "rd"
 refine ⟨(j3 _ _).ok, (j3 _ _).ok, ?_⟩
 rw [AG]
 exact h
theorem oW {f : Addr} {fd : FuncData} (F : av K "spot_pairs" "spot_pairs" cN f fd) (C : COk K mg κ) (h_on_two_spots : Has P w K mg base "on_two_spots" 2 ["dots", "pair"] (dX κ)) (h_picks : Has P w K mg base "picks" 1 ["count", "size"] (lH κ)) (z_len : mg "len" = none) : aD P w K mg base (CX1 P w) 3 f fd ["dots"] (aE K (cx κ)) := by
 refine av.okN F jE (fun ds Q E h => by obtain ⟨_, rfl, _⟩ := h; rfl) fun cdv A outer s H E hr => ⟨_, (ah (l5 1 jE.nd (by rfl) (by exact bT (osc := ai cN) (xs := ["pick"]) (ns := []) (by decide +kernel)) bj.nil (aX (ak h_picks (hr.mono (by decide)) (aa (bo jP (by rfl) z_len boot_len (aa (dv 0) ag)) (aa ae ag)))) (fun _ _ _ _ _ => gH) (fun _ _ _ _ _ => (aK (aa (au (dv 0) ae) (aa (au (dv 0) ae) ag))))) (ao (aw (cP (by rfl) (by exact bT (osc := ai cN) (xs := ["pair"]) (ns := ["dots"]) (by decide +kernel)) (bj.cons 0 bj.nil) (aX (dv 1)) (fun _ _ _ _ _ => (mV (cJ (ak h_on_two_spots (hr.mono (by decide)) (aa (dv 1) (aa (dv 0) ag)))))) (fun _ _ _ _ _ => (dv 0)))))), ?_⟩
 rintro ds Q Ed ⟨ps, rfl, h⟩
 have e0 : aA ["dots", "pairs"] [.lst false (ps.map dtD)] = ([some (.val (.lst false (ps.map dtD))), none] : Ro) := rfl
 rw [e0]; clear e0
 obtain ⟨hl, h⟩ := h
 have hz : (prs ps.length).length <= sizeLine := by
  have e := iH ps.length 2
  rw [uJ, zAA] at e
  have : ps.length ^ 2 <= 60 ^ 2 := Nat.pow_le_pow_left hl 2
  rw [sizeLine_eq]
  omega
 walk_at "rx"
 refine PD.comp_map (prs ps.length) (fun ij => pkD [ij.1, ij.2]) (fun _ => true) prD (fun R q => ?_) hz (fun ij hij K hK => ?_) (fun ij hij _ K hK => ?_) ?_
 ·walk_at "rd"
  refine ⟨ps.length, 2, by rw [zAA], rfl, hl, by decide, ?_⟩
  rw [uJ, zAg]
  exact q
 ·walk_at "rd"
  exact hK
 ·unfold pkD
  walk_at "rd"
  exact ⟨sz2 _ _, hK⟩
 ·rw [zBp.mpr (fun _ _ => rfl)]
  walk_at "rx"
  refine PD.comp_map (prs ps.length) prD (fun ij => decide (sp2 (gp ps ij.1) ≠ sp2 (gp ps ij.2))) prD (fun R q => ?_) hz (fun ij hij K hK => ?_) (fun ij hij _ K hK => ?_) h
  ·walk_at "rd"
   exact q
  ·have m := fW.mp (show (ij.1, ij.2) ∈ prs ps.length from hij)
   walk_at "rd"
   exact ⟨by omega, by omega, hK⟩
  ·walk_at "rd"
   exact hK
theorem oS {f : Addr} {fd : FuncData} (F : av K "pair_line" "pair_line" gq f fd) (C : COk K mg κ) (h_lineO : Has P w K mg base "line" 3 ["one", "other"] (lF κ)) (h_place_of : Has P w K mg base "place_of" 1 ["spot"] (cB κ)) (h_spot_of : Has P w K mg base "spot_of" 1 ["dot"] (cc κ))  : aD P w K mg base (CX1 P w) 4 f fd ["dots", "pair"] (aE K (bH κ)) := by
 refine av.okN F oX (fun ds Q E h => by obtain ⟨_, _, rfl, _⟩ := h; rfl) fun cdv A outer s H E hr => ⟨_, (ao (aw (ak h_lineO (hr.mono (by decide)) (aa (ak h_place_of (hr.mono (by decide)) (aa (ak h_spot_of (hr.mono (by decide)) (aa (au (dv 0) (au (dv 1) ae)) ag)) ag)) (aa (ak h_place_of (hr.mono (by decide)) (aa (ak h_spot_of (hr.mono (by decide)) (aa (au (dv 0) (au (dv 1) ae)) ag)) ag)) ag))))), ?_⟩
 rintro ds Q Ed ⟨ps, ij, rfl, h⟩
 have e0 : aA ["dots", "pair"] [.lst false (ps.map dtD), prD ij] = ([some (.val (.lst false (ps.map dtD))), some (.val (prD ij))] : Ro) := rfl
 rw [e0]; clear e0
 obtain ⟨h1, h2, hG, ne, h⟩ := h
 have G1 := hG _ (cn h1)
 have G2 := hG _ (cn h2)
 unfold prD
 walk_at "rd"
 refine gL h1 ?_
 walk_at "rd"
 refine gL h2 ?_
 walk_at "rd"
 have one : Bd 200 1 := Bd.mono (m := 2) (by unfold Bd; decide) (by decide)
 generalize gp ps ij.1 = p at *
 generalize gp ps ij.2 = q at *
 refine ⟨one, G1.x.mono (by decide), G1.y.mono (by decide), one, G2.x.mono (by decide), G2.y.mono (by decide), ?_, ?_⟩
 ·rintro ⟨e1, e2⟩
  refine ne ?_
  unfold sp2
  simp only [zBe]
  omega
 ·intro g0 g1 g2 m b0 b1 b2 hm e0 e1 e2
  refine h g0 g1 g2 m b0 b1 b2 hm fun z => ?_
  unfold gv tq
  rw [Int.add_mul, Int.add_mul, e0, zAu g1, e1, zAu g2, e2]
  simp only [Int.sub_mul, Int.mul_sub, Int.mul_one, Int.one_mul]
  rw [zBK q.1 p.2.1, zBK q.2.1 p.1, zBK p.1 p.2.1]
  omega
theorem oU {f : Addr} {fd : FuncData} (F : av K "pair_line" "pair_line" gr f fd) (C : COk K mg κ) (h_lineX : Has P w K mg base "line" 3 ["one", "other"] (lG κ)) (h_place_of : Has P w K mg base "place_of" 1 ["spot"] (cB κ)) (h_spot_of : Has P w K mg base "spot_of" 1 ["dot"] (cc κ))  : aD P w K mg base (CX1 P w) 4 f fd ["dots", "pair"] (aE K (fz κ)) := by
 refine av.okN F oY (fun ds Q E h => by obtain ⟨_, _, rfl, _⟩ := h; rfl) fun cdv A outer s H E hr => ⟨_, (ao (aw (ak h_lineX (hr.mono (by decide)) (aa (ak h_place_of (hr.mono (by decide)) (aa (ak h_spot_of (hr.mono (by decide)) (aa (au (dv 0) (au (dv 1) ae)) ag)) ag)) (aa (ak h_place_of (hr.mono (by decide)) (aa (ak h_spot_of (hr.mono (by decide)) (aa (au (dv 0) (au (dv 1) ae)) ag)) ag)) ag))))), ?_⟩
 rintro ds Q Ed ⟨ps, ij, rfl, h⟩
 have e0 : aA ["dots", "pair"] [.lst false (ps.map dtD), prD ij] = ([some (.val (.lst false (ps.map dtD))), some (.val (prD ij))] : Ro) := rfl
 rw [e0]; clear e0
 obtain ⟨h1, h2, hG, ne, h⟩ := h
 have G1 := hG _ (cn h1)
 have G2 := hG _ (cn h2)
 unfold prD
 walk_at "rd"
 refine gL h1 ?_
 walk_at "rd"
 refine gL h2 ?_
 walk_at "rd"
 have one : Bd 200 1 := Bd.mono (m := 2) (by unfold Bd; decide) (by decide)
 generalize gp ps ij.1 = p at *
 generalize gp ps ij.2 = q at *
 refine ⟨one, G1.x.mono (by decide), G1.y.mono (by decide), one, G2.x.mono (by decide), G2.y.mono (by decide), ?_, ?_⟩
 ·rintro ⟨e1, e2⟩
  refine ne ?_
  unfold sp2
  simp only [zBe]
  omega
 ·exact h
theorem sj {f : Addr} {fd : FuncData} (F : av K "split_by" "split_by" fP f fd) (C : COk K mg κ) (h_weighed : fi P w K mg base "weighed" 3 ["dots", "gauge", "colour"] "colour" (cf κ)) (z_set : mg "set" = none) (z_sorted : mg "sorted" = none) : aD P w K mg base (CX1 P w) 4 f fd ["dots", "lines"] (aE K (iw κ)) := by
 refine av.okN F sv (fun ds Q E h => by obtain ⟨_, _, rfl, _⟩ := h; rfl) fun cdv A outer s H E hr => ⟨_, (ao (aw (cP (by rfl) (by exact bT (osc := ai fP) (xs := ["each"]) (ns := ["dots"]) (by decide +kernel)) (bj.cons 0 bj.nil) (aX ((uA rfl (by exact Av hr) (by rfl) z_sorted (by rfl) z_set (dv 1))).ped) (fun _ _ _ _ _ => gH) (fun _ _ _ _ _ => (ar aP (aK (aa (dv 0) ag)) (jR h_weighed (hr.mono (by decide)) (aa (dv 1) (aa (dv 0) ag)))))))), ?_⟩
 rintro ds Q Ed ⟨ps, ls, rfl, h⟩
 have e0 : aA ["dots", "lines"] [.lst false (ps.map dtD), .lst false (ls.map trD)] = ([some (.val (.lst false (ps.map dtD))), some (.val (.lst false (ls.map trD)))] : Ro) := rfl
 rw [e0]; clear e0
 obtain ⟨hl, hG, hn, hb, h⟩ := h
 walk_at "rx"
 refine xc (P := fun ys => bJ ys ls) trD (d8 ps) (fun R hR => ?_) (fun ys hy => by have := j6 hy; rw [sizeLine_eq]; omega) (fun ys hy x hx K k => ?_) fun ys hy => ?_
 ·refine ⟨_, rfl, false, ls.map trK, by rw [pC], by rw [zAA]; exact hn, fun k hk => ?_, fun zs hz => ?_⟩
  ·obtain ⟨p, _, e⟩ := zAU.mp hk
   rw [<- e]
   exact List.cons_ne_nil _ _
  ·obtain ⟨ys, rfl, hy⟩ := wN hz
   rw [pC]
   exact ⟨true, _, rfl, hR ys hy⟩
 ·obtain ⟨b0, b1, b2⟩ := hb x ((hy.2 x).mp hx)
  walk_at "rx"
  refine ⟨sz1 _, ?_⟩
  rw [lL]
  show cf κ [.lst false (ps.map dtD), T3 x.1 x.2.1 x.2.2, .non] _ _
  rw [fD]
  refine ⟨fun _ => true, .inl ⟨rfl, rfl⟩, hl, b0, b1, b2, hG, ?_⟩
  walk_at "rx"
  exact ⟨by rw [sizeLine_eq]; show 4 <= _; omega, k⟩
 ·exact h ys hy
theorem oV {f : Addr} {fd : FuncData} (F : av K "pair_lines" "pair_lines" dP f fd) (C : COk K mg κ) (h_pair_lineX : Has P w K mg base "pair_line" 4 ["dots", "pair"] (fz κ)) (h_spot_pairs : Has P w K mg base "spot_pairs" 3 ["dots"] (cx κ))  : aD P w K mg base (CX1 P w) 5 f fd ["dots"] (aE K (fC κ)) := by
 refine av.okN F oZ (fun ds Q E h => by obtain ⟨_, rfl, _⟩ := h; rfl) fun cdv A outer s H E hr => ⟨_, (ao (aw (cP (by rfl) (by exact bT (osc := ai dP) (xs := ["pair"]) (ns := ["dots"]) (by decide +kernel)) (bj.cons 0 bj.nil) (aX (ak h_spot_pairs (hr.mono (by decide)) (aa (dv 0) ag))) (fun _ _ _ _ _ => gH) (fun _ _ _ _ _ => (ak h_pair_lineX (hr.mono (by decide)) (aa (dv 1) (aa (dv 0) ag))))))), ?_⟩
 rintro ds Q Ed ⟨ps, rfl, h⟩
 have e0 : aA ["dots"] [.lst false (ps.map dtD)] = ([some (.val (.lst false (ps.map dtD)))] : Ro) := rfl
 rw [e0]; clear e0
 obtain ⟨hl, hG, h⟩ := h
 have hz : (sps ps).length <= sizeLine := by
  have := kH ps
  unfold cb at this
  rw [zAA] at this
  have : ps.length * ps.length <= 30 * 30 := zCI hl hl
  rw [sizeLine_eq]
  omega
 walk_at "rx"
 refine PD.comp_map (sps ps) prD (fun _ => true) (fun ij => trD (lnF (gp ps ij.1) (gp ps ij.2))) (fun R q => ?_) hz (fun ij hij K hK => ?_) (fun ij hij _ K hK => ?_) ?_
 ·walk_at "rd"
  exact ⟨by omega, q⟩
 ·walk_at "rd"
  exact hK
 ·obtain ⟨a, b, c⟩ := dA.mp hij
  walk_at "rd"
  exact ⟨by omega, b, hG, c, hK⟩
 ·rw [zBp.mpr (fun _ _ => rfl)]
  unfold cb at h
  rw [zAg] at h
  exact h
theorem r9 {f : Addr} {fd : FuncData} (F : av K "lines_of" "lines_of" jq f fd) (C : COk K mg κ) (h_pair_lines : Has P w K mg base "pair_lines" 5 ["dots"] (fC κ)) (h_split_by : Has P w K mg base "split_by" 4 ["dots", "lines"] (iw κ))  : aD P w K mg base (CX1 P w) 6 f fd ["dots"] (aE K (eV κ)) := by
 refine av.okN F sr (fun ds Q E h => by obtain ⟨_, rfl, _⟩ := h; rfl) fun cdv A outer s H E hr => ⟨_, (ao (aw (ak h_split_by (hr.mono (by decide)) (aa (dv 0) (aa (ak h_pair_lines (hr.mono (by decide)) (aa (dv 0) ag)) ag))))), ?_⟩
 rintro ds Q Ed ⟨ps, rfl, h⟩
 have e0 : aA ["dots"] [.lst false (ps.map dtD)] = ([some (.val (.lst false (ps.map dtD)))] : Ro) := rfl
 rw [e0]; clear e0
 obtain ⟨hl, hG, h⟩ := h
 walk_at "rx"
 refine ⟨hl, hG, ?_⟩
 walk_at "rx"
 have := kH ps
 have : ps.length * ps.length <= 30 * 30 := zCI hl hl
 exact ⟨by omega, hG, by omega, AF hG, h⟩
theorem uT {f : Addr} {fd : FuncData} (F : av K "is_even" "is_even" ka f fd) (C : COk K mg κ)  (z_max : mg "max" = none) : aD P w K mg base (CX1 P w) 1 f fd ["under", "over", "whole"] (aE K (dS κ)) := by
 refine av.okN F u3 (fun ds Q E h => by obtain ⟨_, _, _, rfl, _⟩ := h; rfl) fun cdv A outer s H E hr => ⟨_, (ao (aw (eX yF (ar aN ae (bo (pS rfl) (by rfl) z_max boot_max (aa (dv 0) (aa (dv 1) ag)))) (dv 2)))), ?_⟩
 rintro ds Q Ed ⟨u, o, w, rfl, h⟩
 have e0 : aA ["under", "over", "whole"] [.int u, .int o, .int w] = ([some (.val (.int u)), some (.val (.int o)), some (.val (.int w))] : Ro) := rfl
 rw [e0]; clear e0
 walk_at "rd"
 exact ⟨.inl (by unfold Bd; decide), h⟩
theorem uS {f : Addr} {fd : FuncData} (F : av K "halvers" "halvers" gO f fd) (C : COk K mg κ) (h_is_even : Has P w K mg base "is_even" 1 ["under", "over", "whole"] (dS κ)) (h_lines_of : Has P w K mg base "lines_of" 6 ["dots"] (eV κ)) (h_total : fi P w K mg base "total" 2 ["dots", "colour"] "colour" (du κ)) (z_len : mg "len" = none) : aD P w K mg base (CX1 P w) 7 f fd ["dots"] (aE K (jx κ)) := by
 refine av.okN F mO (fun ds Q E h => by obtain ⟨_, rfl, _⟩ := h; rfl) fun cdv A outer s H E hr => ⟨_, (ah (aB 1 mO.nd (jR h_total (hr.mono (by decide)) (aa (dv 0) ag))) (ao (aw (bo jP (by rfl) z_len boot_len (aa (cP (by rfl) (by exact bT (osc := ai gO) (xs := ["row"]) (ns := ["whole"]) (by decide +kernel)) (bj.cons 1 bj.nil) (aX (ak h_lines_of (hr.mono (by decide)) (aa (dv 0) ag))) (fun _ _ _ _ _ => (mV (cJ (ak h_is_even (hr.mono (by decide)) (aa (au (dv 0) ae) (aa (au (dv 0) ae) (aa (dv 1) ag))))))) (fun _ _ _ _ _ => (dv 0))) ag))))), ?_⟩
 rintro ds Q Ed ⟨ps, rfl, h⟩
 have e0 : aA ["dots", "whole"] [.lst false (ps.map dtD)] = ([some (.val (.lst false (ps.map dtD))), none] : Ro) := rfl
 rw [e0]; clear e0
 obtain ⟨hl, hG, h⟩ := h
 walk_at "rx"
 refine ⟨fun _ => true, .inl ⟨rfl, rfl⟩, by omega, ?_⟩
 have ln := kH ps
 have : ps.length * ps.length <= 30 * 30 := zCI hl hl
 refine vx (P := fun ys => bJ ys (cb ps)) (d8 ps) (d8 ps) (evB ps) (fun R hR => ?_) (fun ys hy => by have := j6 hy; rw [sizeLine_eq]; omega) (fun ys hy x hx K k => ?_) (fun ys hy x hx K k => ?_) fun ys hy => ?_
 ·walk_at "rx"
  exact ⟨hl, hG, fun ys hy => hR ys hy⟩
 ·unfold d8
  walk_at "rx"
  have e : decide (2 * max (wl ps x (-1)) (wl ps x 1) <= tot (fun _ => true) ps) = evB ps x := by unfold evB WA; rw [ko]
  rw [e]
  exact k
 ·walk_at "rx"
  exact k
 ·refine ⟨_, .inl ⟨_, rfl⟩, ?_⟩
  rw [zAA]
  exact h ys hy
theorem rS {f : Addr} {fd : FuncData} (F : av K "is_fair" "is_fair" je f fd) (C : COk K mg κ) (h_is_even : Has P w K mg base "is_even" 1 ["under", "over", "whole"] (dS κ)) (h_total : fi P w K mg base "total" 2 ["dots", "colour"] "colour" (du κ)) (h_weighed : fi P w K mg base "weighed" 3 ["dots", "gauge", "colour"] "colour" (cf κ))  : aD P w K mg base (CX1 P w) 4 f fd ["dots", "gauge", "colour"] (aE K (ic κ)) := by
 refine av.okN F kT (fun ds Q E h => by obtain ⟨_, _, _, _, _, rfl, _⟩ := h; rfl) fun cdv A outer s H E hr => ⟨_, (ah (aB 3 kT.nd (ak h_weighed.full (hr.mono (by decide)) (aa (dv 0) (aa (dv 1) (aa (dv 2) ag))))) (ao (aw (ak h_is_even (hr.mono (by decide)) (aa (au (dv 3) ae) (aa (au (dv 3) ae) (aa (ak h_total.full (hr.mono (by decide)) (aa (dv 0) (aa (dv 2) ag))) ag))))))), ?_⟩
 rintro ds Q Ed ⟨ps, g0, g1, g2, k, rfl, h⟩
 have e0 : aA ["dots", "gauge", "colour", "split"] [.lst false (ps.map dtD), T3 g0 g1 g2, .int k] = ([some (.val (.lst false (ps.map dtD))), some (.val (T3 g0 g1 g2)), some (.val (.int k)), none] : Ro) := rfl
 rw [e0]; clear e0
 obtain ⟨hl, h0, h1, h2, hG, h⟩ := h
 walk_at "rd"
 refine ⟨fun c => decide (c = k), .inr ⟨k, rfl, rfl⟩, hl, h0, h1, h2, hG, ?_⟩
 walk_at "rd"
 exact ⟨fun c => decide (c = k), .inr ⟨k, rfl, rfl⟩, hl, h⟩
theorem rT {f : Addr} {fd : FuncData} (F : av K "is_fair" "is_fair" jg f fd) (C : COk K mg κ) (h_is_even : Has P w K mg base "is_even" 1 ["under", "over", "whole"] (dS κ)) (h_total : fi P w K mg base "total" 2 ["dots", "colour"] "colour" (du κ)) (h_weighed : fi P w K mg base "weighed" 3 ["dots", "gauge", "colour"] "colour" (cf κ))  : aD P w K mg base (CX1 P w) 4 f fd ["dots", "gauge", "colour"] (aE K (ie κ)) := by
 refine av.okN F kU (fun ds Q E h => by obtain ⟨_, _, _, _, _, rfl, _⟩ := h; rfl) fun cdv A outer s H E hr => ⟨_, (ah (aB 3 kU.nd (ak h_weighed.full (hr.mono (by decide)) (aa (dv 0) (aa (dv 1) (aa (dv 2) ag))))) (ao (aw (ak h_is_even (hr.mono (by decide)) (aa (au (dv 3) ae) (aa (au (dv 3) ae) (aa (ak h_total.full (hr.mono (by decide)) (aa (dv 0) (aa (dv 2) ag))) ag))))))), ?_⟩
 rintro ds Q Ed ⟨ps, g0, g1, g2, col, rfl, h⟩
 have e0 : aA ["dots", "gauge", "colour", "split"] [.lst false (ps.map dtD), T3 g0 g1 g2, col] = ([some (.val (.lst false (ps.map dtD))), some (.val (T3 g0 g1 g2)), some (.val (col)), none] : Ro) := rfl
 rw [e0]; clear e0
 obtain ⟨rfl, hl, h0, h1, h2, hG, h⟩ := h
 rw [<- wg] at h
 walk_at "rd"
 refine ⟨fun _ => true, .inl ⟨rfl, rfl⟩, hl, h0, h1, h2, hG, ?_⟩
 walk_at "rd"
 exact ⟨fun _ => true, .inl ⟨rfl, rfl⟩, hl, h⟩
theorem nI {f : Addr} {fd : FuncData} (F : av K "first_fair" "first_fair" da f fd) (C : COk K mg κ) (h_is_fairI : Has P w K mg base "is_fair" 4 ["dots", "gauge", "colour"] (ic κ)) (h_pair_lineO : Has P w K mg base "pair_line" 4 ["dots", "pair"] (bH κ)) (z_all : mg "all" = none) : aD P w K mg base (CX1 P w) 5 f fd ["dots", "pairs", "colours"] (aE K (eI κ)) := by
 refine av.okN F eF (fun ds Q E h => by obtain ⟨_, _, _, _, rfl, _⟩ := h; rfl) fun cdv A outer s H E hr => ⟨_, (ah (bW PassesOwn.never rfl (aX (dv 1)) (aJ 3 eF.nd) (ah (aB 4 eF.nd (ak h_pair_lineO (hr.mono (by decide)) (aa (dv 0) (aa (dv 3) ag)))) (ao (aY (cJ (bo (vp rfl) (by rfl) z_all boot_all (aa (cP (by rfl) (by exact bT (osc := ai da) (xs := ["colour"]) (ns := ["gauge", "dots"]) (by decide +kernel)) (bj.cons 4 (bj.cons 0 bj.nil)) (vZ (dv 2)) (fun _ _ _ _ _ => gH) (fun _ _ _ _ _ => (ak h_is_fairI (hr.mono (by decide)) (aa (dv 2) (aa (dv 1) (aa (dv 0) ag)))))) ag))) (ao (aw (dv 3))) aM)))) (ao (aw eY))), ?_⟩
 rintro ds Q Ed ⟨ps, rs, a, b, rfl, h⟩
 have e0 : aA ["dots", "pairs", "colours", "pair", "gauge"] [.lst false (ps.map dtD), .lst false (rs.map prD), .tup [.int a, .int b]] = ([some (.val (.lst false (ps.map dtD))), some (.val (.lst false (rs.map prD))), some (.val (.tup [.int a, .int b])), none, none] : Ro) := rfl
 rw [e0]; clear e0
 obtain ⟨hl, hG, hr, h⟩ := h
 walk_at "rx"
 refine PD.cK rs prD (fun j ρ => ∃ v3 v4 : Option Sl, ρ = [some (.val (.lst false (ps.map dtD))), some (.val (.lst false (rs.map prD))), some (.val (.tup [.int a, .int b])), v3, v4] /\ ∀ y ∈ rs.take j, (aZ a ps (gp ps y.1) (gp ps y.2) && aZ b ps (gp ps y.1) (gp ps y.2)) = false) (fun R q => ?_) ⟨none, none, rfl, by simp⟩ ?_ ?_
 ·walk_at "rd"
  exact q
 ·rintro j ij ρ' hj ⟨v3, v4, rfl, hn⟩
  obtain ⟨i1, i2, ne⟩ := hr ij (zAV hj)
  walk_at "rx"
  refine ⟨i1, i2, hG, ne, fun g0 g1 g2 m b0 b1 b2 hm hg => ?_⟩
  walk_at "rx"
  refine PD.comp_map [a, b] D.int (fun _ => true) (fun k => .bl (aZ k ps (gp ps ij.1) (gp ps ij.2))) (fun R q => ?_) (by rw [sizeLine_eq]; exact Nat.le_of_ble_eq_true rfl) (fun k hk K hK => ?_) (fun k hk _ K hK => ?_) ?_
  ·walk_at "rd"
   exact q
  ·walk_at "rd"
   exact hK
  ·walk_at "rd"
   rw [<- vO hm hg] at hK
   exact ⟨hl, b0, b1, b2, hG, hK⟩
  ·walk_at "rd"
   refine ⟨true, [aZ a ps (gp ps ij.1) (gp ps ij.2), aZ b ps (gp ps ij.1) (gp ps ij.2)], rfl, ?_⟩
   have ea : ([aZ a ps (gp ps ij.1) (gp ps ij.2), aZ b ps (gp ps ij.1) (gp ps ij.2)].all id) = (aZ a ps (gp ps ij.1) (gp ps ij.2) && aZ b ps (gp ps ij.1) (gp ps ij.2)) := by simp
   rw [ea]
   split
   ·rename_i hb
    have e := kB (p := fun ij : Nat × Nat => aZ a ps (gp ps ij.1) (gp ps ij.2) && aZ b ps (gp ps ij.1) (gp ps ij.2)) hj hn hb
    rw [e] at h
    exact h
   ·rename_i hb
    refine ⟨_, _, rfl, fun y hy => ?_⟩
    rcases take_snoc hj hy with z | z
    ·exact hn y z
    ·subst z
     exact zBf.mpr hb
 ·rintro ρ' ⟨v3, v4, rfl, hn⟩
  walk_at "rd"
  rw [zB4] at hn
  have e : rs.find? (fun ij => aZ a ps (gp ps ij.1) (gp ps ij.2) && aZ b ps (gp ps ij.1) (gp ps ij.2)) = none := List.find?_eq_none.mpr fun y hy => by rw [hn y hy]; simp
  rw [e] at h
  exact h
theorem nJ {f : Addr} {fd : FuncData} (F : av K "first_fair" "first_fair" de f fd) (C : COk K mg κ) (h_is_fairN : Has P w K mg base "is_fair" 4 ["dots", "gauge", "colour"] (ie κ)) (h_pair_lineO : Has P w K mg base "pair_line" 4 ["dots", "pair"] (bH κ)) (z_all : mg "all" = none) : aD P w K mg base (CX1 P w) 5 f fd ["dots", "pairs", "colours"] (aE K (eJ κ)) := by
 refine av.okN F eG (fun ds Q E h => by obtain ⟨_, _, _, rfl, _⟩ := h; rfl) fun cdv A outer s H E hr => ⟨_, (ah (bW PassesOwn.never rfl (aX (dv 1)) (aJ 3 eG.nd) (ah (aB 4 eG.nd (ak h_pair_lineO (hr.mono (by decide)) (aa (dv 0) (aa (dv 3) ag)))) (ao (aY (cJ (bo (vp rfl) (by rfl) z_all boot_all (aa (cP (by rfl) (by exact bT (osc := ai de) (xs := ["colour"]) (ns := ["gauge", "dots"]) (by decide +kernel)) (bj.cons 4 (bj.cons 0 bj.nil)) (vZ (dv 2)) (fun _ _ _ _ _ => gH) (fun _ _ _ _ _ => (ak h_is_fairN (hr.mono (by decide)) (aa (dv 2) (aa (dv 1) (aa (dv 0) ag)))))) ag))) (ao (aw (dv 3))) aM)))) (ao (aw eY))), ?_⟩
 rintro ds Q Ed ⟨ps, rs, cs, rfl, h⟩
 have e0 : aA ["dots", "pairs", "colours", "pair", "gauge"] [.lst false (ps.map dtD), .lst false (rs.map prD), cs] = ([some (.val (.lst false (ps.map dtD))), some (.val (.lst false (rs.map prD))), some (.val (cs)), none, none] : Ro) := rfl
 rw [e0]; clear e0
 obtain ⟨rfl, hl, hG, hr, h⟩ := h
 walk_at "rx"
 refine PD.cK rs prD (fun j ρ => ∃ v3 v4 : Option Sl, ρ = [some (.val (.lst false (ps.map dtD))), some (.val (.lst false (rs.map prD))), some (.val (.tup [.non])), v3, v4] /\ ∀ y ∈ rs.take j, bg (tqf ps y) ps = false) (fun R q => ?_) ⟨none, none, rfl, by simp⟩ ?_ ?_
 ·walk_at "rd"
  exact q
 ·rintro j ij ρ' hj ⟨v3, v4, rfl, hn⟩
  obtain ⟨i1, i2, ne⟩ := hr ij (zAV hj)
  walk_at "rx"
  refine ⟨i1, i2, hG, ne, fun g0 g1 g2 m b0 b1 b2 hm hg => ?_⟩
  walk_at "rx"
  refine PD.comp_map [()] (fun _ => D.non) (fun _ => true) (fun _ => .bl (bg (tqf ps ij) ps)) (fun R q => ?_) (by rw [sizeLine_eq]; exact Nat.le_of_ble_eq_true rfl) (fun k hk K hK => ?_) (fun k hk _ K hK => ?_) ?_
  ·walk_at "rd"
   exact q
  ·walk_at "rd"
   exact hK
  ·walk_at "rd"
   rw [<- nC hm (show ∀ z, gv g0 g1 g2 z * m = tqf ps ij z from hg)] at hK
   exact ⟨hl, b0, b1, b2, hG, hK⟩
  ·walk_at "rd"
   refine ⟨true, [bg (tqf ps ij) ps], rfl, ?_⟩
   have ea : ([bg (tqf ps ij) ps].all id) = bg (tqf ps ij) ps := by simp
   rw [ea]
   split
   ·rename_i hb
    have e := kB (p := fun ij : Nat × Nat => bg (tqf ps ij) ps) hj hn hb
    rw [e] at h
    exact h
   ·rename_i hb
    refine ⟨_, _, rfl, fun y hy => ?_⟩
    rcases take_snoc hj hy with z | z
    ·exact hn y z
    ·subst z
     exact zBf.mpr hb
 ·rintro ρ' ⟨v3, v4, rfl, hn⟩
  walk_at "rd"
  rw [zB4] at hn
  have e : rs.find? (fun ij => bg (tqf ps ij) ps) = none := List.find?_eq_none.mpr fun y hy => by rw [hn y hy]; simp
  rw [e] at h
  exact h
theorem nK {f : Addr} {fd : FuncData} (F : av K "has_colours" "has_colours" fu f fd) (C : COk K mg κ)   : aD P w K mg base (CX1 P w) 1 f fd ["dots", "pair", "colours"] (aE K (eK κ)) := by
 refine av.okN F nQ (fun ds Q E h => by obtain ⟨_, _, _, _, rfl, _⟩ := h; rfl) fun cdv A outer s H E hr => ⟨_, (ao (aw (iD (eX (yE (by exact hr.units)) (au (au (dv 0) (au (dv 1) ae)) ae) (dv 2)) (lW (eX (yE (by exact hr.units)) (au (au (dv 0) (au (dv 1) ae)) ae) (dv 2)))))), ?_⟩
 rintro ds Q Ed ⟨ps, ij, a, b, rfl, h⟩
 have e0 : aA ["dots", "pair", "colours"] [.lst false (ps.map dtD), prD ij, .tup [.int a, .int b]] = ([some (.val (.lst false (ps.map dtD))), some (.val (prD ij)), some (.val (.tup [.int a, .int b]))] : Ro) := rfl
 rw [e0]; clear e0
 obtain ⟨h1, h2, h⟩ := h
 have e : ∀ p : Dt, ([D.int a, D.int b].any fun z => eqD z (D.int p.2.2.1)) = inc a b p := fun p => by
  simp only [zB7, List.any_nil, fV, Bool.or_false]
  unfold inc
  simp [eq_comm]
 unfold prD
 walk_at "rd"
 refine gL h1 ?_
 unfold dtD
 walk_at "rd"
 refine ⟨(j3 _ _).ok, ?_⟩
 rw [e]
 by_cases c : inc a b (gp ps ij.1) = true
 ·rw [if_pos c]
  refine gL h2 ?_
  unfold dtD
  walk_at "rd"
  refine ⟨(j3 _ _).ok, ?_⟩
  rw [e]
  rw [c, Bool.true_and] at h
  exact h
 ·rw [if_neg c]
  rw [zBf.mpr c, Bool.false_and] at h
  exact h
theorem qK {f : Addr} {fd : FuncData} (F : av K "fair_pair" "fair_pair" eS f fd) (C : COk K mg κ) (h_first_fairI : Has P w K mg base "first_fair" 5 ["dots", "pairs", "colours"] (eI κ)) (h_has_colours : Has P w K mg base "has_colours" 1 ["dots", "pair", "colours"] (eK κ)) (h_spot_pairs : Has P w K mg base "spot_pairs" 3 ["dots"] (cx κ))  : aD P w K mg base (CX1 P w) 6 f fd ["dots", "one", "other"] (aE K (gz κ)) := by
 refine av.okN F gu (fun ds Q E h => by obtain ⟨_, _, _, rfl, _⟩ := h; rfl) fun cdv A outer s H E hr => ⟨_, (ah (aB 3 gu.nd (aK (aa (dv 1) (aa (dv 2) ag)))) (ah (l5 4 gu.nd (by rfl) (by exact bT (osc := ai eS) (xs := ["pair"]) (ns := ["dots", "colours"]) (by decide +kernel)) (bj.cons 0 (bj.cons 3 bj.nil)) (aX (ak h_spot_pairs (hr.mono (by decide)) (aa (dv 0) ag))) (fun _ _ _ _ _ => (mV (cJ (ak h_has_colours (hr.mono (by decide)) (aa (dv 1) (aa (dv 0) (aa (dv 2) ag))))))) (fun _ _ _ _ _ => (dv 0))) (ao (aw (ak h_first_fairI (hr.mono (by decide)) (aa (dv 0) (aa (dv 4) (aa (dv 3) ag)))))))), ?_⟩
 rintro ds Q Ed ⟨ps, a, b, rfl, h⟩
 have e0 : aA ["dots", "one", "other", "colours", "pairs"] [.lst false (ps.map dtD), .int a, .int b] = ([some (.val (.lst false (ps.map dtD))), some (.val (.int a)), some (.val (.int b)), none, none] : Ro) := rfl
 rw [e0]; clear e0
 obtain ⟨hl, hG, h⟩ := h
 have hz : ((prs ps.length).filter fun ij => decide (sp2 (gp ps ij.1) ≠ sp2 (gp ps ij.2))).length <= sizeLine := by
  have e := iH ps.length 2
  rw [uJ, zAA] at e
  have : ps.length ^ 2 <= 60 ^ 2 := Nat.pow_le_pow_left hl 2
  have := List.length_filter_le (fun ij : Nat × Nat => decide (sp2 (gp ps ij.1) ≠ sp2 (gp ps ij.2))) (prs ps.length)
  rw [sizeLine_eq]
  omega
 walk_at "rx"
 refine ⟨sz2 _ _, ?_⟩
 refine PD.comp_map ((prs ps.length).filter fun ij => decide (sp2 (gp ps ij.1) ≠ sp2 (gp ps ij.2))) prD (fun ij => inc a b (gp ps ij.1) && inc a b (gp ps ij.2)) prD (fun R q => ?_) hz (fun ij hij K hK => ?_) (fun ij hij _ K hK => ?_) ?_
 ·walk_at "rd"
  exact ⟨hl, q⟩
 ·have m := fW.mp (show (ij.1, ij.2) ∈ prs ps.length from (zBJ.mp hij).1)
  walk_at "rd"
  exact ⟨by omega, by omega, hK⟩
 ·walk_at "rd"
  exact hK
 ·walk_at "rd"
  refine ⟨hl, hG, fun ij hij => ?_, ?_⟩
  ·have h1 := zBJ.mp hij
   have h2 := zBJ.mp h1.1
   have m := fW.mp (show (ij.1, ij.2) ∈ prs ps.length from h2.1)
   exact ⟨by omega, by omega, of_decide_eq_true h2.2⟩
  ·rw [List.find?_filter, List.find?_filter]
   refine Eq.mp (congrArg (fun o => Q (prO o)) ?_) h
   unfold fpO
   congr 1
   funext ij
   unfold uF
   rw [zBS]
   simp only [zAj, decide_eq_true_eq]
   exact and_assoc
theorem si {f : Addr} {fd : FuncData} (F : av K "quarters" "quarters" jt f fd) (C : COk K mg κ) (h_place_of : Has P w K mg base "place_of" 1 ["spot"] (cB κ)) (h_side : Has P w K mg base "side" 2 ["gauge", "place"] (kN κ)) (h_spot_of : Has P w K mg base "spot_of" 1 ["dot"] (cc κ)) (z_list : mg "list" = none) : aD P w K mg base (CX1 P w) 3 f fd ["dots", "gauge", "other"] (aE K (iu κ)) := by
 refine av.okN F cY (fun ds Q E h => by obtain ⟨_, _, _, _, _, _, _, rfl, _⟩ := h; rfl) fun cdv A outer s H E hr => ⟨_, (ah (vI 3 (by exact ja hr) cY.nd (kA (l0 (aa (bU ae) (aa (bU ae) ag))) ae (kA (l0 (aa (bU ae) (aa ae ag))) ae (kA (l0 (aa ae (aa (bU ae) ag))) ae (kA (l0 (aa ae (aa ae ag))) ae Ai))))) (ah (bW PassesOwn.never rfl (aX (dv 0)) (aJ 4 cY.nd) (ah (aB 5 cY.nd (ak h_place_of (hr.mono (by decide)) (aa (ak h_spot_of (hr.mono (by decide)) (aa (dv 4) ag)) ag))) (ah (aB 6 cY.nd (aK (aa (ak h_side (hr.mono (by decide)) (aa (dv 1) (aa (dv 5) ag))) (aa (ak h_side (hr.mono (by decide)) (aa (dv 2) (aa (dv 5) ag))) ag)))) (ao (aY (yX 3 (by exact ja hr) (dv 6)) (ao (xt 3 (by exact ja hr) (dv 6) (au (dv 4) ae))) aM))))) (ao (aw ((vE 3 rfl (by rfl) z_list)).ped)))), ?_⟩
 rintro ds Q Ed ⟨ps, g0, g1, g2, o0, o1, o2, rfl, h⟩
 have e0 : aA ["dots", "gauge", "other", "weights", "dot", "spot", "sides"] [.lst false (ps.map dtD), T3 g0 g1 g2, T3 o0 o1 o2] = ([some (.val (.lst false (ps.map dtD))), some (.val (T3 g0 g1 g2)), some (.val (T3 o0 o1 o2)), none, none, none, none] : Ro) := rfl
 rw [e0]; clear e0
 obtain ⟨h0, h1, h2, k0, k1, k2, hl, hG, h⟩ := h
 walk_at "rx"
 refine ⟨sz2 _ _, sz2 _ _, sz2 _ _, sz2 _ _, [([.inl (-1), .inl (-1)], 0), ([.inl (-1), .inl 1], 0), ([.inl 1, .inl (-1)], 0), ([.inl 1, .inl 1], 0)], rfl, by decide, by decide, ?_⟩
 have one : Bd 1000 1 := Bd.mono (m := 2) (by unfold Bd; decide) (by decide)
 refine PD.nE ps dtD (fun done ρ => ∃ v4 v5 v6 : Option Sl, ρ = [some (.val (.lst false (ps.map dtD))), some (.val (T3 g0 g1 g2)), some (.val (T3 o0 o1 o2)), some (.ob (.dt (dT4 (qf (gv g0 g1 g2) (gv o0 o1 o2) (-1) (-1) done) (qf (gv g0 g1 g2) (gv o0 o1 o2) (-1) 1 done) (qf (gv g0 g1 g2) (gv o0 o1 o2) 1 (-1) done) (qf (gv g0 g1 g2) (gv o0 o1 o2) 1 1 done)))), v4, v5, v6]) (fun R q => ?_) ⟨none, none, none, rfl⟩ ?_ ?_
 ·walk_at "rd"
  exact q
 ·rintro done p ρ' hp hlt ⟨v4, v5, v6, rfl⟩
  have G := hG p hp
  have e : g0 * 1 + g1 * p.1 + g2 * p.2.1 = gv g0 g1 g2 p := by unfold gv; omega
  have e' : o0 * 1 + o1 * p.1 + o2 * p.2.1 = gv o0 o1 o2 p := by unfold gv; omega
  have sn : ∀ a b, qf (gv g0 g1 g2) (gv o0 o1 o2) a b (done ++ [p]) = qf (gv g0 g1 g2) (gv o0 o1 o2) a b done + if (decide (sg (gv g0 g1 g2 p) = a) && decide (sg (gv o0 o1 o2 p) = b)) = true then p.2.2.2 else 0 := fun a b => tW _ _ _
  walk_at "rd"
  rw [e, e']
  refine ⟨h0, h1, h2, one, G.x.mono (by decide), G.y.mono (by decide), k0, k1, k2, one, G.x.mono (by decide), G.y.mono (by decide), sz2 _ _, [.inl (sg (gv g0 g1 g2 p)), .inl (sg (gv o0 o1 o2 p))], rfl, ?_⟩
  rw [sn, sn, sn, sn]
  generalize qf (gv g0 g1 g2) (gv o0 o1 o2) (-1) (-1) done = q1
  generalize qf (gv g0 g1 g2) (gv o0 o1 o2) (-1) 1 done = q2
  generalize qf (gv g0 g1 g2) (gv o0 o1 o2) 1 (-1) done = q3
  generalize qf (gv g0 g1 g2) (gv o0 o1 o2) 1 1 done = q4
  have d43 : ∀ (K : D -> Prop), qU (dtD p) (.int 3) K = K (.int p.2.2.2) := fun K => by
   unfold dtD
   walk_at "rd"
  rcases sg3 (gv g0 g1 g2 p) with z | z | z <;> rcases sg3 (gv o0 o1 o2 p) with y | y | y <;> rw [z, y]
  ·rw [if_pos (show (bq (dT4 q1 q2 q3 q4) [Sum.inl (-1), Sum.inl (-1)]).isSome = true from rfl)]
   refine ⟨[Sum.inl (-1), Sum.inl (-1)], _, rfl, rfl, ?_⟩
   rw [d43]
   exact ⟨_, rfl, some (.val (dtD p)), some (.val (T3 1 p.1 p.2.1)), some (.val (.tup [.int (-1), .int (-1)])), by rw [pu1]; simp⟩
  ·rw [if_neg (show ¬ ((bq (dT4 q1 q2 q3 q4) [Sum.inl (-1), Sum.inl 0]).isSome = true) from zAQ)]
   exact ⟨some (.val (dtD p)), some (.val (T3 1 p.1 p.2.1)), some (.val (.tup [.int (-1), .int 0])), by simp⟩
  ·rw [if_pos (show (bq (dT4 q1 q2 q3 q4) [Sum.inl (-1), Sum.inl 1]).isSome = true from rfl)]
   refine ⟨[Sum.inl (-1), Sum.inl 1], _, rfl, rfl, ?_⟩
   rw [d43]
   exact ⟨_, rfl, some (.val (dtD p)), some (.val (T3 1 p.1 p.2.1)), some (.val (.tup [.int (-1), .int 1])), by rw [pu2]; simp⟩
  ·rw [if_neg (show ¬ ((bq (dT4 q1 q2 q3 q4) [Sum.inl 0, Sum.inl (-1)]).isSome = true) from zAQ)]
   exact ⟨some (.val (dtD p)), some (.val (T3 1 p.1 p.2.1)), some (.val (.tup [.int 0, .int (-1)])), by simp⟩
  ·rw [if_neg (show ¬ ((bq (dT4 q1 q2 q3 q4) [Sum.inl 0, Sum.inl 0]).isSome = true) from zAQ)]
   exact ⟨some (.val (dtD p)), some (.val (T3 1 p.1 p.2.1)), some (.val (.tup [.int 0, .int 0])), by simp⟩
  ·rw [if_neg (show ¬ ((bq (dT4 q1 q2 q3 q4) [Sum.inl 0, Sum.inl 1]).isSome = true) from zAQ)]
   exact ⟨some (.val (dtD p)), some (.val (T3 1 p.1 p.2.1)), some (.val (.tup [.int 0, .int 1])), by simp⟩
  ·rw [if_pos (show (bq (dT4 q1 q2 q3 q4) [Sum.inl 1, Sum.inl (-1)]).isSome = true from rfl)]
   refine ⟨[Sum.inl 1, Sum.inl (-1)], _, rfl, rfl, ?_⟩
   rw [d43]
   exact ⟨_, rfl, some (.val (dtD p)), some (.val (T3 1 p.1 p.2.1)), some (.val (.tup [.int 1, .int (-1)])), by rw [pu3]; simp⟩
  ·rw [if_neg (show ¬ ((bq (dT4 q1 q2 q3 q4) [Sum.inl 1, Sum.inl 0]).isSome = true) from zAQ)]
   exact ⟨some (.val (dtD p)), some (.val (T3 1 p.1 p.2.1)), some (.val (.tup [.int 1, .int 0])), by simp⟩
  ·rw [if_pos (show (bq (dT4 q1 q2 q3 q4) [Sum.inl 1, Sum.inl 1]).isSome = true from rfl)]
   refine ⟨[Sum.inl 1, Sum.inl 1], _, rfl, rfl, ?_⟩
   rw [d43]
   exact ⟨_, rfl, some (.val (dtD p)), some (.val (T3 1 p.1 p.2.1)), some (.val (.tup [.int 1, .int 1])), by rw [pu4]; simp⟩
 ·rintro ρ' ⟨v4, v5, v6, rfl⟩
  walk_at "rd"
  exact h
theorem jL {f : Addr} {fd : FuncData} (F : av K "first_quartering" "first_quartering" cM f fd) (C : COk K mg κ) (h_pair_lineO : Has P w K mg base "pair_line" 4 ["dots", "pair"] (bH κ)) (h_quarters : Has P w K mg base "quarters" 3 ["dots", "gauge", "other"] (iu κ)) (h_total : fi P w K mg base "total" 2 ["dots", "colour"] "colour" (du κ)) (z_max : mg "max" = none) : aD P w K mg base (CX1 P w) 5 f fd ["dots", "pairs", "gauge"] (aE K (cE κ)) := by
 refine av.okN F cD (fun ds Q E h => by obtain ⟨_, _, _, _, _, rfl, _⟩ := h; rfl) fun cdv A outer s H E hr => ⟨_, (ah (aB 3 cD.nd (jR h_total (hr.mono (by decide)) (aa (dv 0) ag))) (ah (bW PassesOwn.never rfl (aX (dv 1)) (aJ 4 cD.nd) (ao (aY (aQ yF (ar aN ae (bo (yU rfl) (by rfl) z_max boot_max (aa (ak h_quarters (hr.mono (by decide)) (aa (dv 0) (aa (dv 2) (aa (ak h_pair_lineO (hr.mono (by decide)) (aa (dv 0) (aa (dv 4) ag))) ag)))) ag))) (dv 3)) (ao (aw (dv 4))) aM))) (ao (aw eY)))), ?_⟩
 rintro ds Q Ed ⟨ps, rs, g0, g1, g2, rfl, h⟩
 have e0 : aA ["dots", "pairs", "gauge", "whole", "pair"] [.lst false (ps.map dtD), .lst false (rs.map prD), T3 g0 g1 g2] = ([some (.val (.lst false (ps.map dtD))), some (.val (.lst false (rs.map prD))), some (.val (T3 g0 g1 g2)), none, none] : Ro) := rfl
 rw [e0]; clear e0
 obtain ⟨hl, h0, h1, h2, hG, hr, h⟩ := h
 have et : tot (fun _ => true) ps = WA ps := ko _ _
 walk_at "rx"
 refine ⟨fun _ => true, .inl ⟨rfl, rfl⟩, hl, ?_⟩
 rw [et]
 refine PD.cK rs prD (fun j ρ => ∃ v4 : Option Sl, ρ = [some (.val (.lst false (ps.map dtD))), some (.val (.lst false (rs.map prD))), some (.val (T3 g0 g1 g2)), some (.val (.int (WA ps))), v4] /\ ∀ y ∈ rs.take j, quB (gv g0 g1 g2) (tqf ps y) ps = false) (fun R q => ?_) ⟨none, rfl, by simp⟩ ?_ ?_
 ·walk_at "rd"
  exact q
 ·rintro j ij ρ' hj ⟨v4, rfl, hn⟩
  obtain ⟨i1, i2, ne⟩ := hr ij (zAV hj)
  walk_at "rx"
  refine ⟨i1, i2, hG, ne, fun o0 o1 o2 m b0 b1 b2 hm hg => ?_⟩
  walk_at "rx"
  refine ⟨h0, h1, h2, b0, b1, b2, hl, hG, .inr ⟨true, kC (gv g0 g1 g2) (gv o0 o1 o2) ps, rfl, by show 0 < 4; decide, fun mx m1 m2 => ?_⟩⟩
  have em := BX m1 m2
  rw [yJ hm (show ∀ z, gv o0 o1 o2 z * m = tqf ps ij z from hg)] at em
  walk_at "rd"
  refine ⟨.inl (by unfold Bd; decide), ?_⟩
  by_cases hb : 4 * mx <= WA ps
  ·rw [if_pos hb]
   rw [decide_eq_true hb] at em
   have e := kB (p := fun ij : Nat × Nat => quB (gv g0 g1 g2) (tqf ps ij) ps) hj hn em.symm
   rw [e] at h
   exact h
  ·rw [if_neg hb]
   rw [decide_eq_false hb] at em
   refine ⟨_, rfl, fun y hy => ?_⟩
   rcases take_snoc hj hy with z | z
   ·exact hn y z
   ·subst z
    exact em.symm
 ·rintro ρ' ⟨v4, rfl, hn⟩
  walk_at "rd"
  rw [zB4] at hn
  have e : rs.find? (fun ij => quB (gv g0 g1 g2) (tqf ps ij) ps) = none := List.find?_eq_none.mpr fun y hy => by rw [hn y hy]; simp
  rw [e] at h
  exact h
theorem qN {f : Addr} {fd : FuncData} (F : av K "quartered" "quartered" ib f fd) (C : COk K mg κ) (h_first_fairN : Has P w K mg base "first_fair" 5 ["dots", "pairs", "colours"] (eJ κ)) (h_first_quartering : Has P w K mg base "first_quartering" 5 ["dots", "pairs", "gauge"] (cE κ)) (h_pair_lineO : Has P w K mg base "pair_line" 4 ["dots", "pair"] (bH κ)) (h_spot_pairs : Has P w K mg base "spot_pairs" 3 ["dots"] (cx κ)) (z_len : mg "len" = none) : aD P w K mg base (CX1 P w) 6 f fd ["dots"] (aE K (gE κ)) := by
 refine av.okN F gw (fun ds Q E h => by obtain ⟨_, rfl, _⟩ := h; rfl) fun cdv A outer s H E hr => ⟨_, (ah (aB 1 gw.nd (ak h_spot_pairs (hr.mono (by decide)) (aa (dv 0) ag))) (ah (aY (aQ cL (bo jP (by rfl) z_len boot_len (aa (dv 1) ag)) ae) (ao (aw eY)) aM) (ah (aB 2 gw.nd (ak h_first_fairN (hr.mono (by decide)) (aa (dv 0) (aa (dv 1) (aa (aK (aa eY ag)) ag))))) (ao (aw (aK (aa (dv 2) (aa (ak h_first_quartering (hr.mono (by decide)) (aa (dv 0) (aa (dv 1) (aa (ak h_pair_lineO (hr.mono (by decide)) (aa (dv 0) (aa (dv 2) ag))) ag)))) ag)))))))), ?_⟩
 rintro ds Q Ed ⟨ps, rfl, h⟩
 have e0 : aA ["dots", "pairs", "first"] [.lst false (ps.map dtD)] = ([some (.val (.lst false (ps.map dtD))), none, none] : Ro) := rfl
 rw [e0]; clear e0
 obtain ⟨hl, hG, hP, h⟩ := h
 walk_at "rx"
 refine ⟨hl, ?_⟩
 rw [show (prs ps.length).filter (fun ij => decide (sp2 (gp ps ij.1) ≠ sp2 (gp ps ij.2))) = sps ps from rfl]
 have val : ∀ ij ∈ sps ps, ij.1 < ps.length /\ ij.2 < ps.length /\ sp2 (gp ps ij.1) ≠ sp2 (gp ps ij.2) := fun ij hij => by
  obtain ⟨a, b, c⟩ := dA.mp hij
  exact ⟨by omega, b, c⟩
 rcases jd hP with ⟨e, f, qe⟩ | ⟨ij, ne, m1, f1, qe⟩
 ·rw [qe] at h
  rw [e, if_pos (show ((([] : List (Nat × Nat)).map prD).length : Int) = 0 from rfl)]
  exact h
 ·rw [qe] at h
  rw [if_neg (by rw [zAA]; have := List.length_pos_iff.mpr ne; omega), show (sps ps).find? (fun ij => bg (tqf ps ij) ps) = some ij from f1]
  refine ⟨sz1 _, hl, hG, val, ?_⟩
  show bH κ [.lst false (ps.map dtD), prD ij] _ _
  rw [dq]
  obtain ⟨v1, v2, v3⟩ := val ij m1
  refine ⟨v1, v2, hG, v3, fun g0 g1 g2 m b0 b1 b2 hm hg => ?_⟩
  walk_at "rx"
  refine ⟨hl, b0, b1, b2, hG, val, ?_⟩
  rw [show (fun kl => quB (gv g0 g1 g2) (tqf ps kl) ps) = fun kl => quB (tqf ps ij) (tqf ps kl) ps from funext fun kl => yI hm (show ∀ z, gv g0 g1 g2 z * m = tqf ps ij z from hg) ps]
  exact ⟨sz2 _ _, h⟩
theorem qL {f : Addr} {fd : FuncData} (F : av K "_law_whole" "_law_whole" h9 f fd) (C : COk K mg κ)  (z_bool : mg "bool" = none) (z_int : mg "int" = none) (z_isinstance : mg "isinstance" = none) : aD P w K mg base (CX1 P w) 1 f fd ["_law_found"] (aE K (dU κ)) := by
 refine av.okN F rg (fun ds Q E h => by obtain ⟨_, rfl, _⟩ := h; rfl) fun cdv A outer s H E hr => ⟨_, (ao (aw (iD (jS (by rfl) z_isinstance (by rfl) z_int boot_int (.inl rfl) (dv 0)) (lW (Ah (jS (by rfl) z_isinstance (by rfl) z_bool boot_bool (.inr (.inl rfl)) (dv 0))))))), ?_⟩
 rintro ds Q Ed ⟨a, rfl, h⟩
 have e0 : aA ["_law_found"] [.int a] = ([some (.val (.int a))] : Ro) := rfl
 rw [e0]; clear e0
 walk_at "rd"
 exact h
theorem nL {f : Addr} {fd : FuncData} (F : av K "_law_cell_at" "_law_cell_at" fv f fd) (C : COk K mg κ)  (z_len : mg "len" = none) : aD P w K mg base (CX1 P w) 1 f fd ["_law_script", "_law_k"] (aE K (cT κ)) := by
 refine av.okN F nR (fun ds Q E h => by obtain ⟨_, _, rfl, _⟩ := h; rfl) fun cdv A outer s H E hr => ⟨_, (ah (aY (aQ uQ (dv 1) (bo jP (by rfl) z_len boot_len (aa (dv 0) ag))) (ao (aw (au (dv 0) (dv 1)))) aM) (ao (aw ae))), ?_⟩
 rintro ds Q Ed ⟨ns, k, rfl, h⟩
 have e0 : aA ["_law_script", "_law_k"] [.lst false (ns.map D.int), .int k] = ([some (.val (.lst false (ns.map D.int))), some (.val (.int k))] : Ro) := rfl
 rw [e0]; clear e0
 obtain ⟨hk, hn, h⟩ := h
 walk_at "rd"
 by_cases hl : k < ((ns.map D.int).length : Int)
 ·rw [if_pos (by simpa using hl)]
  rw [zAA] at hl
  exact ⟨_, w9 hk hl, h _⟩
 ·rw [if_neg (by simpa using hl)]
  exact h 0
theorem oR {f : Addr} {fd : FuncData} (F : av K "_law_stream" "_law_stream" gn f fd) (C : COk K mg κ)  (z_range : mg "range" = none) : aD P w K mg base (CX1 P w) 1 f fd ["_law_cell", "_law_many"] (aE K (df κ)) := by
 refine av.okN F aR (fun ds Q E h => by obtain ⟨_, _, rfl, _⟩ := h; rfl) fun cdv A outer s H E hr => ⟨_, (ah (gg 2 aR.nd ag) (ah (aB 3 aR.nd (dv 0)) (ah (bW PassesOwn.never rfl (gM (by rfl) z_range (aa (dv 1) ag)) (aJ 4 aR.nd) (ah (dw 2 (ar aH (dv 3) (ar mG ae ae))) (ao (aB 3 aR.nd (ar bX (dv 3) (ar mG ae ae)))))) (ah (aY (aQ uP (dv 3) ae) (b9 2 (ao (aw (dv 2)))) aM) (ah (gg 2 aR.nd ag) (ah (aB 5 aR.nd (ar aP (ar aH (dv 0) ae) ae)) (ah (aB 6 aR.nd (ar aP (ar aH (ar bX (dv 0) ae) ae) ae)) (ah (bW PassesOwn.never rfl (gM (by rfl) z_range (aa (dv 1) ag)) (aJ 4 aR.nd) (ah (aB 5 aR.nd (ar aH (ar aP (ar aP (ar aN (dv 5) ae) (ar aN (dv 4) (dv 4))) ae) ae)) (ah (aB 6 aR.nd (ar aH (ar aP (ar aN (dv 6) ae) (dv 5)) ae)) (ao (dw 2 (ar bX (dv 6) ae)))))) (b9 2 (ao (aw (dv 2)))))))))))), ?_⟩
 rintro ds Q Ed ⟨c, m, rfl, h⟩
 have e0 : aA ["_law_cell", "_law_many", "_law_found", "_law_rest", "_law_k", "_law_number", "_law_other"] [.int c, .int m] = ([some (.val (.int c)), some (.val (.int m)), none, none, none, none, none] : Ro) := rfl
 rw [e0]; clear e0
 obtain ⟨h0, h1, h⟩ := h
 obtain ⟨n, rfl⟩ : ∃ n : Nat, m = n := ⟨m.toNat, by omega⟩
 walk_at "rx"
 refine ⟨zAi _, ?_⟩
 refine PD.cK (List.range' 0 n) (fun (k : Nat) => D.int (k : Int)) (fun j ρ => ∃ (xs : List Int) (r : Int) (v : Option Sl), ρ = [some (.val (.int c)), some (.val (.int n)), some (.own (xs.map D.int)), some (.val (.int r)), v, none, none] /\ xs.length = j /\ ∀ x ∈ xs, 0 <= x /\ x < 10000000000000) (fun R q => ?_) ⟨[], c, none, rfl, rfl, by simp⟩ ?_ ?_
 ·walk_at "rd"
  rw [uY]
  exact ⟨⟨by omega, by omega⟩, q⟩
 ·rintro j k ρ' hj ⟨xs, r, v, rfl, hlen, hb⟩
  obtain ⟨hj', _⟩ := zAF.mp hj
  rw [zAq] at hj'
  walk_at "rd"
  rw [p13]
  have hf := fm (a := r) (b := 10000000000000) (by decide)
  refine ⟨Ad, by decide, by rw [zAA, sizeLine_eq]; omega, Ad, CD.lit, xs ++ [r.fmod 10000000000000], _, _, by rw [zAb]; rfl, by simp [hlen], ?_⟩
  intro z hz
  rcases zAW.mp hz with q | q
  ·exact hb z q
  ·simp at q
   subst q
   exact hf
 ·rintro ρ' ⟨xs, r, v, rfl, hlen, hb⟩
  rw [zAq] at hlen
  walk_at "rx"
  split
  ·exact h xs (by rw [hlen]; omega) hb
  ·refine ⟨zAi _, by decide, CD.lit, by decide, ?_⟩
   refine PD.cK (List.range' 0 n) (fun (k : Nat) => D.int (k : Int)) (fun j ρ => ∃ (xs : List Int) (x y : Int) (v : Option Sl), ρ = [some (.val (.int c)), some (.val (.int n)), some (.own (xs.map D.int)), some (.val (.int r)), v, some (.val (.int x)), some (.val (.int y))] /\ xs.length = j /\ (∀ x ∈ xs, 0 <= x /\ x < 10000000000000)) (fun R q => ?_) ⟨[], _, _, v, rfl, rfl, by simp⟩ ?_ ?_
   ·walk_at "rd"
    rw [uY]
    exact ⟨⟨by omega, by omega⟩, q⟩
   ·rintro j k ρ' hj ⟨xs, x, y, v, rfl, hlen, hb⟩
    obtain ⟨hj', ek⟩ := zAF.mp hj
    rw [zAq] at hj'
    rw [List.getElem_range'] at ek
    walk_at "rd"
    have hf := fm (a := y * 69621 + (x * 48271 + (k : Int) * k + 11).fmod 2147483647) (b := 2147483629) (by decide)
    generalize (x * 48271 + (k : Int) * k + 11).fmod 2147483647 = x1 at hf ⊢
    generalize (y * 69621 + x1).fmod 2147483629 = y1 at hf ⊢
    refine ⟨.inr (.inl (by unfold Bd; decide)), .inl (by unfold Bd; omega), by decide, .inr (.inl (by unfold Bd; decide)), by decide, CD.lit, by rw [zAA, sizeLine_eq]; omega, xs ++ [y1.fdiv 7], _, _, _, by rw [zAb]; rfl, by simp [hlen], ?_⟩
    intro z hz
    rcases zAW.mp hz with q | q
    ·exact hb z q
    ·simp at q
     subst q
     have e := Int.fdiv_eq_ediv_of_nonneg y1 (show (0 : Int) <= 7 by decide)
     rw [e]
     omega
   ·rintro ρ' ⟨xs, x, y, v, rfl, hlen, hb⟩
    rw [zAq] at hlen
    walk_at "rd"
    exact h xs (by rw [hlen]; omega) hb
theorem rZ {f : Addr} {fd : FuncData} (F : av K "_law_spot" "_law_spot" jo f fd) (C : COk K mg κ)   : aD P w K mg base (CX1 P w) 1 f fd ["_law_kind", "_law_xs", "_law_way"] (aE K (iq κ)) := by
 refine av.okN F kW (fun ds Q E h => by obtain ⟨_, _, _, _, _, rfl, _⟩ := h; rfl) fun cdv A outer s H E hr => ⟨_, (ah (aY (aQ cL (dv 0) ae) (ao (aw (aK (aa (ar bB (ar aH (au (dv 1) ae) ae) ae) (aa (ar bB (ar aH (au (dv 1) ae) ae) ae) ag))))) aM) (ah (aY (aQ cL (dv 0) ae) (ao (aw (aK (aa (ar bB (ar aH (au (dv 1) ae) ae) ae) (aa (ar bB (ar aH (au (dv 1) ae) ae) ae) ag))))) aM) (ah (aY (aQ cL (dv 0) ae) (ao (aw (aK (aa (ar bB (ar aH (au (dv 1) ae) ae) ae) (aa (ar bB (ar aH (au (dv 1) ae) ae) ae) ag))))) aM) (ah (aY (aQ cL (dv 0) ae) (ah (aB 3 kW.nd (ar bB (ar aH (au (dv 1) ae) ae) ae)) (ao (aw (aK (aa (ar aP (ar aN (dv 3) (au (dv 2) ae)) (au (dv 2) ae)) (aa (ar bB (ar aN (dv 3) (au (dv 2) ae)) (au (dv 2) ae)) ag)))))) aM) (ah (aY (aQ cL (dv 0) ae) (ao (aw (aK (aa (ar bB (ar aH (au (dv 1) ae) ae) ae) (aa (ar aN (ar bB (ar aH (au (dv 1) ae) ae) ae) (ar bB (ar aH (au (dv 1) ae) ae) ae)) ag))))) aM) (ao (aw (au (dG (aa (aK (aa ae (aa ae ag))) (aa (aK (aa ae (aa ae ag))) (aa (aK (aa ae (aa ae ag))) (aa (aK (aa ae (aa ae ag))) (aa (aK (aa (bU ae) (aa ae ag))) ag)))))) (ar aH (au (dv 1) ae) ae))))))))), ?_⟩
 rintro ds Q Ed ⟨k, xs, w0, w1, w2, rfl, h⟩
 have e0 : aA ["_law_kind", "_law_xs", "_law_way", "_law_step"] [.int k, .lst false (xs.map D.int), T3 w0 w1 w2] = ([some (.val (.int k)), some (.val (.lst false (xs.map D.int))), some (.val (T3 w0 w1 w2)), none] : Ro) := rfl
 rw [e0]; clear e0
 obtain ⟨hl, hb, b0, b1, b2, h⟩ := h
 obtain ⟨x, y, z, u, rfl⟩ : ∃ x y z u : Int, xs = [x, y, z, u] := by
  match xs, hl with
  | [x, y, z, u], _ => exact ⟨x, y, z, u, rfl⟩
 have hx := hb x (by simp)
 have hy := hb y (by simp)
 walk_at "rd"
 have fin : ∀ a b : Int, Bd 40 a -> Bd 40 b -> ([D.int a, .int b] : List D).length <= sizeLine /\ Q (.tup [.int a, .int b]) := fun a b ha hb => ⟨sz2 _ _, h a b ha hb⟩
 have f3 := fun n : Int => fm (a := n) (b := 3) (by decide)
 have f5 := fun n : Int => fm (a := n) (b := 5) (by decide)
 have f9 := fun n : Int => fm (a := n) (b := 9) (by decide)
 have f25 := fun n : Int => fm (a := n) (b := 25) (by decide)
 have ff := fun n : Int => fm (a := n) (b := 2 * 1000000000000 - 1) (by decide)
 split
 ·exact ⟨by decide, by decide, fin _ _ (bdl 10 (by have := f3 x; omega) (by decide)) (bdl 10 (by have := f3 y; omega) (by decide))⟩
 ·split
  ·exact ⟨by decide, by decide, fin _ _ (bdl 10 (by have := f5 x; omega) (by decide)) (bdl 10 (by have := f5 y; omega) (by decide))⟩
  ·split
   ·have fa := fun n : Int => fm (a := n) (b := 200001) (by decide)
    exact ⟨by decide, by decide, fin _ _ (bdl 200001 (by have := fa x; omega) (by decide)) (bdl 200001 (by have := fa y; omega) (by decide))⟩
   ·split
    ·have s := f9 x
     have bs : Bd 8 (x.fmod 9 - 4) := bdl 10 (by omega) (by decide)
     generalize x.fmod 9 - 4 = t at bs ⊢
     have cm : ∀ {v : Int}, CM t v := fun {v} => .inl (bs.mono (by decide))
     exact ⟨by decide, cm, cm, fin _ _ (((bs.mul b0).add (b2.mono (by decide))).mono (by decide)) (((bs.mul b1).sub (b2.mono (by decide))).mono (by decide))⟩
    ·split
     ·have s := f25 x
      have bs : Bd 8 (x.fmod 25 - 12) := bdl 20 (by omega) (by decide)
      generalize x.fmod 25 - 12 = t at bs ⊢
      exact ⟨by decide, by decide, by decide, .inl (bs.mono (by decide)), fin _ _ (bs.mono (by decide)) ((bs.mul bs).mono (by decide))⟩
     ·refine ⟨sz2 _ _, sz2 _ _, sz2 _ _, sz2 _ _, sz2 _ _, by rw [sizeLine_eq]; decide, by decide, ?_⟩
      refine iA (f5 x).1 (by have := (f5 x).2; simpa using this) fun d hd => ?_
      simp only [zAN, zBP, or_false] at hd
      rcases hd with rfl | rfl | rfl | rfl | rfl <;> exact h _ _ (by unfold Bd; decide) (by unfold Bd; decide)
theorem rW {f : Addr} {fd : FuncData} (F : av K "_law_dots" "_law_dots" ji f fd) (C : COk K mg κ) (h_law_spot : Has P w K mg base "_law_spot" 1 ["_law_kind", "_law_xs", "_law_way"] (iq κ)) (h_law_stream : Has P w K mg base "_law_stream" 1 ["_law_cell", "_law_many"] (df κ))  : aD P w K mg base (CX1 P w) 2 f fd ["_law_first", "_law_cells", "_law_most"] (aE K (ig κ)) := by
 refine av.okN F bL (fun ds Q E h => by obtain ⟨_, _, _, rfl, _⟩ := h; rfl) fun cdv A outer s H E hr => ⟨_, (ah (aB 3 bL.nd (au (dG (aa (aK (aa ae (aa ae (aa ae ag)))) (aa (aK (aa ae (aa ae (aa ae ag)))) (aa (aK (aa ae (aa ae (aa (bU ae) ag)))) (aa (aK (aa ae (aa (bU ae) (aa ae ag)))) (aa (aK (aa ae (aa ae (aa ae ag)))) ag)))))) (ar aH (ar bX (dv 0) ae) ae))) (ah (gg 4 bL.nd ag) (ah (bW PassesOwn.never rfl (aX ((qb (ar aP (dv 1) (ak h_law_stream (hr.mono (by decide)) (aa (dv 0) (aa (ar aH (ar bX (dv 0) ae) ae) ag)))) sL (nr (dv 2)))).ped) (aJ 5 bL.nd) (ah (aB 6 bL.nd (ak h_law_stream (hr.mono (by decide)) (aa (dv 5) (aa ae ag)))) (ah (vG (ak h_law_spot (hr.mono (by decide)) (aa (ar aH (dv 0) ae) (aa (dv 6) (aa (dv 3) ag)))) (qu (n := 2) rfl (bF (aJ 8 bL.nd) (bF (aJ 9 bL.nd) nF)))) (ah (aB 7 bL.nd (au (dG (aa ae (aa (ar aP ae (ar aH (au (dv 6) ae) ae)) (aa (ar aP ae (ar aH (ar aN (au (dv 6) ae) ae) (ar bB (ar mG ae ae) ae))) ag)))) (ar aH (ar bX (dv 0) ae) ae))) (ao (dw 4 (aK (aa (dv 8) (aa (dv 9) (aa (ar aH (au (dv 6) ae) ae) (aa (dv 7) ag))))))))))) (b9 4 (ao (aw (dv 4))))))), ?_⟩
 rintro ds Q Ed ⟨f, cs, m, rfl, h⟩
 have e0 : aA ["_law_first", "_law_cells", "_law_most", "_law_way", "_law_dots_here", "_law_cell", "_law_xs", "_law_weight", "_law_x", "_law_y"] [.int f, .lst false (cs.map D.int), .int m] = ([some (.val (.int f)), some (.val (.lst false (cs.map D.int))), some (.val (.int m)), none, none, none, none, none, none, none] : Ro) := rfl
 rw [e0]; clear e0
 obtain ⟨hc, hm0, hm1, h⟩ := h
 walk_at "rd"
 refine ⟨sz3 _ _ _, sz3 _ _ _, sz3 _ _ _, sz3 _ _ _, sz3 _ _ _, by rw [sizeLine_eq]; decide, CD.lit, by decide, ?_⟩
 have f5 := fm (a := f.fdiv 6) (b := 5) (by decide)
 refine iA f5.1 f5.2 fun d hd => ?_
 obtain ⟨w0, w1, w2, rfl, b0, b1, b2⟩ : ∃ w0 w1 w2 : Int, d = T3 w0 w1 w2 /\ Bd 8 w0 /\ Bd 8 w1 /\ Bd 8 w2 := by
  simp only [zAN, zBP, or_false] at hd
  rcases hd with rfl | rfl | rfl | rfl | rfl <;> exact ⟨_, _, _, rfl, by unfold Bd; decide, by unfold Bd; decide, by unfold Bd; decide⟩
 have f9 := fm (a := f.fdiv 30) (b := 9) (by decide)
 walk_at "rd"
 refine ⟨zAi _, CD.lit, by decide, f9.1, by omega, fun ys hy hyb => ?_⟩
 walk_at "rd"
 rw [<- zAb, sG]
 have lc := BN (cs ++ ys) hm0
 generalize m8 (cs ++ ys) none (some m) = zs at lc ⊢
 have hyl : ys.length < 1000 := by rw [hy]; omega
 refine ⟨by rw [zAA, zAA, sizeLine_eq]; omega, fun j ρ => ∃ (ps : List Dt) (v5 v6 v7 v8 v9 : Option Sl), ρ = [some (.val (.int f)), some (.val (.lst false (cs.map D.int))), some (.val (.int m)), some (.val (T3 w0 w1 w2)), some (.own (ps.map dtD)), v5, v6, v7, v8, v9] /\ ps.length = j /\ (∀ p ∈ ps, GD p /\ Bd 40 p.1 /\ Bd 40 p.2.1) /\ Pos ps, ⟨[], none, none, none, none, none, rfl, rfl, by simp, by intro p hp; cases hp⟩, ?_, ?_⟩
 ·rintro j x ρ' hx ⟨ps, v5, v6, v7, v8, v9, rfl, hlen, hG, hP⟩
  obtain ⟨n, rfl, _, hj⟩ := getInt hx
  walk_at "rd"
  refine ⟨by decide, by decide, fun xs hl hb => ?_⟩
  obtain ⟨x, y, z, u, rfl⟩ := four hl
  walk_at "rd"
  refine ⟨by decide, rfl, hb, b0, b1, b2, fun a b ha hb' => ?_⟩
  walk_at "rd"
  have f2 := fm (a := z) (b := 2) (by decide)
  have f3 := fm (a := z) (b := 3) (by decide)
  have g4 := fm (a := f.fdiv 270) (b := 4) (by decide)
  have g3 := fm (a := f.fdiv 1080) (b := 3) (by decide)
  rw [p9]
  refine ⟨by decide, .inr (.inl (by unfold Bd; decide)), cp9, by decide, sz3 _ _ _, CD.lit, by decide, ?_⟩
  refine iA g3.1 g3.2 fun d hd => ?_
  have w1 := fm (a := u) (b := 9) (by decide)
  have w2 := fm (a := u * 48271) (b := 1000000000 - 1) (by decide)
  obtain ⟨v, rfl, hv⟩ : ∃ v : Int, d = .int v /\ 0 < v := by
   simp only [zAN, zBP, or_false] at hd
   rcases hd with rfl | rfl | rfl
   ·exact ⟨_, rfl, by decide⟩
   ·exact ⟨_, rfl, by omega⟩
   ·exact ⟨_, rfl, by omega⟩
  refine ⟨by decide, sz4 _ _ _ _, by rw [zAA, sizeLine_eq]; omega, ps ++ [(a, b, z.fmod 3, v)], _, _, _, _, _, by rw [zAb]; rfl, by simp [hlen], ?_, ?_⟩
  ·intro p hp
   rcases zAW.mp hp with q | q
   ·exact hG p q
   ·simp at q
    subst q
    exact ⟨⟨ha.mono (by decide), hb'.mono (by decide), f3.1, Int.le_of_lt_add_one f3.2⟩, ha, hb'⟩
  ·intro p hp
   rcases zAW.mp hp with q | q
   ·exact hP p q
   ·simp at q
    subst q
    exact hv
 ·rintro ρ' ⟨ps, v5, v6, v7, v8, v9, rfl, hlen, hG, hP⟩
  walk_at "rd"
  exact h ps (by rw [hlen, zAA]; omega) hG hP
theorem uU {f : Addr} {fd : FuncData} (F : av K "_law_map" "_law_map" kb f fd) (C : COk K mg κ) (h_law_cell_at : Has P w K mg base "_law_cell_at" 1 ["_law_script", "_law_k"] (cT κ)) (h_law_stream : Has P w K mg base "_law_stream" 1 ["_law_cell", "_law_many"] (df κ)) (z_abs : mg "abs" = none) (z_range : mg "range" = none) : aD P w K mg base (CX1 P w) 2 f fd ["_law_script"] (aE K (jy κ)) := by
 refine av.okN F cS (fun ds Q E h => by obtain ⟨_, rfl, _⟩ := h; rfl) fun cdv A outer s H E hr => ⟨_, (ah (aB 1 cS.nd (au (dG (aa ae (aa ae (aa ae ag)))) (ar aH (ak h_law_cell_at (hr.mono (by decide)) (aa (dv 0) (aa ae ag))) ae))) (ah (gg 2 cS.nd ag) (ah (bW PassesOwn.never rfl (gM (by rfl) z_range (aa ae ag)) (aJ 3 cS.nd) (ah (aY (aQ cL (dv 3) ae) (ao (aB 1 cS.nd (ar mG ae ae))) aM) (ah (aB 4 cS.nd (au (ak h_law_stream (hr.mono (by decide)) (aa (ar aP (ak h_law_cell_at (hr.mono (by decide)) (aa (dv 0) (aa (ar aP ae (dv 3)) ag))) (dv 3)) (aa ae ag))) ae)) (ao (dw 2 (ar aP (ar bB (ar aH (ar aN (dv 4) ae) (ar bB (ar aN ae (dv 1)) ae)) (dv 1)) ae)))))) (ah (aY (yY 2 (aQ cL (ar aN (au (dv 2) ae) (au (dv 2) ae)) (ar aN (au (dv 2) ae) (au (dv 2) ae)))) (ah (lB 2 ae (sH 2 (ar aP ae (bo vo (by rfl) z_abs boot_abs (aa (au (dv 2) ae) ag))))) (ah (lB 2 ae (sH 2 (au (dG (aa ae (aa (bU ae) ag))) (ar aH (au (dv 2) ae) ae)))) (ao (lB 2 ae ae)))) aM) (b9 2 (ao (aw (dv 2)))))))), ?_⟩
 rintro ds Q Ed ⟨ns, rfl, h⟩
 have e0 : aA ["_law_script", "_law_far", "_law_found", "_law_k", "_law_number"] [.lst false (ns.map D.int)] = ([some (.val (.lst false (ns.map D.int))), none, none, none, none] : Ro) := rfl
 rw [e0]; clear e0
 obtain ⟨hl, h⟩ := h
 walk_at "rx"
 refine ⟨sz3 _ _ _, by decide, hl, fun v => ⟨by decide, ?_⟩⟩
 have f3 := fm (a := v) (b := 3) (by decide)
 refine iA f3.1 f3.2 fun d hd => ?_
 obtain ⟨r0, rfl, r1, r2⟩ : ∃ r : Int, d = .int r /\ 2 <= r /\ r <= 100 := by
  simp only [zAN, zBP, or_false] at hd
  rcases hd with rfl | rfl | rfl <;> exact ⟨_, rfl, by decide, by decide⟩
 refine ⟨zAi _, ?_⟩
 refine PD.cK (List.range' 0 6) (fun (k : Nat) => D.int (k : Int)) (fun j ρ => ∃ (r : Int) (xs : List Int) (v3 v4 : Option Sl), ρ = [some (.val (.lst false (ns.map D.int))), some (.val (.int r)), some (.own (xs.map D.int)), v3, v4] /\ xs.length = j /\ 2 <= r /\ r <= 1000000 /\ (j <= 4 -> r <= 100) /\ (∀ x ∈ xs, -1000000 < x /\ x < 1000000) /\ ∀ x ∈ xs.take 4, -100 < x /\ x < 100) (fun R q => ?_) ⟨r0, [], none, none, rfl, rfl, r1, by omega, fun _ => r2, by simp, by simp⟩ ?_ ?_
 ·walk_at "rd"
  have e := uY 6
  rw [show ((6 : Nat) : Int) = 6 from rfl] at e
  rw [e]
  exact ⟨⟨by decide, by decide⟩, q⟩
 ·rintro j x ρ' hx ⟨r, xs, v3, v4, rfl, hlen, q1, q2, q3, hb, hb4⟩
  obtain ⟨hj, ej⟩ := zAF.mp hx
  rw [zAq] at hj
  rw [List.getElem_range'] at ej
  obtain rfl : x = j := by omega
  refine bu (fun ρ => ∃ (r : Int) (v4 : Option Sl), ρ = [some (.val (.lst false (ns.map D.int))), some (.val (.int r)), some (.own (xs.map D.int)), some (.val (.int (x : Int))), v4] /\ 2 <= r /\ r <= 1000000 /\ (x + 1 <= 4 -> r <= 100)) ?_ fun K hK => ?_
  ·rintro ρ' ⟨r, v4, rfl, q1, q2, q3⟩
   walk_at "rx"
   refine ⟨by omega, hl, fun n => ⟨by decide, by decide, fun ys hy hyb => ?_⟩⟩
   obtain ⟨y, rfl⟩ : ∃ y : Int, ys = [y] := by
    match ys, hy with
    | [y], _ => exact ⟨y, rfl⟩
   walk_at "rx"
   have hy := hyb y (by simp)
   have w := fm (a := y * 48271) (b := 2 * r - 1) (by omega)
   refine ⟨.inr (.inl (by unfold Bd; decide)), .inl (by unfold Bd; decide), by omega, by rw [zAA, sizeLine_eq]; omega, r, xs ++ [_], _, _, by rw [zAb]; rfl, by simp [hlen], q1, q2, q3, ?_, ?_⟩
   ·intro z hz
    rcases zAW.mp hz with q | q
    ·exact hb z q
    ·simp at q
     subst q
     omega
   ·intro z hz
    rw [List.take_append] at hz
    rcases zAW.mp hz with q | q
    ·exact hb4 z q
    ·by_cases c : x + 1 <= 4
     ·have := zA3 q
      simp at this
      subst this
      have := q3 c
      omega
     ·rw [show 4 - xs.length = 0 by omega] at q
      simp at q
  ·walk_at "rx"
   split
   ·rw [p6]
    exact ⟨cp6, hK _ ⟨1000000, v4, rfl, by decide, by decide, fun z => by omega⟩⟩
   ·rename_i c
    exact hK _ ⟨r, v4, rfl, q1, q2, fun z => q3 (by omega)⟩
 ·rintro ρ' ⟨r, xs, v3, v4, rfl, hlen, q1, q2, q3, hb, hb4⟩
  rw [zAq] at hlen
  obtain ⟨a, b, c, d, e, f, rfl⟩ : ∃ a b c d e f : Int, xs = [a, b, c, d, e, f] := by
   match xs, hlen with
   | [a, b, c, d, e, f], _ => exact ⟨a, b, c, d, e, f, rfl⟩
  have ha := hb4 a (by simp)
  have hb' := hb4 b (by simp)
  have hc := hb4 c (by simp)
  have hd := hb4 d (by simp)
  have he := hb e (by simp)
  have hf := hb f (by simp)
  have be : Bd 21 e := bdl 1000001 (by omega) (by decide)
  have bf : Bd 21 f := bdl 1000001 (by omega) (by decide)
  have b8 : ∀ {x : Int}, -100 < x /\ x < 100 -> Bd 8 x := fun q => bdl 200 (by omega) (by decide)
  walk_at "rx"
  refine ⟨.inl ((b8 ha).mono (by decide)), .inl ((b8 hb').mono (by decide)), ?_⟩
  split
  ·refine ⟨0, 0, rfl, rfl, sz2 _ _, .int b, rfl, ?_⟩
   walk_at "rx"
   have f2 := fm (a := b) (b := 2) (by decide)
   refine ⟨by decide, iA f2.1 f2.2 fun d2 hd2 => ?_⟩
   obtain ⟨t, rfl, ht⟩ : ∃ t : Int, d2 = .int t /\ (t = 1 ∨ t = -1) := by
    simp only [zAN, zBP, or_false] at hd2
    rcases hd2 with rfl | rfl
    ·exact ⟨_, rfl, .inl rfl⟩
    ·exact ⟨_, rfl, .inr rfl⟩
   refine ⟨by rw [lr], 3, 3, rfl, rfl, 1, 1, rfl, rfl, ?_⟩
   refine h ⟨1 + (a.natAbs : Int), 0, c, t, e, f⟩ ?_ (bdl 200 (by show (1 + (a.natAbs : Int)).natAbs < 200; omega) (by decide)) (bdl 1 (by show (0 : Int).natAbs < 1; decide) (by decide)) (b8 hc) (bdl 2 (by show t.natAbs < 2; omega) (by decide)) be bf
   show (1 + (a.natAbs : Int)) * t - 0 * c ≠ 0
   rw [Int.zero_mul, Int.sub_zero]
   exact zBs (by omega) (by omega)
  ·rename_i ne
   exact h ⟨a, b, c, d, e, f⟩ (fun z => ne (Int.eq_of_sub_eq_zero z)) (b8 ha) (b8 hb') (b8 hc) (b8 hd) be bf
theorem rY {f : Addr} {fd : FuncData} (F : av K "_law_sent" "_law_sent" jk f fd) (C : COk K mg κ)   : aD P w K mg base (CX1 P w) 1 f fd ["_law_dots_here", "_law_by_map"] (aE K (ip κ)) := by
 refine av.okN F aS (fun ds Q E h => by obtain ⟨_, _, rfl, _⟩ := h; rfl) fun cdv A outer s H E hr => ⟨_, (ah (vG (dv 1) (qu (n := 6) rfl (bF (aJ 3 aS.nd) (bF (aJ 4 aS.nd) (bF (aJ 5 aS.nd) (bF (aJ 6 aS.nd) (bF (aJ 7 aS.nd) (bF (aJ 8 aS.nd) nF)))))))) (ah (gg 2 aS.nd ag) (ah (bW PassesOwn.never rfl (aX (dv 0)) (qu (n := 4) rfl (bF (aJ 9 aS.nd) (bF (aJ 10 aS.nd) (bF (aJ 11 aS.nd) (bF (aJ 12 aS.nd) nF))))) (ah (aB 13 aS.nd (ar aP (ar aP (ar aN (dv 3) (dv 9)) (ar aN (dv 4) (dv 10))) (dv 7))) (ao (dw 2 (aK (aa (dv 13) (aa (ar aP (ar aP (ar aN (dv 5) (dv 9)) (ar aN (dv 6) (dv 10))) (dv 8)) (aa (dv 11) (aa (dv 12) ag))))))))) (b9 2 (ao (aw (dv 2))))))), ?_⟩
 rintro ds Q Ed ⟨ps, m, rfl, h⟩
 have e0 : aA ["_law_dots_here", "_law_by_map", "_law_found", "_law_a", "_law_b", "_law_c", "_law_d", "_law_e", "_law_f", "_law_x", "_law_y", "_law_painted", "_law_weight", "_law_right"] [.lst false (ps.map dtD), m] = ([some (.val (.lst false (ps.map dtD))), some (.val (m)), none, none, none, none, none, none, none, none, none, none, none, none] : Ro) := rfl
 rw [e0]; clear e0
 obtain ⟨M, rfl, hl, ⟨ba, bb, bc, bd⟩, hb, h⟩ := h
 walk_at "rx"
 refine ⟨zAi _, ?_⟩
 refine PD.cK ps dtD (fun j ρ => ∃ v9 v10 v11 v12 v13 : Option Sl, ρ = [some (.val (.lst false (ps.map dtD))), some (.val (.lst false [.int M.a, .int M.b, .int M.c, .int M.d, .int M.e, .int M.f])), some (.own (((ps.take j).map M.to).map dtD)), some (.val (.int M.a)), some (.val (.int M.b)), some (.val (.int M.c)), some (.val (.int M.d)), some (.val (.int M.e)), some (.val (.int M.f)), v9, v10, v11, v12, v13]) (fun R q => ?_) ⟨none, none, none, none, none, rfl⟩ ?_ ?_
 ·walk_at "rd"
  exact q
 ·rintro j p ρ' hp ⟨v9, v10, v11, v12, v13, rfl⟩
  obtain ⟨x1, x2⟩ := hb p (zAV hp)
  have ep : dtD p = .tup [.int p.1, .int p.2.1, .int p.2.2.1, .int p.2.2.2] := rfl
  have cm : ∀ {x y : Int}, Bd 8 x -> CM x y := fun hx => .inl (hx.mono (by decide))
  obtain ⟨hj, _⟩ := zAF.mp hp
  rw [ep]
  walk_at "rx"
  refine ⟨cm ba, cm bb, cm bc, cm bd, sz4 _ _ _ _, by rw [zAA, zAA, zAc, sizeLine_eq]; omega, some (.val (.int p.1)), some (.val (.int p.2.1)), some (.val (.int p.2.2.1)), some (.val (.int p.2.2.2)), some (.val (.int (M.a * p.1 + M.b * p.2.1 + M.e))), ?_⟩
  rw [zCH, hp, Option.toList_some, zAb, zAb]
  rfl
 ·rintro ρ' ⟨v9, v10, v11, v12, v13, rfl⟩
  rw [zB4]
  walk_at "rx"
  exact h
theorem oQ {f : Addr} {fd : FuncData} (F : av K "_law_beside" "_law_beside" gm f fd) (C : COk K mg κ) (h_lines_of : Has P w K mg base "lines_of" 6 ["dots"] (eV κ)) (z_max : mg "max" = none) (z_min : mg "min" = none) (z_sorted : mg "sorted" = none) : aD P w K mg base (CX1 P w) 7 f fd ["_law_dots_here"] (aE K (fy κ)) := by
 refine av.okN F fx (fun ds Q E h => by obtain ⟨_, rfl, _⟩ := h; rfl) fun cdv A outer s H E hr => ⟨_, (ah (gg 1 fx.nd ag) (ah (bW PassesOwn.never rfl (aX (ak h_lines_of (hr.mono (by decide)) (aa (dv 0) ag))) (aJ 2 fx.nd) (ao (dw 1 (aK (aa (au (dv 2) ae) (aa (bo (Ab rfl) (by rfl) z_min boot_min (aa (au (dv 2) ae) (aa (au (dv 2) ae) ag))) (aa (bo (pS rfl) (by rfl) z_max boot_max (aa (au (dv 2) ae) (aa (au (dv 2) ae) ag))) ag))))))) (b9 1 (ao (aw ((vD (by rfl) z_sorted (dv 1))).ped))))), ?_⟩
 rintro ds Q Ed ⟨ps, rfl, h⟩
 have e0 : aA ["_law_dots_here", "_law_found", "_law_row"] [.lst false (ps.map dtD)] = ([some (.val (.lst false (ps.map dtD))), none, none] : Ro) := rfl
 rw [e0]; clear e0
 obtain ⟨hl, hG, h⟩ := h
 have ln := kH ps
 have : ps.length * ps.length <= 30 * 30 := zCI hl hl
 walk_at "rx"
 refine ⟨zAi _, ?_⟩
 show o5 _ _ _
 walk_at "rx"
 refine ⟨hl, hG, fun ys hy => ?_⟩
 have yl := j6 hy
 refine ⟨fun j ρ => ∃ v2 : Option Sl, ρ = [some (.val (.lst false (ps.map dtD))), some (.own (((ys.take j).map (dZ ps)).map trD)), v2], ⟨none, rfl⟩, ?_, ?_⟩
 ·rintro j x ρ' hx ⟨v2, rfl⟩
  rw [zAO] at hx
  obtain ⟨g, hg, rfl⟩ := zAp.mp hx
  have er : d8 ps g = .tup [trD g, .int (wl ps g (-1)), .int (wl ps g 0), .int (wl ps g 1)] := rfl
  rw [er]
  walk_at "rx"
  refine ⟨sz3 _ _ _, by rw [zAA, zAA, zAc, sizeLine_eq]; omega, some (.val (d8 ps g)), ?_⟩
  rw [zCH, hg, Option.toList_some, zAb, zAb]
  rfl
 ·rintro ρ' ⟨v2, rfl⟩
  rw [zAA, zB4]
  walk_at "rx"
  refine ⟨_, rfl, true, (ys.map (dZ ps)).map trK, by rw [pC], by rw [zAA, zAA]; omega, fun k hk => ?_, fun zs hz => ?_⟩
  ·obtain ⟨p, _, e⟩ := zAU.mp hk
   rw [<- e]
   exact List.cons_ne_nil _ _
  ·obtain ⟨p1, p2⟩ := hz
   obtain ⟨ws, rfl⟩ := qH fun z hz => by
    obtain ⟨p, _, e⟩ := zAU.mp (p1.mem_iff.mp hz)
    exact ⟨p, e.symm⟩
   rw [pC]
   exact h ws ⟨ys, hy, xZ p1⟩ (zBh.mp p2)
theorem rX {f : Addr} {fd : FuncData} (F : av K "_law_pair" "_law_pair" jj f fd) (C : COk K mg κ) (h_law_whole : Has P w K mg base "_law_whole" 1 ["_law_found"] (dU κ)) (z_isinstance : mg "isinstance" = none) (z_len : mg "len" = none) (z_tuple : mg "tuple" = none) : aD P w K mg base (CX1 P w) 2 f fd ["_law_found"] (aE K (ik κ)) := by
 refine av.okN F sq (fun ds Q E h => by obtain ⟨_, rfl, _⟩ := h; rfl) fun cdv A outer s H E hr => ⟨_, (ah (aY (aQ wF (dv 0) eY) (ao (aw lV)) aM) (ao (aw (iD (jS (by rfl) z_isinstance (by rfl) z_tuple boot_tuple (.inr (.inr (.inl rfl))) (dv 0)) (iD (eX cL (bo jP (by rfl) z_len boot_len (aa (dv 0) ag)) ae) (iD (ak h_law_whole (hr.mono (by decide)) (aa (au (dv 0) ae) ag)) (lW (ak h_law_whole (hr.mono (by decide)) (aa (au (dv 0) ae) ag))))))))), ?_⟩
 rintro ds Q Ed ⟨found, rfl, h⟩
 have e0 : aA ["_law_found"] [found] = ([some (.val (found))] : Ro) := rfl
 rw [e0]; clear e0
 obtain ⟨o, rfl, h⟩ := h
 cases o with
 | none =>
  unfold prO
  walk_at "rx"
  exact h
 | some ij =>
  unfold prO prD
  walk_at "rx"
  rw [if_pos (by rfl)]
  exact h
theorem AK {f : Addr} {fd : FuncData} (F : av K "law" "law" fO f fd) (C : COk K mg κ) (h_law_beside : Has P w K mg base "_law_beside" 7 ["_law_dots_here"] (fy κ)) (h_law_cell_at : Has P w K mg base "_law_cell_at" 1 ["_law_script", "_law_k"] (cT κ)) (h_law_dots : Has P w K mg base "_law_dots" 2 ["_law_first", "_law_cells", "_law_most"] (ig κ)) (h_law_map : Has P w K mg base "_law_map" 2 ["_law_script"] (jy κ)) (h_law_pair : Has P w K mg base "_law_pair" 2 ["_law_found"] (ik κ)) (h_law_sent : Has P w K mg base "_law_sent" 1 ["_law_dots_here", "_law_by_map"] (ip κ)) (h_law_whole : Has P w K mg base "_law_whole" 1 ["_law_found"] (dU κ)) (h_fair_pair : Has P w K mg base "fair_pair" 6 ["dots", "one", "other"] (gz κ)) (h_halvers : Has P w K mg base "halvers" 7 ["dots"] (jx κ)) (h_quartered : Has P w K mg base "quartered" 6 ["dots"] (gE κ))  : aD P w K mg base (CX1 P w) 8 f fd ["_law_script"] (aE K mR) := by
 refine av.okN F dQ (fun ds Q E h => by obtain ⟨ns, rfl, _⟩ := h; rfl) fun cdv A outer s H E hr => ⟨_, (ah (aB 1 dQ.nd (ak h_law_cell_at (hr.mono (by decide)) (aa (dv 0) (aa ae ag)))) (ah (aB 2 dQ.nd (ak h_law_dots (hr.mono (by decide)) (aa (dv 1) (aa ((qb (dv 0) (nr ae) (nr ae))).ped (aa (au (dG (aa ae (aa ae (aa ae (aa ae (aa ae (aa ae (aa ae (aa ae ag))))))))) (ar aH (ar bX (dv 1) ae) ae)) ag))))) (ah (aB 3 dQ.nd (ak h_law_sent (hr.mono (by decide)) (aa (dv 2) (aa (ak h_law_map (hr.mono (by decide)) (aa (dv 0) ag)) ag)))) (ah (aB 4 dQ.nd (ar aH (dv 1) ae)) (ah (aB 5 dQ.nd (ar aH (ar bX (dv 1) ae) ae)) (ah (aB 6 dQ.nd (ak h_fair_pair (hr.mono (by decide)) (aa (dv 2) (aa (dv 4) (aa (dv 5) ag))))) (ah (aY (o7 (l8 (cJ (ak h_law_pair (hr.mono (by decide)) (aa (dv 6) ag)))) (mf (aQ (o9 (by exact hr.units)) (ak h_fair_pair (hr.mono (by decide)) (aa (dv 3) (aa (dv 4) (aa (dv 5) ag)))) (dv 6)))).pt (ao (aw lV)) aM) (ah (aB 7 dQ.nd (ak h_quartered (hr.mono (by decide)) (aa (dv 2) ag))) (ah (aY (aQ (o9 (by exact hr.units)) (ak h_quartered (hr.mono (by decide)) (aa (dv 3) ag)) (dv 7)) (ao (aw lV)) aM) (ah (aY (Al (aQ zt (dv 7) eY) (yZ (o7 (l8 (cJ (ak h_law_pair (hr.mono (by decide)) (aa (au (dv 7) ae) ag)))) (mf (l8 (cJ (ak h_law_pair (hr.mono (by decide)) (aa (au (dv 7) ae) ag)))))).pt)).pt (ao (aw lV)) aM) (ah (aB 8 dQ.nd (ak h_halvers (hr.mono (by decide)) (aa (dv 2) ag))) (ah (aY (o7 (l8 (cJ (ak h_law_whole (hr.mono (by decide)) (aa (dv 8) ag)))) (mf (aQ (o9 (by exact hr.units)) (ak h_halvers (hr.mono (by decide)) (aa (dv 3) ag)) (dv 8)))).pt (ao (aw lV)) aM) (ao (aw (eX (yD (by exact hr.units)) (ak h_law_beside (hr.mono (by decide)) (aa (dv 3) ag)) (ak h_law_beside (hr.mono (by decide)) (aa (dv 2) ag))))))))))))))))), ?_⟩
 rintro ds Q Ed ⟨ns, rfl, hl, h⟩
 have e0 : aA ["_law_script", "_law_first", "_law_dots_here", "_law_there", "_law_one", "_law_other", "_law_found", "_law_both", "_law_many"] [.lst false (ns.map D.int)] = ([some (.val (.lst false (ns.map D.int))), none, none, none, none, none, none, none, none] : Ro) := rfl
 rw [e0]; clear e0
 have okT : ∀ (b : Bool) (zs : List Tr), okD (.lst b (zs.map trD)) := fun b zs => (OkN.map AJ).ok
 refine bu (fun ρ => ∃ v : Int, ρ = [some (.val (.lst false (ns.map D.int))), some (.val (.int v)), none, none, none, none, none, none, none]) ?_ fun K hK => ?_
 ·rintro ρ' ⟨v, rfl⟩
  refine bu (fun ρ => ∃ ps : List Dt, ps.length <= 30 /\ (∀ p ∈ ps, GD p /\ Bd 40 p.1 /\ Bd 40 p.2.1) /\ Pos ps /\ ρ = [some (.val (.lst false (ns.map D.int))), some (.val (.int v)), some (.val (.lst true (ps.map dtD))), none, none, none, none, none, none]) ?_ fun K hK => ?_
  ·rintro ρ' ⟨ps, pl, hB, hP, rfl⟩
   have hG : ∀ p ∈ ps, GD p := fun p hp => (hB p hp).1
   refine bu (fun ρ => ∃ M : Mp, M.det ≠ 0 /\ (∀ p ∈ ps.map M.to, GD p) /\ ρ = [some (.val (.lst false (ns.map D.int))), some (.val (.int v)), some (.val (.lst true (ps.map dtD))), some (.val (.lst true ((ps.map M.to).map dtD))), none, none, none, none, none]) ?_ fun K hK => ?_
   ·rintro ρ' ⟨M, hd, hG', rfl⟩
    have pl' : (ps.map M.to).length <= 30 := by rw [zAA]; exact pl
    have hP' : Pos (ps.map M.to) := fun p hp => by
     obtain ⟨q, hq, rfl⟩ := zAU.mp hp
     exact hP q hq
    refine bu (fun ρ => ∃ a : Int, ρ = [some (.val (.lst false (ns.map D.int))), some (.val (.int v)), some (.val (.lst true (ps.map dtD))), some (.val (.lst true ((ps.map M.to).map dtD))), some (.val (.int a)), none, none, none, none]) ?_ fun K hK => ?_
    ·rintro ρ' ⟨a, rfl⟩
     refine bu (fun ρ => ∃ b : Int, ρ = [some (.val (.lst false (ns.map D.int))), some (.val (.int v)), some (.val (.lst true (ps.map dtD))), some (.val (.lst true ((ps.map M.to).map dtD))), some (.val (.int a)), some (.val (.int b)), none, none, none]) ?_ fun K hK => ?_
     ·rintro ρ' ⟨b, rfl⟩
      refine bu (fun ρ => ρ = [some (.val (.lst false (ns.map D.int))), some (.val (.int v)), some (.val (.lst true (ps.map dtD))), some (.val (.lst true ((ps.map M.to).map dtD))), some (.val (.int a)), some (.val (.int b)), some (.val (prO (fpO a b ps))), none, none]) ?_ fun K hK => ?_
      ·rintro ρ' rfl
       refine bu (fun ρ => ρ = [some (.val (.lst false (ns.map D.int))), some (.val (.int v)), some (.val (.lst true (ps.map dtD))), some (.val (.lst true ((ps.map M.to).map dtD))), some (.val (.int a)), some (.val (.int b)), some (.val (prO (fpO a b ps))), none, none]) ?_ fun K hK => ?_
       ·rintro ρ' rfl
        refine bu (fun ρ => ρ = [some (.val (.lst false (ns.map D.int))), some (.val (.int v)), some (.val (.lst true (ps.map dtD))), some (.val (.lst true ((ps.map M.to).map dtD))), some (.val (.int a)), some (.val (.int b)), some (.val (prO (fpO a b ps))), some (.val (dh ps)), none]) ?_ fun K hK => ?_
        ·rintro ρ' rfl
         refine bu (fun ρ => ρ = [some (.val (.lst false (ns.map D.int))), some (.val (.int v)), some (.val (.lst true (ps.map dtD))), some (.val (.lst true ((ps.map M.to).map dtD))), some (.val (.int a)), some (.val (.int b)), some (.val (prO (fpO a b ps))), some (.val (dh ps)), none]) ?_ fun K hK => ?_
         ·rintro ρ' rfl
          refine bu (fun ρ => ρ = [some (.val (.lst false (ns.map D.int))), some (.val (.int v)), some (.val (.lst true (ps.map dtD))), some (.val (.lst true ((ps.map M.to).map dtD))), some (.val (.int a)), some (.val (.int b)), some (.val (prO (fpO a b ps))), some (.val (dh ps)), none]) ?_ fun K hK => ?_
          ·rintro ρ' rfl
           refine bu (fun ρ => ∃ n : Nat, (∃ ys, bJ ys (cb ps) /\ n = (ys.filter (evB ps)).length) /\ ρ = [some (.val (.lst false (ns.map D.int))), some (.val (.int v)), some (.val (.lst true (ps.map dtD))), some (.val (.lst true ((ps.map M.to).map dtD))), some (.val (.int a)), some (.val (.int b)), some (.val (prO (fpO a b ps))), some (.val (dh ps)), some (.val (.int (n : Int)))]) ?_ fun K hK => ?_
           ·rintro ρ' ⟨n, ⟨ys, hy, hn⟩, rfl⟩
            refine bu (fun ρ => ρ = [some (.val (.lst false (ns.map D.int))), some (.val (.int v)), some (.val (.lst true (ps.map dtD))), some (.val (.lst true ((ps.map M.to).map dtD))), some (.val (.int a)), some (.val (.int b)), some (.val (prO (fpO a b ps))), some (.val (dh ps)), some (.val (.int (n : Int)))]) ?_ fun K hK => ?_
            ·rintro ρ' rfl
             walk_at "rx"
             refine ⟨pl', hG', fun zs ⟨ys', hy', pz⟩ uz => ⟨pl, hG, fun ws ⟨xs, hx, pw⟩ uw => ?_⟩⟩
             have e : zs = ws := wZ ((pz.trans (wx hd hG hG' hx hy').symm).trans pw.symm) uz uw
             subst e
             refine ⟨okT _ _, okT _ _, ?_⟩
             rw [i5]
             exact h
            ·walk_at "rx"
             refine ⟨pl', hG', fun ys' hy' => ?_⟩
             rw [if_pos (by rw [hn, An hd hG hG' hy hy'])]
             exact hK _ rfl
           ·walk_at "rx"
            exact ⟨pl, hG, fun ys hy => hK _ ⟨_, ⟨ys, hy, rfl⟩, rfl⟩⟩
          ·walk_at "rx"
           rcases jd hP with ⟨_, _, qe⟩ | ⟨ij, _, _, _, qe⟩
           ·rw [qe]
            rw [if_neg (by decide)]
            have := hK _ rfl
            rw [qe] at this
            exact this
           ·have k := hK _ rfl
            rw [qe] at k ⊢
            rw [if_pos (by rfl)]
            walk_at "rx"
            exact ⟨some ij, gI ij, fX ps ij, rfl, k⟩
         ·walk_at "rx"
          refine ⟨by omega, hG', hP', ?_⟩
          rw [zK hd]
          refine ⟨wM hP, wM hP, ?_⟩
          rw [if_neg (by rw [i5]; simp)]
          exact hK _ rfl
        ·walk_at "rx"
         exact ⟨by omega, hG, hP, hK _ rfl⟩
       ·walk_at "rx"
        refine ⟨_, rfl, by omega, hG', ?_⟩
        rw [Ao hd]
        refine ⟨(okP _).ok, (okP _).ok, ?_⟩
        rw [if_neg (by rw [i5]; simp)]
        exact hK _ rfl
      ·walk_at "rx"
       exact ⟨by omega, hG, hK _ rfl⟩
     ·walk_at "rx"
      exact ⟨CD.lit, by decide, hK _ ⟨_, rfl⟩⟩
    ·walk_at "rx"
     exact ⟨by decide, hK _ ⟨_, rfl⟩⟩
   ·walk_at "rx"
    refine ⟨hl, fun M hd ba bb bc bd be bf => ?_⟩
    refine ⟨M, rfl, pl, ⟨ba, bb, bc, bd⟩, fun p hp => (hB p hp).2, hK _ ⟨M, hd, fun q hq => ?_, rfl⟩⟩
    obtain ⟨p, hp, rfl⟩ := zAU.mp hq
    obtain ⟨g, x1, x2⟩ := hB p hp
    refine ⟨?_, ?_, g.c0, g.c2⟩
    ·show Bd 60 (M.a * p.1 + M.b * p.2.1 + M.e)
     exact Bd.mono (m := 50) (((ba.mul x1).add (bb.mul x2)).add (be.mono (by decide))) (by decide)
    ·show Bd 60 (M.c * p.1 + M.d * p.2.1 + M.f)
     exact Bd.mono (m := 50) (((bc.mul x1).add (bd.mul x2)).add (bf.mono (by decide))) (by decide)
  ·walk_at "rx"
   have f8 := fm (a := v.fdiv 3240) (b := 8) (by decide)
   refine ⟨by rw [sizeLine_eq]; show 8 <= _; omega, CD.lit, by decide, iA f8.1 f8.2 fun d hd => ?_⟩
   obtain ⟨m, rfl, m0, m1⟩ : ∃ m : Int, d = .int m /\ 0 <= m /\ m <= 30 := by
    simp only [zAN, zBP, or_false] at hd
    rcases hd with rfl | rfl | rfl | rfl | rfl | rfl | rfl | rfl <;> exact ⟨_, rfl, by decide, by decide⟩
   rw [bN, sG, iy, eL]
   refine ⟨?_, m0, m1, fun ps pl hB hP => hK _ ⟨ps, pl, hB, hP, rfl⟩⟩
   unfold m8
   rw [zAc, zAo]
   omega
 ·walk_at "rx"
  exact ⟨by decide, hl, fun v => hK _ ⟨v, rfl⟩⟩
end
theorem all_mk {l : PySem.W.OpenLaw} {w : World} {K : PySem.W.Frag} {h : Heap} {mg : Str -> Option Value} {fa f6 f7 f42 c_PlaneError c_NoLine : Addr} (X : K.In h) (G : h.Ns mainGlobals mg) (hfa : mg "law" = some (.ref fa))
  {od6 an6 : Option Addr} {sl6 : Array (Option Value)} {oc6 kV6 dc6 pm6 cd6 ct6 : Value}
  {dt6 : Addr} {tc6 : Value} {td6 : Option Addr} {tn6 : Nat} {ts6 : Array (Option Value)}
  {od7 an7 : Option Addr} {sl7 : Array (Option Value)} {oc7 kV7 dc7 pm7 cd7 ct7 : Value}
  {dt7 : Addr} {tc7 : Value} {td7 : Option Addr} {tn7 : Nat} {ts7 : Array (Option Value)}
  {od42 an42 : Option Addr} {sl42 : Array (Option Value)} {oc42 kV42 dc42 pm42 cd42 ct42 : Value}
  (e0 : FL K "sign" rf)
  (e1 : FL K "value" nP)
  (e2 : FL K "side" q9)
  (e3 : FL K "place_of" jr)
  (e4 : FL K "spot_of" kf)
  (e5 : FL K "of_colour" eT)
  (a6 : PySem.W.nsIn K mainGlobals "total" = some (some (.ref f6))) (l6 : K.lookup f6 = some ⟨oc6, od6, .func (PySem.W.fnOf "total" "total" (bV eE) (bC eE) (ai eE) (.ref dt6) kV6 dc6 pm6 an6 cd6 ct6), sl6⟩) (c6 : PySem.W.codeIn K cd6 "total" = true) (k6 : PySem.W.keepIn K (.ref f6) = true)
  (t6 : K.lookup dt6 = some ⟨tc6, td6, .seq #[.none] tn6, ts6⟩)
  (a7 : PySem.W.nsIn K mainGlobals "weighed" = some (some (.ref f7))) (l7 : K.lookup f7 = some ⟨oc7, od7, .func (PySem.W.fnOf "weighed" "weighed" (bV dD) (bC dD) (ai dD) (.ref dt7) kV7 dc7 pm7 an7 cd7 ct7), sl7⟩) (c7 : PySem.W.codeIn K cd7 "weighed" = true) (k7 : PySem.W.keepIn K (.ref f7) = true)
  (t7 : K.lookup dt7 = some ⟨tc7, td7, .seq #[.none] tn7, ts7⟩)
  (e8 : FL K "common_divisor" dj)
  (e9 : FL K "reduced" kc)
  (e10 : FL K "is_level" jh)
  (e11 : FL K "crossed" j9)
  (e12 : FL K "picks" kL)
  (e13 : FL K "line" nN)
  (e14 : FL K "line" nO)
  (e15 : FL K "on_two_spots" d9)
  (e16 : FL K "spot_pairs" cN)
  (e17 : FL K "pair_line" gq)
  (e18 : FL K "pair_line" gr)
  (e19 : FL K "split_by" fP)
  (e20 : FL K "pair_lines" dP)
  (e21 : FL K "lines_of" jq)
  (e22 : FL K "is_even" ka)
  (e23 : FL K "halvers" gO)
  (e24 : FL K "is_fair" je)
  (e25 : FL K "is_fair" jg)
  (e26 : FL K "first_fair" da)
  (e27 : FL K "first_fair" de)
  (e28 : FL K "has_colours" fu)
  (e29 : FL K "fair_pair" eS)
  (e30 : FL K "quarters" jt)
  (e31 : FL K "first_quartering" cM)
  (e32 : FL K "quartered" ib)
  (e33 : FL K "_law_whole" h9)
  (e34 : FL K "_law_cell_at" fv)
  (e35 : FL K "_law_stream" gn)
  (e36 : FL K "_law_spot" jo)
  (e37 : FL K "_law_dots" ji)
  (e38 : FL K "_law_map" kb)
  (e39 : FL K "_law_sent" jk)
  (e40 : FL K "_law_beside" gm)
  (e41 : FL K "_law_pair" jj)
  (a42 : PySem.W.nsIn K mainGlobals "law" = some (some (.ref f42))) (l42 : K.lookup f42 = some ⟨oc42, od42, .func (PySem.W.fnOf "law" "law" (bV fO) (bC fO) (ai fO) .none kV42 dc42 pm42 an42 cd42 ct42), sl42⟩) (c42 : PySem.W.codeIn K cd42 "law" = true) (k42 : PySem.W.keepIn K (.ref f42) = true)
  (mg_PlaneError : PySem.W.nsIn K mainGlobals "PlaneError" = some (some (.ref c_PlaneError)))
  (mg_NoLine : PySem.W.nsIn K mainGlobals "NoLine" = some (some (.ref c_NoLine)))
  (z_abs : PySem.W.nsIn K mainGlobals "abs" = some none) (z_all : PySem.W.nsIn K mainGlobals "all" = some none) (z_bool : PySem.W.nsIn K mainGlobals "bool" = some none) (z_int : PySem.W.nsIn K mainGlobals "int" = some none) (z_isinstance : PySem.W.nsIn K mainGlobals "isinstance" = some none) (z_len : PySem.W.nsIn K mainGlobals "len" = some none) (z_list : PySem.W.nsIn K mainGlobals "list" = some none) (z_max : PySem.W.nsIn K mainGlobals "max" = some none) (z_min : PySem.W.nsIn K mainGlobals "min" = some none) (z_range : PySem.W.nsIn K mainGlobals "range" = some none) (z_set : PySem.W.nsIn K mainGlobals "set" = some none) (z_sorted : PySem.W.nsIn K mainGlobals "sorted" = some none) (z_sum : PySem.W.nsIn K mainGlobals "sum" = some none) (z_tuple : PySem.W.nsIn K mainGlobals "tuple" = some none) :
  ∃ fd : FuncData, (∀ (s : Shared) (v : Value), BindsTo s fd ⟨[v], []⟩ [("_law_script", v)]) /\ ∀ base : Heap, K.In base -> base.Ns mainGlobals mg -> aD l.prog w K mg base (CX1 l.prog w) 8 fa fd ["_law_script"] (aE K mR) := by
 have e := hfa.symm.trans (PySem.W.mg_of X G a42)
 cases e
 have z_abs := PySem.W.mg_none_of X G z_abs
 have z_all := PySem.W.mg_none_of X G z_all
 have z_bool := PySem.W.mg_none_of X G z_bool
 have z_int := PySem.W.mg_none_of X G z_int
 have z_isinstance := PySem.W.mg_none_of X G z_isinstance
 have z_len := PySem.W.mg_none_of X G z_len
 have z_list := PySem.W.mg_none_of X G z_list
 have z_max := PySem.W.mg_none_of X G z_max
 have z_min := PySem.W.mg_none_of X G z_min
 have z_range := PySem.W.mg_none_of X G z_range
 have z_set := PySem.W.mg_none_of X G z_set
 have z_sorted := PySem.W.mg_none_of X G z_sorted
 have z_sum := PySem.W.mg_none_of X G z_sum
 have z_tuple := PySem.W.mg_none_of X G z_tuple
 have C : COk K mg ⟨c_PlaneError, c_NoLine⟩ := ⟨PySem.W.mg_of X G mg_PlaneError, PySem.W.mg_of X G mg_NoLine⟩
 refine ⟨PySem.W.fnOf "law" "law" (bV fO) (bC fO) (ai fO) .none kV42 dc42 pm42 an42 cd42 ct42, fun s v => .of_eq rfl, fun base _ _ => ?_⟩
 have h_sign := e0.has l.prog w base X G fun F => zA F C
 have h_value := e1.has l.prog w base X G fun F => xW F C
 have h_side := e2.has l.prog w base X G fun F => zw F C h_sign h_value
 have h_place_of := e3.has l.prog w base X G fun F => sd F C
 have h_spot_of := e4.has l.prog w base X G fun F => uW F C
 have h_of_colour := e5.has l.prog w base X G fun F => qM F C
 have F6 := kD (st := eE) l6 c6 k6
 have h_total : fi l.prog w K mg base "total" 2 ["dots", "colour"] "colour" (du _) := ⟨_, _, xV F6 C h_of_colour z_sum, PySem.W.mg_of X G a6, k6, lQ fun s us kin hl => (match us, hl with | [_, _], _ => .of_defaults rfl (kin _ _ t6) rfl rfl rfl), lO 1 rfl fun s us kin hl => (match us, hl with | [_], _ => .of_defaults rfl (kin _ _ t6) rfl rfl rfl), mB 1 rfl fun s us w kin hl => (match us, hl with | [_], _ => .of_defaults rfl (kin _ _ t6) rfl rfl rfl)⟩
 have F7 := kD (st := dD) l7 c7 k7
 have h_weighed : fi l.prog w K mg base "weighed" 3 ["dots", "gauge", "colour"] "colour" (cf _) := ⟨_, _, uX F7 C h_of_colour h_place_of h_side h_spot_of, PySem.W.mg_of X G a7, k7, lQ fun s us kin hl => (match us, hl with | [_, _, _], _ => .of_defaults rfl (kin _ _ t7) rfl rfl rfl), lO 2 rfl fun s us kin hl => (match us, hl with | [_, _], _ => .of_defaults rfl (kin _ _ t7) rfl rfl rfl), mB 2 rfl fun s us w kin hl => (match us, hl with | [_, _], _ => .of_defaults rfl (kin _ _ t7) rfl rfl rfl)⟩
 have h_common_divisor := e8.has l.prog w base X G fun F => kQ F C z_abs
 have h_reduced := e9.has l.prog w base X G fun F => uV F C h_common_divisor
 have h_is_level := e10.has l.prog w base X G fun F => rV F C
 have h_crossed := e11.has l.prog w base X G fun F => uR F C
 have h_picks := e12.has l.prog w base X G fun F => xU F C z_range
 have h_lineO := e13.has l.prog w base X G fun F => xS F C h_crossed h_is_level h_reduced
 have h_lineX := e14.has l.prog w base X G fun F => xT F C h_crossed h_is_level h_reduced
 have h_on_two_spots := e15.has l.prog w base X G fun F => mH F C h_spot_of
 have h_spot_pairs := e16.has l.prog w base X G fun F => oW F C h_on_two_spots h_picks z_len
 have h_pair_lineO := e17.has l.prog w base X G fun F => oS F C h_lineO h_place_of h_spot_of
 have h_pair_lineX := e18.has l.prog w base X G fun F => oU F C h_lineX h_place_of h_spot_of
 have h_split_by := e19.has l.prog w base X G fun F => sj F C h_weighed z_set z_sorted
 have h_pair_lines := e20.has l.prog w base X G fun F => oV F C h_pair_lineX h_spot_pairs
 have h_lines_of := e21.has l.prog w base X G fun F => r9 F C h_pair_lines h_split_by
 have h_is_even := e22.has l.prog w base X G fun F => uT F C z_max
 have h_halvers := e23.has l.prog w base X G fun F => uS F C h_is_even h_lines_of h_total z_len
 have h_is_fairI := e24.has l.prog w base X G fun F => rS F C h_is_even h_total h_weighed
 have h_is_fairN := e25.has l.prog w base X G fun F => rT F C h_is_even h_total h_weighed
 have h_first_fairI := e26.has l.prog w base X G fun F => nI F C h_is_fairI h_pair_lineO z_all
 have h_first_fairN := e27.has l.prog w base X G fun F => nJ F C h_is_fairN h_pair_lineO z_all
 have h_has_colours := e28.has l.prog w base X G fun F => nK F C
 have h_fair_pair := e29.has l.prog w base X G fun F => qK F C h_first_fairI h_has_colours h_spot_pairs
 have h_quarters := e30.has l.prog w base X G fun F => si F C h_place_of h_side h_spot_of z_list
 have h_first_quartering := e31.has l.prog w base X G fun F => jL F C h_pair_lineO h_quarters h_total z_max
 have h_quartered := e32.has l.prog w base X G fun F => qN F C h_first_fairN h_first_quartering h_pair_lineO h_spot_pairs z_len
 have h_law_whole := e33.has l.prog w base X G fun F => qL F C z_bool z_int z_isinstance
 have h_law_cell_at := e34.has l.prog w base X G fun F => nL F C z_len
 have h_law_stream := e35.has l.prog w base X G fun F => oR F C z_range
 have h_law_spot := e36.has l.prog w base X G fun F => rZ F C
 have h_law_dots := e37.has l.prog w base X G fun F => rW F C h_law_spot h_law_stream
 have h_law_map := e38.has l.prog w base X G fun F => uU F C h_law_cell_at h_law_stream z_abs z_range
 have h_law_sent := e39.has l.prog w base X G fun F => rY F C
 have h_law_beside := e40.has l.prog w base X G fun F => oQ F C h_lines_of z_max z_min z_sorted
 have h_law_pair := e41.has l.prog w base X G fun F => rX F C h_law_whole z_isinstance z_len z_tuple
 exact AK (kD (st := fO) l42 c42 k42) C h_law_beside h_law_cell_at h_law_dots h_law_map h_law_pair h_law_sent h_law_whole h_fair_pair h_halvers h_quartered
end LW
theorem PySem.W.Fast.te11861485160809182486 : True := trivial
def PySem.W.Fast.tw8646300292988163584 : PySem.Program := PySem.Challenge.pw_halvecut_k24_whole_fair_lines_sent
theorem PySem.W.Fast.te8646300292988163584 : PySem.Challenge.pw_halvecut_k24_whole_fair_lines_sent = PySem.W.Fast.tw8646300292988163584 := rfl
def PySem.W.Fast.tw13322353982872757006 : Unit := ()
def PySem.W.Fast.tw13245079556009511218 : Unit := ()
def PySem.W.Fast.tw16445974635792440585 : Unit := ()
def PySem.W.Fast.tw11856992746739294139 : Unit := ()
def PySem.W.Fast.tw7276961673992703336 : Unit := ()
def PySem.W.Fast.tw1560796367059970357 : Unit := ()
def PySem.W.Fast.tw4571310379343588060 : Unit := ()
namespace PySem.W.Fast
def tw12126608485567190283:=()
def tw4773528321055484790:=()
def tw8633843648583035798:=()
def tw6741723340236596010:=()
def tw13138846102577713477:=()
def tw5295998212656018338:=()
def tw5849554298886404816:=()
def tw8470078766775576990:=()
def tw424147410659351032:=()
def tw4661980716171439912:=()
def tw11117908158176059915:=()
def tw13441120177033993329:=()
def tw9884746120511172011:=()
def tw15721963852051310517:=()
def tw15396972457033341336:=()
def tw6646841724525509976:=()
def tw673818133317487936:=()
def tw15045531241159317941:=()
def tw13106974317105450480:=()
def tw7946443352673824400:=()
def tw9494139027614198309:=()
def tw7270692122611827538:=()
def tw224739079845195322:=()
def tw3678103311255126922:=()
def tw232621472559888866:=()
def tw4205034007158847800:=()
def tw6940273658096753836:=()
def tw14250997681964589297:=()
def tw12873101686222800600:=()
def tw6979074209339051825:=()
def tw12261449617025259639:=()
def tw12552571174575380577:=()
def tw15345248816154998659:=()
def tw6484359912837845027:=()
def tw11539184985390428375:=()
def tw15024648339883270740:=()
def tw14899695551440758127:=()
def tw13620169619970062377:=()
def tw14775366634107822901:=()
def tw10263733147553059289:=()
def tw8792576727651846265:=()
def tw13163637402055897048:=()
def tw11050316526467709563:=()
def tw15995763556119562212:=()
def tw12261115025014196998:=()
def tw13376835263595960084:=()
def tw18036826607045140421:=()
def tw13825301510946826136:=()
def tw16166046855184821048:=()
def tw987481297112592974:=()
def tw3053498758282714:=()
def tw12907742190419979553:=()
def tw15407618485563830495:=()
def tw17531492691506814173:=()
def tw14216254128079904742:=()
def tw1977103459046434437:=()
def tw11734939530121968319:=()
def tw11070375400897899976:=()
def tw13718243530612324525:=()
def tw11373940238165874480:=()
def tw1768400923076331690:=()
def tw3573075082312471641:=()
def tw17138416521183048902:=()
def tw16332809192449063497:=()
def tw11345912324938220669:=()
def tw15497654946368380590:=()
def tw7248817099815654583:=()
def tw8372547428597082818:=()
def tw15265664172524684458:=()
def tw2960821384220227747:=()
def tw6737667126058605739:=()
def tw8031020818121615640:=()
def tw3724418281166153002:=()
def tw14235519650513720148:=()
def tw959902126978656540:=()
def tw6053848147144921598:=()
def tw11728146737783589803:=()
def tw13426177081527871950:=()
def tw2853454039347673345:=()
def tw3708143327450193610:=()
def tw10673248962114618712:=()
def tw2300464126251288131:=()
def tw14882949316692680310:=()
def tw11715190035079655284:=()
def tw4331751196524518350:=()
def tw11675199892393415722:=()
def tw8053969647298685557:=()
def tw1532617130284601594:=()
def tw15256332747540353105:=()
def tw3834408562076965617:=()
def tw13163287091009468121:=()
def tw2257386551352704651:=()
def tw2003257065999994894:=()
def tw13229697329035222559:=()
def tw16523811160954031358:=()
def tw17843274564874474293:=()
def tw10605613935966530834:=()
def tw8788366461373504156:=()
def tw6402090189050710450:=()
def tw18114501289982718281:=()
def tw17034127214771331675:=()
def tw16348472969764818211:=()
def tw9800763109402117331:=()
def tw4327075379027849212:=()
def tw4099264548205269371:=()
def tw17172744857793057044:=()
def tw10907563308373316372:=()
def tw9340056704001881373:=()
def tw4970236969778912594:=()
def tw5262877094873269464:=()
def tw743233062026348875:=()
def tw11918277546480607531:=()
def tw16908270922377789027:=()
def tw16587870706167114662:=()
def tw686505892586813666:=()
def tw4958215490728653808:=()
end PySem.W.Fast
open PySem PySem.W PyProof.Rows
set_option maxRecDepth 100000 in
set_option maxHeartbeats 0 in
theorem PySem.Challenge.cw_halvecut_k24_whole_fair_lines_sent_holds : PySem.Challenge.rw_halvecut_k24_whole_fair_lines_sent.Holds := by
 w_on; o_law; k_head; (case hw => w_witness2)
 k_fill
 refine PD.walk (l := PySem.Challenge.rw_halvecut_k24_whole_fair_lines_sent) (k := 8) (x := "_law_script") rfl rfl ⟨rfl, by decide, by decide⟩ (fun w h Y => PySem.W.kIn_of Y) (fun w => by kernel_rfl) ?F
 case F =>
  intro w mg fa h KX G hmg
  refine' LW.all_mk KX G hmg ?e0 ?e1 ?e2 ?e3 ?e4 ?e5 ?a6 ?l6 ?c6 ?k6 ?t6 ?a7 ?l7 ?c7 ?k7 ?t7 ?e8 ?e9 ?e10 ?e11 ?e12 ?e13 ?e14 ?e15 ?e16 ?e17 ?e18 ?e19 ?e20 ?e21 ?e22 ?e23 ?e24 ?e25 ?e26 ?e27 ?e28 ?e29 ?e30 ?e31 ?e32 ?e33 ?e34 ?e35 ?e36 ?e37 ?e38 ?e39 ?e40 ?e41 ?a42 ?l42 ?c42 ?k42 ?mg_PlaneError ?mg_NoLine ?z_abs ?z_all ?z_bool ?z_int ?z_isinstance ?z_len ?z_list ?z_max ?z_min ?z_range ?z_set ?z_sorted ?z_sum ?z_tuple
  all_goals try (refine' PD.FL.mk ?a ?l ?c ?k; (case a => k_is); (case l => k_is); (case c => k_is); (case k => k_is))
  (case a6 => k_is)
  (case l6 => k_is)
  (case c6 => k_is)
  (case k6 => k_is)
  (case t6 => k_is)
  (case a7 => k_is)
  (case l7 => k_is)
  (case c7 => k_is)
  (case k7 => k_is)
  (case t7 => k_is)
  (case a42 => k_is)
  (case l42 => k_is)
  (case c42 => k_is)
  (case k42 => k_is)
  (case mg_PlaneError => k_is)
  (case mg_NoLine => k_is)
  (case z_abs => k_is)
  (case z_all => k_is)
  (case z_bool => k_is)
  (case z_int => k_is)
  (case z_isinstance => k_is)
  (case z_len => k_is)
  (case z_list => k_is)
  (case z_max => k_is)
  (case z_min => k_is)
  (case z_range => k_is)
  (case z_set => k_is)
  (case z_sorted => k_is)
  (case z_sum => k_is)
  (case z_tuple => k_is)
