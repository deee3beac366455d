import PyProof.Rows.All
import Wide.All
import OpenK.AllK
import Wide.FinOn
import Lean
import PyProof.EqAt
import PyProof.EqKinds
import PyProof.TupleCall
import PySem.Challenge.RW_halvecut_k41_hulls_about_a_place
set_option compiler.extract_closed false
set_option bootstrap.genMatcherCode false
set_option Elab.async false
set_option linter.all false
set_option maxRecDepth 100000
abbrev zAA:=@List.length_map
abbrev zAB:=@List.getElem?_eq_getElem
abbrev zAC:=@List.mem_cons
abbrev zAD:=@List.mem_cons_of_mem
abbrev zAE:=@List.getElem?_eq_some_iff
abbrev zAF:=@PySem.Heap.get?_push_of_some
abbrev zAG:=@List.getD_eq_getElem?_getD
abbrev zAH:=@List.getElem?_map
abbrev zAI:=@List.mem_append
abbrev zAJ:=@PySem.Heap.lt_size
abbrev zAK:=@List.map_cons
abbrev zAL:=@List.cons.injEq
abbrev zAM:=@Nat.le_refl
abbrev zAN:=@List.getElem?_set_ne
abbrev zAO:=@List.length_append
abbrev zAP:=@List.mem_singleton
abbrev zAQ:=@List.mem_map
abbrev zAR:=@List.mem_append_right
abbrev zAS:=@List.not_mem_nil
abbrev zAT:=@List.mem_of_getElem?
abbrev zAU:=@PySem.Heap.get?_push_size
abbrev zAV:=@List.getElem?_set_self
abbrev zAW:=@Nat.lt_of_lt_of_le
abbrev zAX:=@List.size_toArray
abbrev zAY:=@List.mem_cons_self
abbrev zAZ:=@Array.length_toList
abbrev zAa:=@Bool.false_eq_true
abbrev zAb:=@List.length_cons
abbrev zAc:=@Int.mul_nonneg
abbrev zAd:=@Int.le_of_lt
abbrev zAe:=@List.cons_append
abbrev zAf:=@List.getElem?_append_right
abbrev zAg:=@Nat.mod_eq_of_lt
abbrev zAh:=@Bool.false_ne_true
abbrev zAi:=@Option.some.inj
abbrev zAj:=@List.length_range'
abbrev zAk:=@Nat.zero_le
abbrev zAl:=@Array.getElem?_toList
abbrev zAm:=@Array.getElem?_eq_getElem
abbrev zAn:=@Int.mul_comm
abbrev zAo:=@List.map_map
abbrev zAp:=@List.pairwise_cons
abbrev zAq:=@List.getElem?_append_left
abbrev zAr:=@Nat.ne_of_lt
abbrev zAs:=@List.getElem?_eq_none
abbrev zAt:=@Int.mul_neg_of_neg_of_pos
abbrev zAu:=@List.mem_append_left
abbrev zAv:=@List.nil_append
abbrev zAw:=@Nat.le_trans
abbrev zAx:=@Nat.lt_succ_self
abbrev zAy:=@List.pairwise_iff_getElem
abbrev zAz:=@List.getElem_map
abbrev zA0:=@List.map_append
abbrev zA1:=@List.length_reverse
abbrev zA2:=@Int.le_refl
abbrev zA3:=@Int.neg_mul
abbrev zA4:=@Int.mul_eq_zero
abbrev zA5:=@List.append_nil
abbrev zA6:=@Nat.zero_add
abbrev zA7:=@List.append_assoc
abbrev zA8:=@List.filter_eq_self
abbrev zA9:=@Int.one_mul
abbrev zBA:=@List.length_dropLast
abbrev zBB:=@Option.map_eq_some_iff
abbrev zBC:=@Nat.succ_pos
abbrev zBD:=@Int.nonneg_of_mul_nonneg_right
abbrev zBE:=@Array.getElem?_eq_some_iff
abbrev zBF:=@List.length_take
abbrev zBG:=@Nat.lt_irrefl
abbrev zBH:=@Int.mul_nonpos_of_nonpos_of_nonneg
abbrev zBI:=@List.mem_range'_1
abbrev zBJ:=@List.zipWith_cons_cons
abbrev zBK:=@List.length_set
abbrev zBL:=@List.getElem_mem
abbrev zBM:=@List.getElem_of_mem
abbrev zBN:=@Nat.pow_succ
abbrev zBO:=@Bool.and_eq_true
abbrev zBP:=@List.lookup_cons
abbrev zBQ:=@List.drop_eq_getElem_cons
abbrev zBR:=@List.sublist_append_right
abbrev zBS:=@Int.not_le
abbrev zBT:=@Int.lt_irrefl
abbrev zBU:=@Prod.mk.injEq
abbrev zBV:=@List.dropLast_concat_getLast
abbrev zBW:=@List.getElem?_replicate
abbrev zBX:=@Nat.succ_lt_succ
abbrev zBY:=@Int.zero_mul
abbrev zBZ:=@List.map_nil
abbrev zBa:=@Int.mul_pos
abbrev zBb:=@List.singleton_sublist
abbrev zBc:=@PySem.Heap.SameBut.update
abbrev zBd:=@List.map_congr_left
abbrev zBe:=@Prod.ext
abbrev zBf:=@Int.mul_pos_of_neg_of_neg
abbrev zBg:=@List.ne_nil_of_length_pos
abbrev zBh:=@List.nodup_cons
abbrev zBi:=@PySem.Heap.get?_update_self
abbrev zBj:=@List.eq_nil_of_length_eq_zero
abbrev zBk:=@List.getLast?_eq_some_getLast
abbrev zBl:=@Nat.le_of_not_lt
abbrev zBm:=@Nat.lt_succ_of_lt
abbrev zBn:=@List.getElem_range'
abbrev zBo:=@PySem.Heap.get?_update_other
abbrev zBp:=@List.take_of_length_le
abbrev zBq:=@List.sum_cons
abbrev zBr:=@List.length_drop
abbrev zBs:=@List.take_length
abbrev zBt:=@List.mem_iff_getElem?
abbrev zBu:=@List.take_append_drop
abbrev zBv:=@List.take_succ
abbrev zBw:=@Int.mul_neg_of_pos_of_neg
abbrev zBx:=@List.getLast?_eq_none_iff
abbrev zBy:=@List.getLastD_eq_getLast?
abbrev zBz:=@Int.dvd_refl
abbrev zB0:=@Nat.le_of_lt
abbrev zB1:=@Nat.mod_lt
abbrev zB2:=@Nat.not_lt
abbrev zB3:=@Nat.pow_le_pow_right
abbrev zB4:=@Int.lt_trichotomy
abbrev zB5:=@List.reverse_cons
abbrev zB6:=@PySem.Heap.size_push
abbrev zB7:=@Int.dvd_mul_left
abbrev zB8:=@Int.natAbs_mul
abbrev zB9:=@Option.getD_some
abbrev zCA:=@Array.append_assoc
abbrev zCB:=@List.append_of_mem
abbrev zCC:=@Nat.lt_or_ge
abbrev zCD:=@Nat.ne_of_gt
abbrev zCE:=@Int.eq_of_sub_eq_zero
abbrev zCF:=@List.length_singleton
abbrev zCG:=@Int.dvd_trans
abbrev zCH:=@Nat.add_mod_right
abbrev zCI:=@Nat.lt_of_succ_lt
abbrev zCJ:=@Classical.byContradiction
abbrev zCK:=@Int.mul_zero
abbrev zCL:=@List.filterMap_cons_some
abbrev zCM:=@List.filterMap_cons
abbrev zCN:=@PySem.Heap.IsTupleIter.typeIs
abbrev zCO:=@List.filter_cons_of_neg
abbrev zCP:=@List.filter_cons_of_pos
abbrev zCQ:=@Int.mul_assoc
abbrev zCR:=@Bool.eq_iff_iff
abbrev zCS:=@Int.dvd_coe_gcd
abbrev zCT:=@Int.le_antisymm
abbrev zCU:=@List.mem_filterMap
abbrev zCV:=@List.set_cons_succ
abbrev zCW:=@List.set_cons_zero
abbrev zCX:=@Nat.lt_or_gt_of_ne
abbrev zCY:=@Array.getElem?_eq_none
abbrev zCZ:=@Int.fmod_nonneg_of_pos
abbrev zCa:=@List.getElem?_dropLast
abbrev zCb:=@Int.toNat_natCast
abbrev zCc:=@List.take_sublist
abbrev zCd:=@Nat.lt_trichotomy
abbrev zCe:=@Int.natAbs_dvd_natAbs
abbrev zCf:=@Int.gcd_mul_left
abbrev zCg:=@Int.le_of_neg_le_neg
abbrev zCh:=@Int.not_lt
abbrev zCi:=@List.all_eq_true
abbrev zCj:=@List.mem_flatMap
abbrev zCk:=@List.pairwise_append
abbrev zCl:=@Nat.le_add_right
abbrev zCm:=@Nat.mul_le_mul_right
abbrev zCn:=@Array.perm_iff_toList_perm
abbrev zCo:=@Bool.not_true
abbrev zCp:=@Nat.one_mul
abbrev zCq:=@Int.eq_of_mul_eq_mul_left
abbrev zCr:=@Int.mul_dvd_mul
abbrev zCs:=@List.getLast?_eq_getElem?
abbrev zCt:=@Nat.min_eq_left
abbrev zCu:=@Nat.not_lt_zero
abbrev zCv:=@Int.add_zero
abbrev zCw:=@List.zip_cons_cons
abbrev zCx:=@Nat.lt_of_le_of_lt
abbrev zCy:=@List.drop_zero
abbrev zCz:=@List.mem_range
namespace L2
open PySem PySem.Spec PyProof.Rows
abbrev Key:=Sum Int Str
def AF:Key->Value->Bool
 |.inl k,v=>Value.isInt k v
 |.inr x,v=>Value.isStrOf x v
def EH(w:World):Key->Int
 |.inl k=>hashInt k
 |.inr x=>hashStr w x
theorem bU:∀{k:Key} {v:Value},AF k v=true->(∃i t,k=Sum.inl i/\v=Value.int i t)∨(∃x t,k=Sum.inr x/\v=Value.str x t)
 |.inl i,v,h=>by
  obtain⟨t,e⟩:=Value.isInt_shape (k:=i) (v:=v) h
  exact .inl ⟨i,t,rfl,e⟩
 |.inr x,v,h=>by
  obtain⟨t,e⟩:=Value.isStrOf_shape (x:=x) (v:=v) h
  exact .inr ⟨x,t,rfl,e⟩
theorem C8(a b:Int):decide ((Sum.inl a:Key)=Sum.inl b)=(a==b):=by
 by_cases e:a=b
 ·subst e;simp
 ·have h:¬(Sum.inl a:Key)=Sum.inl b:=fun q=>e (Sum.inl.inj q)
  rw[decide_eq_false h]
  exact(beq_eq_false_iff_ne.mpr e).symm
theorem Dd(a b:Str):decide ((Sum.inr a:Key)=Sum.inr b)=decide (a=b):=by
 by_cases e:a=b
 ·subst e;simp
 ·have h:¬(Sum.inr a:Key)=Sum.inr b:=fun q=>e (Sum.inr.inj q)
  rw[decide_eq_false h,decide_eq_false e]
theorem C9(a:Int)(b:Str):decide ((Sum.inl a:Key)=Sum.inr b)=false:=decide_eq_false (fun q=>nomatch q)
theorem Dc(a:Str)(b:Int):decide ((Sum.inr a:Key)=Sum.inl b)=false:=decide_eq_false (fun q=>nomatch q)
def uO(prog:Program)(w:World):PySem.KeyKind prog w Key where
 is:=AF
 hash:=EH w
 inj:=fun v a b ha hb=>by
  rcases bU ha with⟨i,t,rfl,rfl⟩| ⟨x,t,rfl,rfl⟩
  ·rcases bU hb with⟨j,u,rfl,e⟩| ⟨y,u,rfl,e⟩
   ·injection e with e1 _;rw[e1]
   ·exact nomatch e
  ·rcases bU hb with⟨j,u,rfl,e⟩| ⟨y,u,rfl,e⟩
   ·exact nomatch e
   ·injection e with e1 _;rw[e1]
 byValue:=fun k v h=>by
  rcases bU h with⟨i,t,rfl,rfl⟩| ⟨x,t,rfl,rfl⟩<;>rfl
 pyHash:=fun hv h=>by
  rcases bU hv with⟨i,t,rfl,rfl⟩| ⟨x,t,rfl,rfl⟩
  ·exact wpAny_pyHash_int h
  ·exact wpAny_pyHash_str h
 eqBool:=fun hu hv h=>by
  rcases bU hu with⟨i,t,rfl,rfl⟩| ⟨x,t,rfl,rfl⟩
  ·rcases bU hv with⟨j,u,rfl,rfl⟩| ⟨y,u,rfl,rfl⟩
   ·rw[C8]at h;exact wpAny_eqBool_int h
   ·rw[C9]at h;exact SeqAt.EqAt.int_str i t y u _ _ _ _ h
  ·rcases bU hv with⟨j,u,rfl,rfl⟩| ⟨y,u,rfl,rfl⟩
   ·rw[Dc]at h;exact SeqAt.EqAt.str_int x t j u _ _ _ _ h
   ·rw[Dd]at h;exact wpAny_eqBool_str h
 «strs»:=fun k x t v h=>by
  rcases bU h with⟨i,u,rfl,e⟩| ⟨y,u,rfl,e⟩
  ·exact nomatch e
  ·injection e with e1 _
   subst e1
   cases v<;>rfl
end L2
namespace L2
open PySem PySem.Spec PyProof.Rows
inductive V where
 |non|bl (b:Bool)|int (i:Int)|str (x:Str)|byt (b:Array UInt8)|flt (b:UInt64)|ref (a:Addr)|ty (n:String)
 deriving DecidableEq
def RelV:V->Value->Prop
 |.non,u=>u=Value.none
 |.bl b,u=>u=Value.bool b
 |.int i,u=>∃t,u=Value.int i t
 |.str x,u=>∃t,u=Value.str x t
 |.byt b,u=>∃t,u=Value.bytes b t
 |.flt b,u=>∃t,u=Value.float b t
 |.ref a,u=>u=Value.ref a
 |.ty n,u=>u=Value.type n
abbrev Vals:List V->List Value->Prop:=Paired RelV
theorem Vals.length{xs:List V}{us:List Value}(r:Vals xs us):xs.length=us.length:=Paired.length r
theorem Vals.get:∀{xs:List V} {us:List Value} {i:Nat} {x:V},Vals xs us->xs[i]?=some x->∃u,us[i]?=some u/\RelV x u
 |_,_,_,_,.nil,e=>by simp at e
 |_,_,0,_,.cons r _,e=>by simp at e;subst e;exact⟨_,rfl,r⟩
 |_,_,i+1,x,.cons _ t,e=>by
  obtain⟨u,h1,h2⟩:=Vals.get (i:=i) (x:=x) t (by simpa using e)
  exact⟨u,by simpa using h1,h2⟩
theorem Vals.append:∀{xs ys:List V} {us ws:List Value},Vals xs us->Vals ys ws->Vals (xs++ys) (us++ws)
 |_,_,_,_,.nil,s=>s
 |_,_,_,_,.cons r t,s=>.cons r (Vals.append t s)
theorem Vals.take:∀{xs:List V} {us:List Value} (n:Nat),Vals xs us->Vals (xs.take n) (us.take n)
 |_,_,0,_=>.nil
 |_,_,_+1,.nil=>.nil
 |_,_,n+1,.cons r t=>.cons r (Vals.take n t)
theorem Vals.drop:∀{xs:List V} {us:List Value} (n:Nat),Vals xs us->Vals (xs.drop n) (us.drop n)
 |_,_,0,r=>r
 |_,_,_+1,.nil=>.nil
 |_,_,n+1,.cons _ t=>Vals.drop n t
theorem Vals.none_of:∀{xs:List V} {us:List Value} {i:Nat},Vals xs us->xs[i]?=none->us[i]?=none:=fun {xs us i} r e=>by
 have h1:=r.length
 have h2:xs.length<=i:=List.getElem?_eq_none_iff.mp e
 exact List.getElem?_eq_none_iff.mpr (by omega)
def Cj:Option V->Option Value->Prop
 |some v,some u=>RelV v u
 |none,none=>True
 |_,_=>False
def KV{κ:Type}:List (κ×V)->List (κ×Value)->Prop:=Paired fun(p:κ×V) (q:κ×Value)=>p.1=q.1/\RelV p.2 q.2
def kV:Key->V
 |.inl i=>.int i
 |.inr x=>.str x
inductive HO where
 |lst (xs:List V)
 |tup (xs:List V)
 |dK (kvs:List (Key×V))|dT (kvs:List (List Key×V))
 |set (S:Int->Bool) (n:Nat)
 |ins (C dx:Addr) (fs:List (Str×V))
 |own (x:Addr)
 |xd (fs:List (Str×V))
 |met (f x:Addr)
 |rng (lo hi:Int)
 |frz (o:Obj) (u:HO)
 |tbl (ps:Array Value)
 |ext (φ:Heap->Prop)
abbrev Hp:=Addr->Option HO
def upd(H:Hp)(a:Addr)(o:HO):Hp:=fun b=>if b=a then some o else H b
theorem aG{H:Hp}{a:Addr}{o:HO}:upd H a o a=some o:=by unfold upd;rw[if_pos rfl]
theorem ay{H:Hp}{a b:Addr}{o:HO}(h:b≠a):upd H a o b=H b:=by unfold upd;rw[if_neg h]
theorem mi{H:Hp}{a b:Addr}{o u:HO}(h:H a=some o)(h':H b=some u)(d:o≠u):a≠b:=by
 intro e;subst e;rw[h]at h';exact d (zAi h')
theorem aV{H:Hp}{a b:Addr}{o:HO}(h:H a=some o)(h':H b=none):a≠b:=by
 intro e;subst e;rw[h]at h';cases h'
section
variable(P:Program)(w:World)
def cC (H : Hp) (h : Heap) (a : Addr) : HO -> Prop
 | .lst xs => xs.length <= sizeLine /\ ∃ (its : List Value) (n : Nat), Vals xs its /\ h.get? a = some { cls := .type "list", data := .seq its.toArray n }
 | .tup xs => xs.length <= sizeLine /\ ∃ its : List Value, Vals xs its /\ IsTup h a its.toArray
 | .dK kvs => kvs.length <= sizeLine /\ (a == sysModules) = false /\ ∃ vs, KV kvs vs /\ h.DictOf (uO P w) a vs
 | .dT kvs => kvs.length <= sizeLine /\ (a == sysModules) = false /\ ∃ xs : List (List Key × Addr × Value),
   Paired (fun (p : List Key × V) (q : List Key × Addr × Value) => p.1 = q.1 /\ H q.2.1 = some (.tup (p.1.map kV)) /\ RelV p.2 q.2.2) kvs xs ∧
   ∃ o es ep, h.get? a = some o /\ o.ExactDict /\ o.data = .dict es ep /\ es.toList = xs.map (entryOfKey (tupleKind (uO P w))) /\ (xs.map (·.1)).Nodup
 | .set S n => h.SetOf (intKind P w) a S n
 | .ins C dx fs => H dx = some (.own a) /\ fs.length <= 1000 /\ dx ≠ a /\ h.get? a = some (PySem.W.instObj C dx) ∧
   ∃ mA, h.Ns1 dx mA /\ (∀ f, Cj (fs.lookup f) (mA f)) /\ PySem.Within mA (fs.map (·.1))
 | .own _ => ∃ o, h.get? a = some o
 | .xd fs => ∃ mA, h.Ns1 a mA /\ ∀ f, Cj (fs.lookup f) (mA f)
 | .rng lo hi => ∃ t u v, h.get? a = some { cls := .type "range", data := .fields #[.int lo t, .int hi u, .int 1 v] }
 | .frz o u => h.get? a = some o /\ cC H h a u
 | .tbl ps => h.get? a = some { cls := .none, data := .fields ps }
 | .met f x => h.get? a = some (PySem.W.methodObj (.ref f) (.ref x))
 | .ext φ => φ h /\ (∃ o, h.get? a = some o) /\ ∀ h1 h2 : Heap, φ h1 -> (∀ o, h1.get? a = some o -> h2.get? a = some o) -> φ h2
def HOk(H:Hp)(h:Heap):Prop:=∀a o,H a=some o->cC P w H h a o
end
section
variable{P:Program}{w:World}{H H':Hp}{h h':Heap}{a:Addr}{o:HO}
theorem cC.lt(x:cC P w H h a o):a<h.objs.size:=by
 cases o with
 |lst xs=>obtain⟨_,_,_,_,e⟩:=x;exact zAJ e
 |tup xs=>obtain⟨_,_,_,p⟩:=x;exact p.lt
 |dK kvs=>obtain⟨_,_,_,_,o,_,_,e,_⟩:=x;exact zAJ e
 |dT kvs=>obtain⟨_,_,_,_,o,_,_,e,_⟩:=x;exact zAJ e
 |set S n=>obtain⟨o,_,_,_,e,_⟩:=x;exact zAJ e
 |ins C dx fs=>obtain⟨_,_,_,e,_⟩:=x;exact zAJ e
 |own y=>obtain⟨_,e⟩:=x;exact zAJ e
 |xd fs=>obtain⟨_,⟨_,_,_,e,_⟩,_⟩:=x;exact zAJ e
 |rng lo hi=>obtain⟨_,_,_,e⟩:=x;exact zAJ e
 |frz ob u=>obtain⟨e,_⟩:=x;exact zAJ e
 |tbl ps=>exact zAJ (show h.get? a=some _ from x)
 |met f y=>exact zAJ (show h.get? a=some _ from x)
 |ext φ=>obtain⟨_,⟨_,e⟩,_⟩:=x;exact zAJ e
theorem Paired.mapP{α β:Type}{F G:α->β->Prop}:∀{l₁:List α} {l₂:List β},Paired F l₁ l₂->(∀a b,F a b->G a b)->Paired G l₁ l₂
 |_,_,.nil,_=>.nil
 |_,_,.cons r t,f=>.cons (f _ _ r) (Paired.mapP t f)
theorem cC.stay(x:cC P w H h a o)(k:∀b u,(b=a∨H b=some (.own a))->h.get? b=some u->h'.get? b=some u)
  (ho:∀b,H b=some (.own a)->H' b=some (.own a)) (ht:∀b xs,H b=some (.tup xs)->H' b=some (.tup xs)):cC P w H' h' a o:=by
 induction o with
 |lst xs=>obtain⟨z,its,n,r,e⟩:=x;exact⟨z,its,n,r,k _ _ (.inl rfl) e⟩
 |tup xs=>obtain⟨z,its,r,ob,e,c⟩:=x;exact⟨z,its,r,ob,k _ _ (.inl rfl) e,c⟩
 |dK kvs=>obtain⟨z,y,vs,r,ob,es,ep,e,c⟩:=x;exact⟨z,y,vs,r,ob,es,ep,k _ _ (.inl rfl) e,c⟩
 |dT kvs =>
  obtain⟨z,y,xs,r,ob,es,ep,e,c⟩:=x
  exact⟨z,y,xs,Paired.mapP r fun p q z=>⟨z.1,ht _ _ z.2.1,z.2.2⟩,ob,es,ep,k _ _ (.inl rfl) e,c⟩
 |set S n=>obtain⟨ob,es,ep,t,e,c⟩:=x;exact⟨ob,es,ep,t,k _ _ (.inl rfl) e,c⟩
 |ins C dx fs =>
  obtain⟨d,z,ne,e,mA,⟨od,es,ep,e2,c⟩,r⟩:=x
  exact⟨ho _ d,z,ne,k _ _ (.inl rfl) e,mA,⟨od,es,ep,k _ _ (.inr d) e2,c⟩,r⟩
 |own y=>obtain⟨ob,e⟩:=x;exact⟨ob,k _ _ (.inl rfl) e⟩
 |xd fs=>obtain⟨mA,⟨od,es,ep,e,c⟩,r⟩:=x;exact⟨mA,⟨od,es,ep,k _ _ (.inl rfl) e,c⟩,r⟩
 |rng lo hi=>obtain⟨t,u,v,e⟩:=x;exact⟨t,u,v,k _ _ (.inl rfl) e⟩
 |frz ob u ih=>obtain⟨e,q⟩:=x;exact⟨k _ _ (.inl rfl) e,ih q⟩
 |tbl ps =>
  have e:h.get? a=some {cls:=.none,data:=.fields ps}:=x
  show h'.get? a=some {cls:=.none,data:=.fields ps}
  exact k a _ (.inl rfl) e
 |met f y =>
  have e:h.get? a=some (PySem.W.methodObj (.ref f) (.ref y)):=x
  show h'.get? a=some (PySem.W.methodObj (.ref f) (.ref y))
  exact k a _ (.inl rfl) e
 |ext φ=>obtain⟨p,⟨o,e⟩,st⟩:=x;exact⟨st _ _ p fun o q=>k _ _ (.inl rfl) q,⟨o,k _ _ (.inl rfl) e⟩,st⟩
theorem HOk.lt(x:HOk P w H h)(e:H a=some o):a<h.objs.size:=(x a o e).lt
theorem HOk.fresh(x:HOk P w H h)(e:h.objs.size<=a):H a=none:=by
 cases q:H a with
 |none=>rfl
 |some u=>exact absurd (zAW (x.lt q) e) (zBG _)
theorem HOk.kept(x:HOk P w H h)(k:∀b u,h.get? b=some u->h'.get? b=some u):HOk P w H h':=fun a o e =>
 (x a o e).stay (fun b u _ q=>k b u q) (fun _ q=>q) fun _ _ q=>q
theorem HOk.laid(x:HOk P w H h)(k:∀b u,h.get? b=some u->h'.get? b=some u)(hp:h.objs.size<=a)(new:cC P w (upd H a o) h' a o):HOk P w (upd H a o) h':=fun b u e=>by
 have hn:=x.fresh hp
 by_cases hb:b=a
 ·subst hb;rw[aG]at e;cases e;exact new
 ·rw[ay hb]at e
  exact(x b u e).stay (fun c v _ q=>k c v q) (fun c q=>by rw[ay (aV q hn)];exact q) fun c xs q=>by rw[ay (aV q hn)];exact q
end
def Rd(H:Hp)(a:Addr)(u:HO):Prop:=H a=some u∨∃ o,H a=some (.frz o u)
theorem Rd.ok{P:Program}{w:World}{H:Hp}{h:Heap}{a:Addr}{u:HO}(r:Rd H a u)(x:HOk P w H h):cC P w H h a u:=by
 rcases r with r|⟨o,r⟩
 ·exact x a u r
 ·obtain⟨_,q⟩:=x a _ r
  exact q
def Mut:Option HO->Prop
 |some (.lst _)=>True
 |some (.dK _)=>True
 |some (.dT _)=>True
 |some (.set _ _)=>True
 |some (.ins _ _ _)=>True
 |some (.ext _)=>True
 |_=>False
section
variable{P:Program}{w:World}{H:Hp}{h h':Heap}{x e:Addr}{o':HO}
theorem HOk.write(ok:HOk P w H h)(mu:Mut (H x))(he:e=x∨H e=some (.own x))(k:∀b u,b≠e->h.get? b=some u->h'.get? b=some u)(heo:∃u,h'.get? e=some u)
  (new:cC P w (upd H x o') h' x o'):HOk P w (upd H x o') h':=fun b u q=>by
 have nown:∀c y,H c=some (.own y)->c≠x:=fun c y r z=>by subst z;rw[r]at mu;exact mu
 have ntup:∀c xs,H c=some (.tup xs)->c≠x:=fun c xs r z=>by subst z;rw[r]at mu;exact mu
 by_cases hb:b=x
 ·subst hb;rw[aG]at q;cases q;exact new
 ·rw[ay hb]at q
  by_cases hbe:b=e
  ·have q':H b=some (.own x):=by
    rcases he with z|z
    ·exact absurd (hbe.trans z) hb
    ·rw[hbe];exact z
   rw[q]at q';cases q'
   obtain⟨v,hv⟩:=heo
   exact⟨v,by rw[hbe];exact hv⟩
  ·refine(ok b u q).stay (fun c v hc r=>k c v ?_ r) (fun c r=>by rw[ay (nown c b r)];exact r) fun c xs r=>by rw[ay (ntup c xs r)];exact r
   rcases hc with rfl|hc
   ·exact hbe
   ·rintro rfl
    rcases he with z|z
    ·exact nown c b hc z
    ·rw[hc]at z;cases z;exact hb rfl
end
structure Un(fs ex:List Addr)(H H':Hp)(h h':Heap):Prop where
 keep:∀b o,h.get? b=some o->H b=none->b∉fs->b∉ex->h'.get? b=some o
 slot:∀b o,h.get? b=some o->H b=none->b∈fs->b∉ex->∃sl,h'.get? b=some {o with slots:=sl}
 free:∀b o,h.get? b=some o->H b=none->b∉ex->H' b=none
 there:∀b o,h.get? b=some o->b∉ex->∃o',h'.get? b=some o'
 tups:∀b xs,H b=some (.tup xs)->H' b=some (.tup xs)
 frzs:∀b o u,H b=some (.frz o u)->H' b=some (.frz o u)
 tbls:∀b ps,H b=some (.tbl ps)->∃more,H' b=some (.tbl (ps++more))
section
variable{fs fs' ex ex':List Addr}{H H1 H2:Hp}{h h1 h2 h':Heap}{a x e:Addr}{o:HO}
theorem Un.any(u:Un fs ex H H1 h h1){b:Addr}{ob:Obj}(q:h.get? b=some ob)(n:H b=none)(hx:b∉ex):∃sl,h1.get? b=some {ob with slots:=sl}:=by
 by_cases hb:b∈fs
 ·exact u.slot b ob q n hb hx
 ·exact⟨ob.slots,u.keep b ob q n hb hx⟩
theorem Un.kept(k:∀b u,h.get? b=some u->h'.get? b=some u):Un fs ex H H h h' :=
 ⟨fun b ob q _ _ _=>k b ob q,fun b ob q _ _ _=>⟨ob.slots,k b ob q⟩,fun _ _ _ n _=>n,fun b ob q _=>⟨ob,k b ob q⟩,fun _ _ q=>q,fun _ _ _ q=>q,fun _ ps q=>⟨#[],by rw[q];simp⟩⟩
theorem Un.refl:Un fs ex H H h h:=Un.kept fun _ _ q=>q
theorem Un.laid(k:∀b u,h.get? b=some u->h'.get? b=some u)(hp:h.objs.size<=a)(hn:H a=none):Un fs ex H (upd H a o) h h' where
 keep:=fun b u q _ _ _=>k b u q
 slot:=fun b u q _ _ _=>⟨u.slots,k b u q⟩
 free:=fun b u q n _=>by rw[ay (zAr (zAW (zAJ q) hp))];exact n
 there:=fun b u q _=>⟨u,k b u q⟩
 tups:=fun b xs q=>by rw[ay (aV q hn)];exact q
 frzs:=fun b u xs q=>by rw[ay (aV q hn)];exact q
 tbls:=fun b ps q=>⟨#[],by rw[ay (aV q hn),q];simp⟩
theorem Un.write(mu:Mut (H x))(he:e=x∨H e=some (.own x))(k:∀b u,b≠e->h.get? b=some u->h'.get? b=some u)(heo:∃u,h'.get? e=some u):Un fs ex H (upd H x o) h h':=by
 have hx:∀b,H b=none->b≠x:=fun b n z=>by subst z;rw[n]at mu;exact mu
 have hb:∀b,H b=none->b≠e:=fun b n z=>by
  subst z
  rcases he with r|r
  ·exact hx b n r
  ·rw[n]at r;cases r
 have hm:∀b u,H b=some u->¬Mut (some u)->b≠x:=fun b u q nm z=>by subst z;rw[q]at mu;exact nm mu
 refine⟨fun b u q n _ _=>k b u (hb b n) q,fun b u q n _ _=>⟨u.slots,k b u (hb b n) q⟩,fun b u q n _=>by rw[ay (hx b n)];exact n,fun b u q _=>?_,
  fun b xs q=>by rw[ay (hm b _ q fun z=>z)];exact q,fun b u xs q=>by rw[ay (hm b _ q fun z=>z)];exact q,fun b ps q=>⟨#[],by rw[ay (hm b _ q fun z=>z),q];simp⟩⟩
 by_cases hbe:b=e
 ·subst hbe;exact heo
 ·exact⟨u,k b u hbe q⟩
end
def trk(h:Heap)(H:Hp):List Addr:=(List.range h.objs.size).filter fun a=>(H a).isSome
def kg(h:Heap)(H:Hp):Heap:=PySem.W.hideAll h (trk h H)
theorem xw(h:Heap)(H:Hp):(kg h H).objs.size=h.objs.size:=PySem.W.hideAll_size _ _
theorem zv{h:Heap}{H:Hp}{b:Addr}{o:Obj}(e:h.get? b=some o)(n:H b=none):(kg h H).get? b=some o :=
 PySem.W.hideAll_get _ e fun hm=>by
  have q:(H b).isSome=true:=(List.mem_filter.mp hm).2
  rw[n]at q;simp at q
theorem By{h:Heap}{H:Hp}{b:Addr}{o:Obj}(e:(kg h H).get? b=some o):h.get? b=some o/\H b=none:=by
 have e':h.get? b=some o:=PySem.W.of_hideAll (trk h H) e
 refine⟨e',?_⟩
 cases q:H b with
 |none=>rfl
 |some x =>
  have hm:b∈trk h H:=List.mem_filter.mpr ⟨zCz.mpr (zAJ e'),by simp[q]⟩
  have z:(kg h H).get? b=none:=PySem.W.hideAll_none (trk h H) hm
  rw[z]at e;cases e
def AQ(g h:Heap)(L:Addr):List (Addr×Obj):=(List.range h.objs.size).filterMap fun a=>if a=L∨(g.get? a).isSome=true then none else(h.get? a).map fun o=>(a,o)
def rest(g h:Heap)(L d:Addr):List (Addr×Obj):=(AQ g h L).filter fun p=>decide (p.1≠d)
end L2
namespace L2
open PySem PySem.Spec PyProof.Rows
structure Mod(K:PySem.W.Frag)(mg:Str->Option Value)(base:Heap):Prop where
 kin:K.In base
 glob:base.Ns mainGlobals mg
 blt:∃mb,base.Ns builtinsNs mb/\∀x:Str,x ≠ "__name__" -> mb x=bootBuiltins x
 nolimit:base.NoLimit
structure Cx where
 prog:Program
 w:World
 K:PySem.W.Frag
 mg:Str->Option Value
 base:Heap
 A:Around
 N:List Str
 s₀:Shared
 H₀:Hp
 env:Env
 outer:List Env
 stack:List Env
 ex:List Addr
 fn:Str->Bool
 calm:Bool
 pn:List (Addr×Obj)
 xe:Value->Shared->Prop
def frs(l:List Env):List Addr:=l.filterMap (·.frame)
abbrev Cx.fs(X:Cx):List Addr:=frs X.outer
def Vis(sc:Scope)(x:Str):Prop:=sc.names.lookup x=some .local∨sc.names.lookup x=some .cell∨sc.names.lookup x=some .free
def Loc(sc:Scope)(x:Str):Prop:=sc.names.lookup x=some .local∨sc.names.lookup x=some .cell
def Look(env:Env)(h:Heap)(m:Str->Option Value)(x:Str)(u:Value):Prop :=
 (env.kindOf x=some .local/\m x=some u)∨((env.kindOf x=some .cell∨env.kindOf x=some .free)/\∃c,env.cells.lookup x=some c/\h.IsCell c (some u))
structure Cx.Ok(X:Cx):Prop where
 mod:Mod X.K X.mg X.base
 kind:X.env.scope.kind=.function
 glob:X.env.globals=mainGlobals
 blt:X.env.builtins=builtinsNs
 above:X.s₀.heap.objs.size<=X.env.locals
 inj:∀x y c,X.env.cells.lookup x=some c->X.env.cells.lookup y=some c->x=y
 has:∀x,(X.env.kindOf x=some .cell∨X.env.kindOf x=some .free)->∃c,X.env.cells.lookup x=some c
 cab:∀x c,X.fn x=true->X.env.cells.lookup x=some c->X.s₀.heap.objs.size<=c
 hd:X.calm=true->X.A.handled=none
 frames:X.A.frames=some X.stack
 stk:X.stack=X.outer∨(X.stack=X.env::X.outer/\X.env.frame=some X.env.locals)
 exf:∀b∈X.ex,b≠X.env.locals/\∀x c,X.env.cells.lookup x=some c->c≠b
 bs:∀b o,X.base.get? b=some o->X.s₀.heap.get? b=some o/\X.H₀ b=none
 bsz:X.base.objs.size<=X.s₀.heap.objs.size
 noex:∀b o,X.base.get? b=some o->b∉X.ex
 exfs:∀b∈X.ex,b∉X.fs
 funs:X.s₀.heap.FunFrames X.base X.outer
 frf:∀b∈X.fs,X.H₀ b=none
structure Inv(X:Cx)(pins:List (Addr×Obj))(σ:List (Option V))(H:Hp)(s:Shared):Prop where
 ok:X.Ok
 os:s.os=X.s₀.os
 bare:AllBare s.gens
 base:Un X.fs X.ex X.H₀ H X.s₀.heap s.heap
 loc:∃m,s.heap.Ns X.env.locals m/\∀(i:Nat) (x:Str) (v:V),X.N[i]?=some x->σ[i]?=some (some v)->Vis X.env.scope x->∃u,RelV v u/\Look X.env s.heap m x u
 cell:∀x c,X.env.cells.lookup x=some c->∃v,s.heap.IsCell c v
 free:H X.env.locals=none
 freeC:∀x c,X.env.cells.lookup x=some c->H c=none
 pin:∀p∈X.pn++pins,s.heap.get? p.1=some p.2/\H p.1=none/\p.1≠X.env.locals/\p.1∉X.fs/\∀v,p.2.data ≠ .cell v
 hok:HOk X.prog X.w H s.heap
 len:σ.length=X.N.length
section
variable{X:Cx}{pins:List (Addr×Obj)}{σ:List (Option V)}{H H':Hp}{s:Shared}{h':Heap}
theorem Cx.Ok.nofr(ok:X.Ok){b:Addr}{o:Obj}(e:X.base.get? b=some o):b∉X.fs:=fun hb=>by
 have:=(ok.funs.mem hb).1
 rw[e]at this;cases this
theorem Inv.bs(I:Inv X pins σ H s):∀b o,X.base.get? b=some o->s.heap.get? b=some o/\H b=none:=fun b o e =>
 ⟨I.base.keep b o (I.ok.bs b o e).1 (I.ok.bs b o e).2 (I.ok.nofr e) (I.ok.noex b o e),I.base.free b o (I.ok.bs b o e).1 (I.ok.bs b o e).2 (I.ok.noex b o e)⟩
theorem Inv.bk(I:Inv X pins σ H s):∀b o,X.base.get? b=some o->s.heap.get? b=some o:=fun b o e=>(I.bs b o e).1
theorem Inv.mod(I:Inv X pins σ H s):Mod X.K X.mg X.base:=I.ok.mod
theorem Inv.kIn(I:Inv X pins σ H s):X.K.In s.heap:=I.ok.mod.kin.keeps I.bk
theorem Inv.lt(I:Inv X pins σ H s):X.env.locals<s.heap.objs.size:=let ⟨_,hn,_⟩:=I.loc;hn.lt
theorem Inv.sz(I:Inv X pins σ H s):X.s₀.heap.objs.size<=s.heap.objs.size:=zAw I.ok.above (zB0 I.lt)
theorem Inv.nofs(I:Inv X pins σ H s){a:Addr}(h:s.heap.objs.size<=a):a∉X.fs:=fun hb=>by
 obtain⟨_,o,ho,_⟩:=I.ok.funs.mem hb
 exact absurd (zAW (zAJ ho) (zAw I.sz h)) (zBG _)
theorem Inv.cne(I:Inv X pins σ H s):∀x c,X.env.cells.lookup x=some c->c≠X.env.locals:=fun x c e z=>by
 obtain⟨v,o,ho,hd⟩:=I.cell x c e
 obtain⟨m,⟨o',es,ep,ho',hd',_⟩,_⟩:=I.loc
 rw[z,ho']at ho;cases ho;rw[hd']at hd;cases hd
theorem Inv.funs(I:Inv X pins σ H s):s.heap.FunFrames X.base X.outer:=by
 have all:∀(l:List Env),(∀b∈frs l,b∈X.fs)->X.s₀.heap.FunFrames X.base l->s.heap.FunFrames X.base l:=by
  intro l
  induction l with
  |nil=>intro _ _;trivial
  |cons env r ih =>
   intro hs hl
   obtain⟨hk,⟨L,o,hf,hn,ho,hd⟩,hr⟩:=hl
   have hL:L∈X.fs:=hs L (by unfold frs;rw[zCM,hf];exact zAY)
   obtain⟨sl,e⟩:=I.base.slot L o ho (I.ok.frf L hL) hL fun z=>I.ok.exfs L z hL
   exact⟨hk,⟨L,_,hf,hn,e,hd⟩,ih (fun b hb=>hs b (by unfold frs;rw[zCM,hf];exact zAD _ hb)) hr⟩
 exact all X.outer (fun _ hb=>hb) I.ok.funs
theorem Inv.stack(I:Inv X pins σ H s):s.heap.FunFrames X.base X.stack:=by
 rcases I.ok.stk with e|⟨e,hf⟩
 ·rw[e];exact I.funs
 ·rw[e]
  obtain⟨m,hn,_⟩:=I.loc
  refine .cons (by rw[I.ok.kind];decide) hf hn ?_ I.funs
  exact Heap.get?_none_of_le (zAw I.ok.bsz I.ok.above)
theorem Inv.stkSub(I:Inv X pins σ H s):∀b∈frs X.stack,b∈X.env.locals::X.fs:=fun b hb=>by
 rcases I.ok.stk with e|⟨e,hf⟩
 ·rw[e]at hb;exact zAD _ hb
 ·rw[e]at hb
  unfold frs at hb
  rw[zCM,hf]at hb
  exact hb
theorem Inv.stkFree(I:Inv X pins σ H s):∀b∈frs X.stack,H b=none:=fun b hb=>by
 rcases zAC.mp (I.stkSub b hb)with e|hb
 ·rw[e];exact I.free
 ·obtain⟨_,o,ho,_⟩:=I.ok.funs.mem hb
  exact I.base.free b o ho (I.ok.frf b hb) fun z=>I.ok.exfs b z hb
theorem Inv.step{g':Array GenState}{t':Nat}{d':Drawn}{ch:List Addr}(I:Inv X pins σ H s)
  (hch:∀b∈ch,(b∈X.ex∨X.s₀.heap.objs.size<=b)/\b≠X.env.locals/\(∀x c,X.env.cells.lookup x=some c->c≠b)/\∀p∈X.pn++pins,p.1≠b)
  (keep:∀b o,b≠X.env.locals->b∉X.fs->b∉ch->s.heap.get? b=some o->H b=none->h'.get? b=some o)
  (slot:∀b o,b≠X.env.locals->b∈X.fs->b∉ch->s.heap.get? b=some o->H b=none->∃sl,h'.get? b=some {o with slots:=sl}) (free:∀b o,b∉ch->s.heap.get? b=some o->H b=none->H' b=none)
  (there:∀b o,b∉ch->s.heap.get? b=some o->∃o',h'.get? b=some o')
  (tups:∀b xs,H b=some (.tup xs)->H' b=some (.tup xs)) (frzs:∀b o u,H b=some (.frz o u)->H' b=some (.frz o u)) (tbls:∀b ps,H b=some (.tbl ps)->∃more,H' b=some (.tbl (ps++more)))
  (ns:∀m,s.heap.Ns X.env.locals m->h'.Ns X.env.locals m) (hok:HOk X.prog X.w H' h') (hg:AllBare g') :
  Inv X pins σ H' {s with heap:=h',gens:=g',drawn:=d',toks:=t'}:=by
 have neL:∀b o,X.s₀.heap.get? b=some o->b≠X.env.locals:=fun b o e=>zAr (zAW (zAJ e) I.ok.above)
 have neC:∀b o,X.s₀.heap.get? b=some o->b∉X.ex->b∉ch:=fun b o e hx hb=>by
  rcases(hch b hb).1 with z|z
  ·exact hx z
  ·exact absurd (zAW (zAJ e) z) (zBG _)
 have cellK:∀x c,X.env.cells.lookup x=some c->∀v,s.heap.IsCell c v->h'.IsCell c v:=fun x c e v ⟨o,ho,hd⟩=>by
  have nch:c∉ch:=fun z=>(hch c z).2.2.1 x c e rfl
  by_cases hc:c∈X.fs
  ·obtain⟨sl,q⟩:=slot c o (I.cne x c e) hc nch ho (I.freeC x c e)
   exact⟨_,q,hd⟩
  ·exact⟨o,keep c o (I.cne x c e) hc nch ho (I.freeC x c e),hd⟩
 refine⟨I.ok,I.os,hg,⟨fun b o e n hb hx=>?_,fun b o e n hb hx=>?_,fun b o e n hx=>?_,fun b o e hx=>?_,fun b xs e=>tups b xs (I.base.tups b xs e),fun b o xs e=>frzs b o xs (I.base.frzs b o xs e),fun b ps e=>?_⟩,?_,fun x c e=>?_,?_,fun x c e=>?_,fun p hp=>?_,hok,I.len⟩
 ·exact keep b o (neL b o e) hb (neC b o e hx) (I.base.keep b o e n hb hx) (I.base.free b o e n hx)
 ·obtain⟨sl,e1⟩:=I.base.slot b o e n hb hx
  obtain⟨sl',e2⟩:=slot b _ (neL b o e) hb (neC b o e hx) e1 (I.base.free b o e n hx)
  exact⟨sl',e2⟩
 ·obtain⟨o',e1⟩:=I.base.there b o e hx
  exact free b o' (neC b o e hx) e1 (I.base.free b o e n hx)
 ·obtain⟨o',e1⟩:=I.base.there b o e hx
  exact there b o' (neC b o e hx) e1
 ·obtain⟨m1,e1⟩:=I.base.tbls b ps e
  obtain⟨m2,e2⟩:=tbls b _ e1
  exact⟨m1++m2,by rw[e2,zCA]⟩
 ·obtain⟨m,hn,hl⟩:=I.loc
  refine⟨m,ns m hn,fun i x v e1 e2 e3=>?_⟩
  obtain⟨u,r,l⟩:=hl i x v e1 e2 e3
  refine⟨u,r,?_⟩
  rcases l with l|⟨k,c,e,z⟩
  ·exact .inl l
  ·exact .inr ⟨k,c,e,cellK x c e _ z⟩
 ·obtain⟨v,z⟩:=I.cell x c e
  exact⟨v,cellK x c e v z⟩
 ·obtain⟨m,⟨o,_,_,ho,_⟩,_⟩:=I.loc
  exact free _ o (fun z=>(hch _ z).2.1 rfl) ho I.free
 ·obtain⟨v,o,ho,hd⟩:=I.cell x c e
  exact free c o (fun z=>(hch c z).2.2.1 x c e rfl) ho (I.freeC x c e)
 ·obtain⟨e,n,ne,nf,d⟩:=I.pin p hp
  have nch:p.1∉ch:=fun z=>(hch p.1 z).2.2.2 p hp rfl
  exact⟨keep p.1 p.2 ne nf nch e n,free p.1 p.2 nch e n,ne,nf,d⟩
theorem Inv.un{t':Nat}(I:Inv X pins σ H s)(u:Un X.fs [] H H' s.heap h')(hok:HOk X.prog X.w H' h'):Inv X pins σ H' {s with heap:=h',toks:=t'}:=by
 obtain⟨m,⟨o,es,ep,ho,r⟩,_⟩:=id I.loc
 obtain⟨sl,hL⟩:=u.any ho I.free (by simp)
 exact I.step (g':=s.gens) (d':=s.drawn) (ch:=[]) (fun _ z=>nomatch z) (fun b o _ hb _ e n=>u.keep b o e n hb (by simp)) (fun b o _ hb _ e n=>u.slot b o e n hb (by simp)) (fun b o _ e n=>u.free b o e n (by simp)) (fun b o _ e=>u.there b o e (by simp)) u.tups u.frzs u.tbls (fun m' hm=>by
  obtain⟨o',es',ep',ho',r'⟩:=hm
  rw[ho]at ho';cases ho'
  exact⟨_,es',ep',hL,r'⟩) hok I.bare
theorem Inv.call{g':Array GenState}{t':Nat}{d':Drawn}{ch:List Addr}(I:Inv X pins σ H s)(u:Un (frs X.stack) ch H H' s.heap h')(hok:HOk X.prog X.w H' h')(hg:AllBare g')
  (hch:∀b∈ch,(b∈X.ex∨X.s₀.heap.objs.size<=b)/\b≠X.env.locals/\(∀x c,X.env.cells.lookup x=some c->c≠b)/\∀p∈X.pn++pins,p.1≠b) :
  Inv X pins σ H' {s with heap:=h',gens:=g',drawn:=d',toks:=t'}:=by
 obtain⟨m,⟨o,es,ep,ho,r⟩,_⟩:=id I.loc
 obtain⟨sl,hL⟩:=u.any ho I.free fun z=>(hch _ z).2.1 rfl
 exact I.step (ch:=ch) hch (fun b o hL hb hc e n=>u.keep b o e n (fun z=>(zAC.mp (I.stkSub b z)).elim hL hb) hc) (fun b o _ _ hc e n=>u.any e n hc) (fun b o hc e n=>u.free b o e n hc) (fun b o hc e=>u.there b o e hc) u.tups u.frzs u.tbls (fun m' hm=>by
  obtain⟨o',es',ep',ho',r'⟩:=hm
  rw[ho]at ho';cases ho'
  exact⟨_,es',ep',hL,r'⟩) hok hg
theorem Inv.turned{t':Nat}{it:Addr}(I:Inv X pins σ H s)(k:∀b o,b≠it->s.heap.get? b=some o->h'.get? b=some o)(hn:H it=none)(hL:it≠X.env.locals)
  (h1:it∈X.ex∨X.s₀.heap.objs.size<=it) (h2:∀x c,X.env.cells.lookup x=some c->c≠it) (h3:∀p∈X.pn++pins,p.1≠it):Inv X pins σ H {s with heap:=h',toks:=t'}:=by
 have nit:∀b u,H b=some u->b≠it:=fun b u e z=>by rw[z,hn]at e;cases e
 refine I.step (g':=s.gens) (d':=s.drawn) (ch:=[it]) (fun b hb=>?_) (fun b o _ _ hc e _=>k b o (fun z=>hc (by simp[z])) e) (fun b o _ _ hc e _=>⟨o.slots,k b o (fun z=>hc (by simp[z])) e⟩) (fun _ _ _ _ n=>n)
  (fun b o hc e=>⟨o,k b o (fun z=>hc (by simp[z])) e⟩) (fun _ _ e=>e) (fun _ _ _ e=>e) (fun b ps e=>⟨#[],by rw[e];simp⟩) (fun m hm=>?_) (fun b u e=>?_) I.bare
 ·have e:b=it:=by simpa using hb
  subst e
  exact⟨h1,hL,h2,h3⟩
 ·obtain⟨o,es,ep,ho,r⟩:=hm
  exact⟨o,es,ep,k _ o (Ne.symm hL) ho,r⟩
 ·refine(I.hok b u e).stay (fun c v hc q=>k c v ?_ q) (fun _ q=>q) fun _ _ q=>q
  rcases hc with z|z
  ·rw[z];exact nit b u e
  ·exact nit c _ z
theorem Inv.tok(I:Inv X pins σ H s)(t:Nat):Inv X pins σ H {s with toks:=t}:=I.un (h':=s.heap) (t':=t) Un.refl I.hok
theorem Inv.kept{t':Nat}(I:Inv X pins σ H s)(k:∀b u,s.heap.get? b=some u->h'.get? b=some u):Inv X pins σ H {s with heap:=h',toks:=t'}:=I.un (Un.kept k) (I.hok.kept k)
theorem Inv.laid{a:Addr}{o:HO}{t':Nat}(I:Inv X pins σ H s)(k:∀b u,s.heap.get? b=some u->h'.get? b=some u)(hp:s.heap.objs.size<=a)(new:cC X.prog X.w (upd H a o) h' a o) :
  Inv X pins σ (upd H a o) {s with heap:=h',toks:=t'}:=I.un (Un.laid k hp (I.hok.fresh hp)) (I.hok.laid k hp new)
theorem Inv.write{x e:Addr}{o:HO}{t':Nat}(I:Inv X pins σ H s)(mu:Mut (H x))(he:e=x∨H e=some (.own x))(k:∀b u,b≠e->s.heap.get? b=some u->h'.get? b=some u)(heo:∃u,h'.get? e=some u)
  (new:cC X.prog X.w (upd H x o) h' x o):Inv X pins σ (upd H x o) {s with heap:=h',toks:=t'}:=I.un (Un.write mu he k heo) (I.hok.write mu he k heo new)
theorem Inv.pins_of{pins':List (Addr×Obj)}(I:Inv X pins σ H s)(h:∀p∈pins',s.heap.get? p.1=some p.2/\H p.1=none/\p.1≠X.env.locals/\p.1∉X.fs/\∀v,p.2.data ≠ .cell v):Inv X pins' σ H s :=
 ⟨I.ok,I.os,I.bare,I.base,I.loc,I.cell,I.free,I.freeC,fun p hp=>(zAI.mp hp).elim (fun z=>I.pin p (zAu _ z)) (h p),I.hok,I.len⟩
theorem sU{N:List Str}(hN:N.Nodup){i j:Nat}{x:Str}(a:N[i]?=some x)(b:N[j]?=some x):i=j:=by
 obtain⟨h1,e1⟩:=zAE.mp a
 obtain⟨h2,e2⟩:=zAE.mp b
 exact(List.getElem_inj hN).mp (e1.trans e2.symm)
theorem jt{M:Model}{A:Around}{E:Value->Shared->Prop}{i:Nat}{x:Str}{v:V}{u:Value}{Q:Unit->Shared->Prop}(I:Inv X pins σ H s)(hN:X.N.Nodup)(hi:X.N[i]?=some x)(hx:Loc X.env.scope x)(r:RelV v u)
  (h:∀s',Inv X pins (σ.set i (some v)) H s'->(∃a,Heap.SameBut a s.heap s'.heap/\(a=X.env.locals∨X.env.cells.lookup x=some a))->Q () s') (hf:X.fn x=true∨X.env.scope.names.lookup x=some .local:=by first|exact .inl rfl|exact .inr rfl|assumption):wpAny M A (storeName X.env x u) Q E s:=by
 obtain⟨m,hn,hl⟩:=id I.loc
 have hcls:(X.env.scope.kind==.class || (X.env.scope.kind==.module && X.env.locals != X.env.globals))=false:=by rw[I.ok.kind];rfl
 have hiσ:i<σ.length:=by rw[I.len];exact(zAE.mp hi).1
 have cne:=I.cne
 have tracked:∀{a:Addr} {h':Heap},(∃o,s.heap.get? a=some o/\H a=none)->Heap.SameBut a s.heap h'->HOk X.prog X.w H h':=fun {a h'} ha hs b ob e=>by
  obtain⟨_,_,hfree⟩:=ha
  refine(I.hok b ob e).stay (fun c w' hc q=>(hs.2 c ?_).trans q) (fun _ q=>q) fun _ _ q=>q
  rintro rfl
  rcases hc with rfl|hc
  ·rw[hfree]at e;cases e
  ·rw[hfree]at hc;cases hc
 rcases hx with hk|hk
 ·refine wpAny_storeName_local hk hn (fun h' hn' hs=>?_) hcls
  obtain⟨oL,_,_,hoL,_⟩:=id hn
  refine h _ ⟨I.ok,I.os,I.bare,⟨fun b o e n hb hx=>?_,fun b o e n hb hx=>?_,I.base.free,fun b o e hx=>?_,I.base.tups,I.base.frzs,I.base.tbls⟩,⟨_,hn',fun j y v' e1 e2 e3=>?_⟩,fun y c e=>?_,I.free,I.freeC,fun p hp=>?_,tracked ⟨oL,hoL,I.free⟩ hs,by simpa using I.len⟩ ⟨_,hs,.inl rfl⟩
  ·exact(hs.2 b (zAr (zAW (zAJ e) I.ok.above))).trans (I.base.keep b o e n hb hx)
  ·obtain⟨sl,e1⟩:=I.base.slot b o e n hb hx
   exact⟨sl,(hs.2 b (zAr (zAW (zAJ e) I.ok.above))).trans e1⟩
  ·obtain⟨o',e1⟩:=I.base.there b o e hx
   exact⟨o',(hs.2 b (zAr (zAW (zAJ e) I.ok.above))).trans e1⟩
  ·by_cases hj:j=i
   ·subst hj
    rw[hi]at e1;cases e1
    rw[zAV hiσ]at e2
    cases e2
    exact⟨u,r,.inl ⟨hk,by simp⟩⟩
   ·rw[zAN (Ne.symm hj)]at e2
    obtain⟨u',r',q⟩:=hl j y v' e1 e2 e3
    refine⟨u',r',?_⟩
    rcases q with⟨k,e⟩| ⟨k,c,e,z⟩
    ·refine .inl ⟨k,?_⟩
     have:y≠x:=fun e=>hj (sU hN e1 (e ▸ hi))
     simp[this,e]
    ·exact .inr ⟨k,c,e,z.sameBut hs (cne y c e)⟩
  ·obtain⟨w',z⟩:=I.cell y c e
   exact⟨w',z.sameBut hs (cne y c e)⟩
  ·obtain⟨e,n,ne,nf,d⟩:=I.pin p hp
   exact⟨(hs.2 p.1 ne).trans e,n,ne,nf,d⟩
 ·have hfn:X.fn x=true:=by
   rcases hf with z|z
   ·exact z
   ·rw[z]at hk;cases hk
  obtain⟨c,hc⟩:=I.ok.has x (.inl hk)
  obtain⟨w',z⟩:=I.cell x c hc
  refine wpAny_storeName_cell I.ok.kind hk hc z (fun h' hc' hs=>?_)
  obtain⟨oc,hoc,hocd⟩:=id z
  refine h {s with heap:=h'} ⟨I.ok,I.os,I.bare,⟨fun b o e n hb hx=>?_,fun b o e n hb hx=>?_,I.base.free,fun b o e hx=>?_,I.base.tups,I.base.frzs,I.base.tbls⟩,⟨m,hn.sameBut hs (Ne.symm (cne x c hc)),fun j y v' e1 e2 e3=>?_⟩,fun y c' e=>?_,I.free,I.freeC,fun p hp=>?_,tracked ⟨oc,hoc,I.freeC x c hc⟩ hs,by simpa using I.len⟩ ⟨c,hs,.inr hc⟩
  ·exact(hs.2 b (zAr (zAW (zAJ e) (I.ok.cab x c hfn hc)))).trans (I.base.keep b o e n hb hx)
  ·obtain⟨sl,e1⟩:=I.base.slot b o e n hb hx
   exact⟨sl,(hs.2 b (zAr (zAW (zAJ e) (I.ok.cab x c hfn hc)))).trans e1⟩
  ·obtain⟨o',e1⟩:=I.base.there b o e hx
   exact⟨o',(hs.2 b (zAr (zAW (zAJ e) (I.ok.cab x c hfn hc)))).trans e1⟩
  ·by_cases hj:j=i
   ·subst hj
    rw[hi]at e1;cases e1
    rw[zAV hiσ]at e2
    cases e2
    exact⟨u,r,.inr ⟨.inl hk,c,hc,hc'⟩⟩
   ·rw[zAN (Ne.symm hj)]at e2
    obtain⟨u',r',q⟩:=hl j y v' e1 e2 e3
    refine⟨u',r',?_⟩
    rcases q with q|⟨k,c',e,z'⟩
    ·exact .inl q
    ·refine .inr ⟨k,c',e,z'.sameBut hs ?_⟩
     rintro rfl
     exact hj (sU hN e1 (I.ok.inj _ _ _ e hc ▸ hi))
  ·by_cases hcc:c'=c
   ·subst hcc;exact⟨_,hc'⟩
   ·obtain⟨w2,z2⟩:=I.cell y c' e
    exact⟨w2,z2.sameBut hs hcc⟩
  ·obtain⟨e,n,ne,nf,d⟩:=I.pin p hp
   refine⟨(hs.2 p.1 ?_).trans e,n,ne,nf,d⟩
   intro q
   rw[q,hoc]at e
   have q':oc=p.2:=zAi e
   exact d w' (by rw[<- q'];exact hocd)
theorem gD{M:Model}{A:Around}{E:Value->Shared->Prop}{i:Nat}{x:Str}{v:V}{u:Value}{Q:Unit->Shared->Prop}(I:Inv X pins σ H s)(hN:X.N.Nodup)(hi:X.N[i]?=some x)(hx:Loc X.env.scope x)(r:RelV v u)
  (h:∀s',Inv X pins (σ.set i (some v)) H s'->Q () s') (hf:X.fn x=true∨X.env.scope.names.lookup x=some .local:=by first|exact .inl rfl|exact .inr rfl|assumption):wpAny M A (storeName X.env x u) Q E s :=
 jt I hN hi hx r (fun s' I' _=>h s' I') hf
theorem Inv.call'{s':Shared}{ch:List Addr}(I:Inv X pins σ H s)(ho:s'.os=s.os)(u:Un (frs X.stack) ch H H' s.heap s'.heap)(hok:HOk X.prog X.w H' s'.heap)(hg:AllBare s'.gens)
  (hch:∀b∈ch,(b∈X.ex∨X.s₀.heap.objs.size<=b)/\b≠X.env.locals/\(∀x c,X.env.cells.lookup x=some c->c≠b)/\∀p∈X.pn++pins,p.1≠b):Inv X pins σ H' s':=by
 obtain⟨h',g',d',t',o'⟩:=s'
 have e:o'=s.os:=ho
 subst e
 exact I.call (g':=g') (t':=t') (d':=d') u hok hg hch
end
abbrev XK:=Value->Option Addr->Hp->Prop
abbrev St:=List (Option V)
abbrev VK:=V->Hp->Prop
abbrev TE:=St->Hp->VK->Prop
abbrev TT:=St->Hp->(Bool->Hp->Prop)->Prop
abbrev TA:=St->Hp->(List V->Hp->Prop)->Prop
structure Ends where
 nx:St->Hp->Prop
 rt:VK
 bk:St->Hp->Prop:=fun _ _=>False
 ct:St->Hp->Prop:=fun _ _=>False
abbrev TS:=Ends->St->Hp->Prop
def EP(X:Cx)(pins:List (Addr×Obj))(σ:St)(Q:VK)(u:Value)(s':Shared):Prop:=∃v H',Inv X pins σ H' s'/\RelV v u/\Q v H'
def AP(X:Cx)(pins:List (Addr×Obj))(σ:St)(Q:List V->Hp->Prop)(us:List Value)(s':Shared):Prop:=∃vs H',Inv X pins σ H' s'/\Vals vs us/\Q vs H'
def SP(X:Cx)(pins:List (Addr×Obj))(D:Ends)(f:Flow)(s':Shared):Prop :=
 match f with
 |.next=>∃σ' H',Inv X pins σ' H' s'/\D.nx σ' H'
 |.brk=>∃σ' H',Inv X pins σ' H' s'/\D.bk σ' H'
 |.cont=>∃σ' H',Inv X pins σ' H' s'/\D.ct σ' H'
 |.ret u=>∃v σ' H',Inv X pins σ' H' s'/\RelV v u/\D.rt v H'
def PE(X:Cx)(e:Expr)(t:TE):Prop :=
 ∀ (pins:List (Addr×Obj)) (s:Shared) (σ:St) (H:Hp) (Q:VK),Inv X pins σ H s->t σ H Q->wpAny (model X.prog X.w) X.A (eval e X.env) (EP X pins σ Q) X.xe s
def PA(X:Cx)(es:List Expr)(t:TA):Prop :=
 ∀ (pos:Pos) (pins:List (Addr×Obj)) (s:Shared) (σ:St) (H:Hp) (Q:List V->Hp->Prop),Inv X pins σ H s->t σ H Q->wpAny (model X.prog X.w) X.A (spliced (backTo pos (starEach es X.env))) (AP X pins σ Q) X.xe s
def PS(X:Cx)(st:Stmt)(t:TS):Prop :=
 ∀ (pins:List (Addr×Obj)) (s:Shared) (σ:St) (H:Hp) (D:Ends),Inv X pins σ H s->t D σ H->wpAny (model X.prog X.w) X.A (exec st X.env) (SP X pins D) X.xe s
def PSs(X:Cx)(st:List Stmt)(t:TS):Prop :=
 ∀ (pins:List (Addr×Obj)) (s:Shared) (σ:St) (H:Hp) (D:Ends),Inv X pins σ H s->t D σ H->wpAny (model X.prog X.w) X.A (execs st X.env) (SP X pins D) X.xe s
theorem thn{α:Type}{t:Sem α}{Q Q':α->Shared->Prop}{M:Model}{A:Around}{E:Value->Shared->Prop}{s:Shared}(h:wpAny M A t Q E s)(hQ:∀a s,Q a s->Q' a s):wpAny M A t Q' E s:=wpAny_mono h hQ fun _ _ x=>x
end L2
namespace L2
open PySem PySem.Spec PyProof.Rows
section
variable{X:Cx}
def wO(i:Nat):TE:=fun σ H Q=>∃v,σ[i]?=some (some v)/\Q v H
def tC(v:V):TE:=fun _ H Q=>Q v H
theorem gQ {i:Nat} {x:Str} {pos:Pos} (hN:X.N[i]?=some x) (hv:Vis X.env.scope x) (hd:(x==("__debug__" : Str))=false:=by decide) (hcd:(x==("__classdict__" : Str))=false:=by decide):PE X (.Name x pos) (wO i):=by
 intro pins s σ H Q I h
 obtain⟨v,e,h⟩:=h
 obtain⟨m,hn,hl⟩:=I.loc
 obtain⟨u,r,l⟩:=hl i x v hN e hv
 have fin:EP X pins σ Q u s:=⟨v,H,I,r,h⟩
 rcases l with⟨hk,hm⟩| ⟨hk,c,hc,hcell⟩
 ·exact wpAny_Name (wpAny_loadName_local I.ok.kind hk hn hm fin) hd
 ·rcases hk with hk|hk
  ·exact wpAny_Name (wpAny_loadName_cell I.ok.kind hk hc hcell fin) hd
  ·exact wpAny_Name (wpAny_loadName_free I.ok.kind hk hc hcell fin hcd) hd
theorem gP{i j pos}:PE X (.Constant (.int i) j pos) (tC (.int i)):=fun _ _ _ H _ I h=>wpAny_Constant_int ⟨.int i,H,I.tok _,⟨_,rfl⟩,h⟩
theorem Eo{b j pos}:PE X (.Constant (.bool b) j pos) (tC (.bl b)):=fun _ _ _ H _ I h=>Constant_bool ⟨.bl b,H,I,rfl,h⟩
theorem Du{j pos}:PE X (.Constant .none j pos) (tC .non):=fun _ _ _ H _ I h=>Constant_none ⟨.non,H,I,rfl,h⟩
theorem Dv{x j pos}:PE X (.Constant (.str x) j pos) (tC (.str x)):=fun _ _ _ H _ I h=>Calls.Constant_str ⟨.str x,H,I.tok _,⟨_,rfl⟩,h⟩
def Gl(X:Cx)(x:Str):Prop:=X.env.kindOf x=some .globalImplicit
theorem uJ{E:Value->Shared->Prop}{pins:List (Addr×Obj)}{s:Shared}{σ:St}{H:Hp}{x:Str}{u:Value}{pos:Pos}{Q:Value->Shared->Prop}(I:Inv X pins σ H s)(hg:Gl X x)(hm:X.mg x=some u)(h:Q u s)
  (hd:(x==("__debug__" : Str))=false:=by decide):wpAny (model X.prog X.w) X.A (eval (.Name x pos) X.env) Q E s :=
 Calls.Name_function_global I.ok.kind hg (Calls.loadGlobal_global (by rw[I.ok.glob];exact I.mod.glob.keeps I.bk) hm h) hd
theorem eQ{E:Value->Shared->Prop}{pins:List (Addr×Obj)}{s:Shared}{σ:St}{H:Hp}{x:Str}{u:Value}{pos:Pos}{Q:Value->Shared->Prop}(I:Inv X pins σ H s)(hg:Gl X x)(hm:X.mg x=none)(hv:bootBuiltins x=some u)(h:Q u s)
  (hn:x ≠ "__name__" := by decide) (hd:(x==("__debug__" : Str))=false:=by decide):wpAny (model X.prog X.w) X.A (eval (.Name x pos) X.env) Q E s:=by
 obtain⟨mb,h1,h2⟩:=I.mod.blt
 exact Calls.Name_function_global I.ok.kind hg (Calls.loadGlobal_builtin (by rw[I.ok.glob];exact I.mod.glob.keeps I.bk) hm (by rw[I.ok.blt];exact h1.keeps I.bk) ((h2 x hn).trans hv) h) hd
theorem BM {x:Str} {v:V} {u:Value} {pos:Pos} (hg:Gl X x) (hm:X.mg x=none) (hv:bootBuiltins x=some u) (r:RelV v u) (hn:x ≠ "__name__" := by decide) (hd:(x==("__debug__" : Str))=false:=by decide):PE X (.Name x pos) (tC v) :=
 fun _ _ _ H _ I h=>eQ I hg hm hv ⟨v,H,I,r,h⟩ hn hd
variable{a b:Expr}{ta tb:TE}{pos:Pos}
theorem sS(b:Expr){op:CmpOp}(h:op ≠ .In)(h2:op ≠ .NotIn):behindInMarks op b=false:=by
 have e1:(op==CmpOp.In)=false:=by cases op<;>first|rfl|exact absurd rfl h
 have e2:(op==CmpOp.NotIn)=false:=by cases op<;>first|rfl|exact absurd rfl h2
 cases b<;>simp[behindInMarks,e1,e2]
variable{tA tB':TT}{rest:List Expr}
end
end L2
namespace L2
open PySem PySem.Spec PyProof.Rows
def SqL(K:PySem.W.Frag)(H:Hp)(a:Addr)(xs:List V):Prop :=
 Rd H a (.lst xs) ∨
  ∃ (o:Obj) (its:Array Value) (n:Nat),K.lookup a=some o/\o.cls=.type "list" /\ o.dict=none/\o.data=.seq its n/\its.size<=sizeLine/\Vals xs its.toList
def SqT(K:PySem.W.Frag)(H:Hp)(a:Addr)(xs:List V):Prop :=
 Rd H a (.tup xs) ∨
  ∃ (o:Obj) (its:Array Value) (n:Nat),K.lookup a=some o/\o.cls=.type "tuple" /\ o.data=.seq its n/\its.size<=sizeLine/\Vals xs its.toList
def EB:Value->Option V
 |.none=>some .non
 |.bool b=>some (.bl b)
 |.int i _=>some (.int i)
 |.str x _=>some (.str x)
 |.bytes b _=>some (.byt b)
 |.float b _=>some (.flt b)
 |.ref a=>some (.ref a)
 |.type n=>some (.ty n)
 |_=>none
theorem RelV.abs{x:V}{u:Value}(r:RelV x u):EB u=some x:=by
 cases x with
 |non=>cases r;rfl
 |bl _=>cases r;rfl
 |int _=>obtain⟨t,rfl⟩:=r;rfl
 |str _=>obtain⟨t,rfl⟩:=r;rfl
 |byt _=>obtain⟨t,rfl⟩:=r;rfl
 |flt _=>obtain⟨t,rfl⟩:=r;rfl
 |ref _=>cases r;rfl
 |ty _=>cases r;rfl
theorem RelV.inj{x y:V}{u:Value}(r:RelV x u)(q:RelV y u):x=y:=zAi (r.abs.symm.trans q.abs)
theorem Vals.inj:∀{xs ys:List V} {us:List Value},Vals xs us->Vals ys us->xs=ys
 |_,_,_,.nil,.nil=>rfl
 |_,_,_,.cons r t,.cons r' t'=>by rw[r.inj r',Vals.inj t t']
section
variable{X:Cx}{pins:List (Addr×Obj)}{σ:St}{H:Hp}{s:Shared}{a:Addr}{xs ys:List V}
theorem SqL.of{K:PySem.W.Frag}(h:H a=some (.lst xs)):SqL K H a xs:=.inl (.inl h)
theorem SqT.of{K:PySem.W.Frag}(h:H a=some (.tup xs)):SqT K H a xs:=.inl (.inl h)
theorem Inv.list(I:Inv X pins σ H s)(h:SqL X.K H a xs):∃its:List Value,Vals xs its/\PlainL s.heap a its.toArray/\xs.length<=sizeLine:=by
 rcases h with h|⟨o,its,n,hk,hc,hd,hs,hz,r⟩
 ·obtain⟨z,its,n,r,e⟩:=h.ok I.hok
  exact⟨its,r,⟨_,n,e,rfl,rfl,rfl⟩,z⟩
 ·refine⟨its.toList,r,⟨o,n,I.kIn a o hk,hc,hd,by simpa using hs⟩,?_⟩
  have e:=r.length
  simp only[zAZ]at e
  omega
theorem Inv.tuple(I:Inv X pins σ H s)(h:SqT X.K H a xs):∃its:List Value,Vals xs its/\IsTup s.heap a its.toArray/\xs.length<=sizeLine:=by
 rcases h with h|⟨o,its,n,hk,hc,hs,hz,r⟩
 ·obtain⟨z,its,r,p⟩:=h.ok I.hok
  exact⟨its,r,p,z⟩
 ·refine⟨its.toList,r,⟨o,I.kIn a o hk,hc,n,by simpa using hs⟩,?_⟩
  have e:=r.length
  simp only[zAZ]at e
  omega
theorem Inv.list_inj(I:Inv X pins σ H s)(h:SqL X.K H a xs)(h':SqL X.K H a ys):xs=ys:=by
 obtain⟨its,r,⟨o,n,e,_,_,d⟩,_⟩:=I.list h
 obtain⟨its',r',⟨o',n',e',_,_,d'⟩,_⟩:=I.list h'
 rw[e]at e';cases e'
 rw[d]at d'
 injection d' with d1 _
 have:its=its':=by simpa using congrArg Array.toList d1
 subst this
 exact r.inj r'
theorem Inv.tuple_inj(I:Inv X pins σ H s)(h:SqT X.K H a xs)(h':SqT X.K H a ys):xs=ys:=by
 obtain⟨its,r,⟨o,e,_,n,d⟩,_⟩:=I.tuple h
 obtain⟨its',r',⟨o',e',_,n',d'⟩,_⟩:=I.tuple h'
 rw[e]at e';cases e'
 rw[d]at d'
 injection d' with d1 _
 have:its=its':=by simpa using congrArg Array.toList d1
 subst this
 exact r.inj r'
end
abbrev Cx.wish(X:Cx)(E:Value->Shared->Prop):Cx:={X with xe:=E}
abbrev Cx.nox(X:Cx):Cx:=X.wish fun _ _=>False
theorem Cx.Ok.wish{X:Cx}(ok:X.Ok)(E:Value->Shared->Prop):(X.wish E).Ok :=
 ⟨ok.mod,ok.kind,ok.glob,ok.blt,ok.above,ok.inj,ok.has,ok.cab,ok.hd,ok.frames,ok.stk,ok.exf,ok.bs,ok.bsz,ok.noex,ok.exfs,ok.funs,ok.frf⟩
theorem Cx.Ok.unwish{X:Cx}{E:Value->Shared->Prop}(ok:(X.wish E).Ok):X.Ok :=
 ⟨ok.mod,ok.kind,ok.glob,ok.blt,ok.above,ok.inj,ok.has,ok.cab,ok.hd,ok.frames,ok.stk,ok.exf,ok.bs,ok.bsz,ok.noex,ok.exfs,ok.funs,ok.frf⟩
section
variable{X:Cx}{pins:List (Addr×Obj)}{σ:St}{H:Hp}{s:Shared}{E:Value->Shared->Prop}
theorem Inv.wish(I:Inv X pins σ H s)(E:Value->Shared->Prop):Inv (X.wish E) pins σ H s:=⟨I.ok.wish E,I.os,I.bare,I.base,I.loc,I.cell,I.free,I.freeC,I.pin,I.hok,I.len⟩
theorem Inv.unwish(I:Inv (X.wish E) pins σ H s):Inv X pins σ H s:=⟨I.ok.unwish,I.os,I.bare,I.base,I.loc,I.cell,I.free,I.freeC,I.pin,I.hok,I.len⟩
end
section
variable{X:Cx}{st:Stmt}{rest:List Stmt}{t u:TS}{e:Expr}{te:TE}{pos:Pos}
theorem Inv.quiet{pins:List (Addr×Obj)}{σ:St}{H:Hp}{s:Shared}(I:Inv X pins σ H s):interactive X.env=false:=by simp[interactive,I.ok.kind]
def wM(te:TE):TS:=fun D σ H=>te σ H fun _ H1=>D.nx σ H1
theorem iQ(he:PE X e te)(hs:swapsWith e none pos.line X.env=pure false:=by rfl):PS X (.Expr e pos) (wM te):=by
 intro pins s σ H D I h
 exact wpAny_Expr_any (thn (he pins s σ H _ I h) fun v s1 ⟨x,H1,I1,r1,q1⟩=>⟨σ,H1,I1,q1⟩) I.quiet hs
end
section
variable{X:Cx}{pos:Pos}
def EV(i j:Nat)(ta:TA):TS:=fun D σ H=>ta σ H fun vs H1=>∃v w,vs=[v,w]/\D.nx ((σ.set i (some v)).set j (some w)) H1
theorem DC{i j:Nat}{x y:Str}{a b:Expr}{ta:TA}{px py pt:Pos}{kt k2 pt2}(hc:X.calm=true)(hN:X.N.Nodup)(hi:X.N[i]?=some x)(hj:X.N[j]?=some y)(hij:i≠j)
  (hx:X.env.scope.names.lookup x=some .local) (hy:X.env.scope.names.lookup y=some .local) (ha:PA X [a,b] ta)
  (hw:swappedStores [.Tuple [.Name x px,.Name y py] kt pt] (.Tuple [a,b] k2 pt2) X.env=pure (some [x,y]))
  (hs:swapsWithSole [.Tuple [.Name x px,.Name y py] kt pt] (.Tuple [a,b] k2 pt2) pos.line X.env=pure false:=by rfl) :
  PS X (.Assign [.Tuple [.Name x px,.Name y py] kt pt] (.Tuple [a,b] k2 pt2) pos) (EV i j ta):=by
 intro pins s σ H D I h
 rw[exec_Assign_arm]
 refine wpAny_bind (wpAny_standAt ?_)
 rw[hs]
 refine wpAny_bind (wpAny_pure ?_)
 rw[if_neg (by decide)]
 refine wpAny_bind (Tuple_ (thn (ha _ pins s σ H _ I h) fun us s1 ⟨vs,H1,I1,r1,q1⟩=>?_))
 obtain⟨v,w,e1,q1⟩:=q1
 subst e1
 obtain⟨u1,u2,rfl,rv,rw'⟩:∃u1 u2,us=[u1,u2]/\RelV v u1/\RelV w u2:=by
  cases r1 with
  |cons p q =>
   cases q with
   |cons p' q' =>
    cases q'
    exact⟨_,_,rfl,p,p'⟩
 refine wpAny_newObj_type ?_ (by show 2<=sizeLine;decide)
 have I2:Inv X pins σ H1 {s1 with heap:=s1.heap.push {cls:=.type "tuple", data:=.seq [u1,u2].toArray} }:=I1.kept (t':=s1.toks) fun b o e=>zAF _ e
 rw[hw]
 refine wpAny_bind (wpAny_pure ?_)
 show wpAny (model X.prog X.w) X.A (do rule "assign.swapped-stores"; let items←unpackItems (.ref s1.heap.objs.size) 2 none;assignInOrder [fun v=>bindName X.env y v,fun v=>bindName X.env x v] items.reverse;pure Flow.next) _ _ _
 refine wpAny_bind (wpAny_rule (wpAny_bind (unpackItems_tuple (items:=#[u1,u2]) (I.ok.hd hc) (IsTup.new s1.heap _) fun h' hx'=>?_)))
 have I3:=I2.kept (h':=h') (t':=s1.toks) fun b o e=>hx' b o (zAr (zAJ e)) e
 show wpAny _ _ (assignInOrder [fun v=>bindName X.env y v,fun v=>bindName X.env x v] [u2,u1] >>= fun _=>pure Flow.next) _ _ _
 refine wpAny_bind (assignInOrder_cons (wpAny_bindName (gD I3 hN hj (.inl hy) rw' (fun s2 I4=>?_) (.inr hy))))
 refine assignInOrder_cons (wpAny_bindName (gD I4 hN hi (.inl hx) rv (fun s3 I5=>assignInOrder_nil (wpAny_pure ?_)) (.inr hx)))
 rw[List.set_comm _ _ (Ne.symm hij)]at I5
 exact⟨_,H1,I5,q1⟩
end
section
variable{X:Cx}{pos:Pos}
end
structure It where
 go:Nat->Hp->Prop
 yld:Nat->Hp->V->Hp->Prop
 stop:Nat->Hp->Prop
def dI(X:Cx)(pins:List (Addr×Obj))(H:Hp)(b:Addr):Prop :=
 H b=none/\b≠X.env.locals/\b∉X.fs/\(b∈X.ex∨X.s₀.heap.objs.size<=b)/\(∀x c,X.env.cells.lookup x=some c->c≠b)/\∀p∈X.pn++pins,p.1≠b
theorem Inv.fpOk{X:Cx}{pins:List (Addr×Obj)}{σ:St}{H H':Hp}{s:Shared}{b:Addr}(I:Inv X pins σ H s)(hb:s.heap.objs.size<=b)(hn:H' b=none):dI X pins H' b:=by
 refine⟨hn,zCD (zAW I.lt hb),I.nofs hb,.inr (zAw I.sz hb),fun x c e z=>?_,fun p hp z=>?_⟩
 ·obtain⟨v,q⟩:=I.cell x c e
  exact absurd (zAW q.lt (by rw[z];exact hb)) (zBG _)
 ·exact absurd (zAW (zAJ (I.pin p hp).1) (by rw[z];exact hb)) (zBG _)
structure Turn(P:Program)(w:World)(K:PySem.W.Frag)(tg:Expr)(J:It)(fp:List Addr)(it:Addr)(tn:Nat->Heap->Prop):Prop where
 mem:it∈fp
 obj:∀i h,tn i h->∀b∈fp,∃o,h.get? b=some o/\∀v,o.data ≠ .cell v
 keep:∀i h h',tn i h->(∀b∈fp,∀o,h.get? b=some o->h'.get? b=some o)->tn i h'
 item:∀(X:Cx),X.prog=P->X.w=w->X.K=K->X.calm=true->∀(i:Nat) (pins:List (Addr×Obj)) (s:Shared) (σ:St) (H:Hp) (E:Value->Shared->Prop),Inv X pins σ H s->(∀b∈fp,dI X pins H b)->tn i s.heap->J.go i H →
  wpAny (model P w) X.A (pyNext (.ref it)) (fun r s1=>∃u,r=some u ∧
   wpAny (model P w) X.A (letOwnedTupleGo tg (.ref it) u) (fun _ s2=>∃x H',Inv X pins σ H' s2/\RelV x u/\J.yld i H x H'/\tn (i+1) s2.heap/\∀b∈fp,H' b=none) E s1) E s
 done:∀(X:Cx),X.prog=P->X.w=w->X.K=K->X.calm=true->∀(i:Nat) (pins:List (Addr×Obj)) (s:Shared) (σ:St) (H:Hp) (E:Value->Shared->Prop),Inv X pins σ H s->(∀b∈fp,dI X pins H b)->tn i s.heap->J.stop i H →
  wpAny (model P w) X.A (pyNext (.ref it)) (fun r s1=>r=none/\Inv X pins σ H s1) E s
 self:∀(A:Around) (i:Nat) (s:Shared) (Q:Value->Shared->Prop) (E:Value->Shared->Prop),tn i s.heap->Q (.ref it) s->wpAny (model P w) A (pyIter (.ref it)) Q E s
abbrev TI:=St->Hp->(It->Hp->Prop)->Prop
def PIE(X:Cx)(pins:List (Addr×Obj))(σ:St)(tg:Expr)(R:It->Hp->Prop)(itv:Value)(s2:Shared):Prop :=
 ∃ (it:Addr) (fp:List Addr) (tn:Nat->Heap->Prop) (J:It) (H':Hp),itv=.ref it/\Inv X pins σ H' s2/\Turn X.prog X.w X.K tg J fp it tn/\tn 0 s2.heap/\(∀b∈fp,dI X pins H' b)/\R J H'
def PI(X:Cx)(tg iter:Expr)(wi:TI):Prop :=
 ∀ (pins:List (Addr×Obj)) (s:Shared) (σ:St) (H:Hp) (R:It->Hp->Prop),Inv X pins σ H s->wi σ H R →
  wpAny (model X.prog X.w) X.A (eval iter X.env) (fun v s1=>wpAny (model X.prog X.w) X.A (pyIter v) (PIE X pins σ tg R) X.xe s1) X.xe s
theorem vW {M : Model} {A : Around} {E : Value -> Shared -> Prop} {s : Shared} {tg : Expr} {it : Addr} {u : Value} {o : Obj} {n : String} {vs : Array Value} {Q : Unit -> Shared -> Prop} (ho : s.heap.get? it = some o) (hc : o.cls = .type n) (hd : o.data = .fields vs)
    (hn : ["enumerate", "zip", "dict_itemiterator", "dict_reverseitemiterator", "odict_iterator", "itertools.zip_longest", "itertools.pairwise"].contains n = false) (hQ : Q () s) : wpAny M A (letOwnedTupleGo tg (.ref it) u) Q E s := by
  unfold letOwnedTupleGo
  cases tg <;> first
    | exact wpAny_pure hQ
    | (cases u <;> first
        | exact wpAny_pure hQ
        | (refine wpAny_bind (wpAny_load ho ?_)
           rw [hc, hd]
           show wpAny M A (if (["enumerate", "zip", "dict_itemiterator", "dict_reverseitemiterator", "odict_iterator", "itertools.zip_longest", "itertools.pairwise"].contains n && vs[0]? == some (rawInt _)) = true then _ else _) Q E s
           rw [if_neg (by intro h; rw [hn, Bool.false_and] at h; cases h)]
           exact wpAny_pure hQ))
def Itl(K:PySem.W.Frag)(a:Addr):It :=
 ⟨fun i H=>∃xs x,SqL K H a xs/\xs[i]?=some x,fun i H x H'=>H'=H/\∀xs,SqL K H a xs->xs[i]?=some x,fun i H=>∃xs,SqL K H a xs/\xs.length<=i⟩
def Itt(K:PySem.W.Frag)(a:Addr):It :=
 ⟨fun i H=>∃xs x,SqT K H a xs/\xs[i]?=some x,fun i H x H'=>H'=H/\∀xs,SqT K H a xs->xs[i]?=some x,fun i H=>∃xs,SqT K H a xs/\xs.length<=i⟩
theorem yx{P:Program}{w:World}{K:PySem.W.Frag}{tg:Expr}(a it:Addr):Turn P w K tg (Itl K a) [it] it (fun i h=>h.IsListIter it a i) where
 mem:=by simp
 obj:=fun i h st b hb=>by
  have e:b=it:=by simpa using hb
  subst e
  obtain⟨o,e,c,d⟩:=st
  exact⟨o,e,fun v z=>by rw[d]at z;cases z⟩
 keep:=fun i h h' st k=>st.at fun o e=>k it (by simp) o e
 item:=by
  intro X hP hw hK hc i pins s σ H E I hf st hg
  subst hP hw hK
  obtain⟨xs,x,hq,hx⟩:=hg
  obtain⟨its,rv,p,hz⟩:=I.list hq
  obtain⟨u,hu,ru⟩:=rv.get hx
  obtain⟨f0,f1,f2,f3,f4,f5⟩:=hf it (by simp)
  refine wpAny_pyNext_list_item st p.isList (x:=u) (by simpa using hu) fun h' st' sb=>?_
  have I1:Inv X pins σ H {s with heap:=h'}:=I.turned (t':=s.toks) (fun b o hb e=>(sb.2 b hb).trans e) f0 f1 f3 f4 f5
  obtain⟨o,e,c,d⟩:=id st'
  exact⟨u,rfl,vW (s:={s with heap:=h'}) e c d (by decide) ⟨x,H,I1,ru,⟨rfl,fun ys hy=>by rw[I.list_inj hy hq];exact hx⟩,st',fun b hb=>(hf b hb).1⟩⟩
 done:=by
  intro X hP hw hK hc i pins s σ H E I hf st hg
  subst hP hw hK
  obtain⟨xs,hq,hx⟩:=hg
  obtain⟨its,rv,p,hz⟩:=I.list hq
  obtain⟨f0,f1,f2,f3,f4,f5⟩:=hf it (by simp)
  have hl:=rv.length
  exact wpAny_pyNext_list_end (I.ok.hd hc) st p.isList (by simp;omega) fun h' eb=>⟨rfl,I.turned (t':=s.toks) (fun b o hb e=>eb b o hb e) f0 f1 f3 f4 f5⟩
 self:=fun _ _ _ _ _ st h=>wpAny_pyIter_listiter st h
theorem wQ{P:Program}{w:World}{K:PySem.W.Frag}{tg:Expr}(a it:Addr):Turn P w K tg (Itt K a) [it] it (fun i h=>h.IsTupleIter it a i) where
 mem:=by simp
 obj:=fun i h st b hb=>by
  have e:b=it:=by simpa using hb
  subst e
  obtain⟨o,e,c,d⟩:=st
  exact⟨o,e,fun v z=>by rw[d]at z;cases z⟩
 keep:=fun i h h' st k=>st.at fun o e=>k it (by simp) o e
 item:=by
  intro X hP hw hK hc i pins s σ H E I hf st hg
  subst hP hw hK
  obtain⟨xs,x,hq,hx⟩:=hg
  obtain⟨its,rv,p,hz⟩:=I.tuple hq
  obtain⟨u,hu,ru⟩:=rv.get hx
  obtain⟨f0,f1,f2,f3,f4,f5⟩:=hf it (by simp)
  refine wpAny_pyNext_tuple_item st (show s.heap.IsTuple a its.toArray from p) (x:=u) (by simpa using hu) fun h' st' sb=>?_
  have I1:Inv X pins σ H {s with heap:=h'}:=I.turned (t':=s.toks) (fun b o hb e=>(sb.2 b hb).trans e) f0 f1 f3 f4 f5
  obtain⟨o,e,c,d⟩:=id st'
  exact⟨u,rfl,vW (s:={s with heap:=h'}) e c d (by decide) ⟨x,H,I1,ru,⟨rfl,fun ys hy=>by rw[I.tuple_inj hy hq];exact hx⟩,st',fun b hb=>(hf b hb).1⟩⟩
 done:=by
  intro X hP hw hK hc i pins s σ H E I hf st hg
  subst hP hw hK
  obtain⟨xs,hq,hx⟩:=hg
  obtain⟨its,rv,p,hz⟩:=I.tuple hq
  obtain⟨f0,f1,f2,f3,f4,f5⟩:=hf it (by simp)
  have hl:=rv.length
  exact wpAny_pyNext_tuple_end (I.ok.hd hc) st (show s.heap.IsTuple a its.toArray from p) (by simp;omega) fun h' eb=>⟨rfl,I.turned (t':=s.toks) (fun b o hb e=>eb b o hb e) f0 f1 f3 f4 f5⟩
 self:=fun _ _ _ _ _ st h=>wpAny_pyIter_tupleiter st h
end L2
namespace L2
open PySem PySem.Spec PyProof.Rows
section
variable{X:Cx}{tg:Expr}
def Ec(K:PySem.W.Frag)(tl:TE):TI:=fun σ H R=>tl σ H fun x H1=>∃a,x=.ref a/\(∃xs,SqL K H1 a xs)/\R (Itl K a) H1
def EG(K:PySem.W.Frag)(tl:TE):TI:=fun σ H R=>tl σ H fun x H1=>∃a,x=.ref a/\(∃xs,SqT K H1 a xs)/\R (Itt K a) H1
theorem BN{l:Expr}{tl:TE}(hl:PE X l tl):PI X tg l (Ec X.K tl):=by
 intro pins s σ H R I h
 refine thn (hl pins s σ H _ I h) fun v s1 ⟨x,H1,I1,r1,q1⟩=>?_
 obtain⟨a,e,⟨xs,hq⟩,q⟩:=q1
 subst e
 cases r1
 obtain⟨its,rv,p,hz⟩:=I1.list hq
 refine wpAny_pyIter_list p.isList ?_
 refine⟨s1.heap.objs.size,[s1.heap.objs.size],_,_,H1,rfl,I1.kept (t':=s1.toks) fun b o e=>zAF _ e,yx a _,⟨_,zAU _ rfl,rfl,rfl⟩,fun b hb=>?_,q⟩
 have e:b=s1.heap.objs.size:=by simpa using hb
 subst e
 exact I1.fpOk (zAM _) (I1.hok.fresh (zAM _))
theorem Dw{l:Expr}{tl:TE}(hl:PE X l tl):PI X tg l (EG X.K tl):=by
 intro pins s σ H R I h
 refine thn (hl pins s σ H _ I h) fun v s1 ⟨x,H1,I1,r1,q1⟩=>?_
 obtain⟨a,e,⟨xs,hq⟩,q⟩:=q1
 subst e
 cases r1
 obtain⟨its,rv,p,hz⟩:=I1.tuple hq
 refine wpAny_pyIter_tuple (show s1.heap.IsTuple a its.toArray from p) ?_
 refine⟨s1.heap.objs.size,[s1.heap.objs.size],_,_,H1,rfl,I1.kept (t':=s1.toks) fun b o e=>zAF _ e,wQ a _,⟨_,zAU _ rfl,rfl,rfl⟩,fun b hb=>?_,q⟩
 have e:b=s1.heap.objs.size:=by simpa using hb
 subst e
 exact I1.fpOk (zAM _) (I1.hok.fresh (zAM _))
def lx(fp:List Addr)(h:Heap):List (Addr×Obj):=fp.filterMap fun b=>(h.get? b).map fun o=>(b,o)
theorem eG{fp:List Addr}{h:Heap}{b:Addr}{o:Obj}(hb:b∈fp)(e:h.get? b=some o):(b,o)∈lx fp h:=zCU.mpr ⟨b,hb,by rw[e];rfl⟩
theorem xH{fp:List Addr}{h:Heap}{p:Addr×Obj}(hp:p∈lx fp h):p.1∈fp/\h.get? p.1=some p.2:=by
 obtain⟨b,hb,e⟩:=zCU.mp hp
 cases q:h.get? b with
 |none=>rw[q]at e;cases e
 |some o =>
  rw[q]at e
  have e':(b,o)=p:=zAi e
  subst e'
  exact⟨hb,q⟩
theorem Inv.pinned{pins:List (Addr×Obj)}{σ:St}{H:Hp}{s:Shared}{fp:List Addr}(I:Inv X pins σ H s)(hf:∀b∈fp,dI X pins H b)(ho:∀b∈fp,∃o,s.heap.get? b=some o/\∀v,o.data ≠ .cell v):Inv X (pins++lx fp s.heap) σ H s :=
 I.pins_of fun p hp=>(zAI.mp hp).elim (fun z=>I.pin p (zAR _ z)) fun z=>by
  obtain⟨hb,e⟩:=xH z
  obtain⟨f0,f1,f2,_⟩:=hf p.1 hb
  obtain⟨o,e',d⟩:=ho p.1 hb
  rw[e]at e';cases e'
  exact⟨e,f0,f1,f2,d⟩
theorem Inv.unpinned{pins pl:List (Addr×Obj)}{σ:St}{H:Hp}{s:Shared}(I:Inv X (pins++pl) σ H s):Inv X pins σ H s:=I.pins_of fun p hp=>I.pin p (zAR _ (zAu _ hp))
end
end L2
namespace L2
open PySem PySem.Spec PyProof.Rows
abbrev R2:=V->V->Hp->VK->Prop
def OpR(X:Cx)(f:Value->Value->Sem Value)(r:R2):Prop :=
 ∀ (pins:List (Addr×Obj)) (s:Shared) (σ:St) (H:Hp) (x y:V) (v u:Value) (Q:VK),Inv X pins σ H s->RelV x v->RelV y u->r x y H Q →
  wpAny (model X.prog X.w) X.A (f v u) (EP X pins σ Q) X.xe s
def UnR(X:Cx)(f:Value->Sem Value)(r:V->Hp->VK->Prop):Prop :=
 ∀ (pins:List (Addr×Obj)) (s:Shared) (σ:St) (H:Hp) (x:V) (v:Value) (Q:VK),Inv X pins σ H s->RelV x v->r x H Q →
  wpAny (model X.prog X.w) X.A (f v) (EP X pins σ Q) X.xe s
def lS(X:Cx)(f:Value)(r:List V->Hp->VK->Prop):Prop :=
 ∀ (pins:List (Addr×Obj)) (s:Shared) (σ:St) (H:Hp) (xs:List V) (us:List Value) (Q:VK),Inv X pins σ H s->Vals xs us->r xs H Q →
  wpAny (model X.prog X.w) X.A (call f us) (EP X pins σ Q) X.xe s
def tOp(r:R2)(ta tb:TE):TE:=fun σ H Q=>ta σ H fun x H1=>tb σ H1 fun y H2=>r x y H2 Q
def rI(C:Int->Int->Prop)(g:Int->Int->V):R2:=fun x y H Q=>∃i j,x=.int i/\y=.int j/\C i j/\Q (g i j) H
def rI0(g:Int->Int->V):R2:=fun x y H Q=>∃i j,x=.int i/\y=.int j/\Q (g i j) H
def rU(g:Int->V):V->Hp->VK->Prop:=fun x H Q=>∃i,x=.int i/\Q (g i) H
section
variable{X:Cx}{a b c:Expr}{ta tb tc:TE}{pos:Pos}
theorem EE(ha:PE X a ta)(hb:PE X b tb){pins:List (Addr×Obj)}{s:Shared}{σ:St}{H:Hp}{R:V->V->Hp->Prop}(I:Inv X pins σ H s)
  (h:ta σ H fun x H1=>tb σ H1 fun y H2=>R x y H2) {Q:Value->Shared->Prop} {f:Value->Value->Sem Value}
  (hf:∀v u s2 x y H2,Inv X pins σ H2 s2->RelV x v->RelV y u->R x y H2->wpAny (model X.prog X.w) X.A (f v u) Q X.xe s2) :
  wpAny (model X.prog X.w) X.A (eval a X.env) (fun v s₁=>wpAny (model X.prog X.w) X.A (eval b X.env) (fun u s₂=>wpAny (model X.prog X.w) X.A (f v u) Q X.xe s₂) X.xe s₁) X.xe s:=by
 refine thn (ha pins s σ H _ I h) fun v s1 ⟨x,H1,I1,r1,q1⟩=>?_
 refine thn (hb pins s1 σ H1 _ I1 q1) fun u s2 ⟨y,H2,I2,r2,q2⟩=>?_
 exact hf v u s2 x y H2 I2 r1 r2 q2
theorem opI{f:Value->Value->Sem Value}{C:Int->Int->Prop}{g:Int->Int->Int}
  (rule:∀(i j:Int) (t u:Tok) (s:Shared) (Q:Value->Shared->Prop) (E:Value->Shared->Prop),C i j->Q (.int (g i j) s.toks) {s with toks:=s.toks+1}->wpAny (model X.prog X.w) X.A (f (.int i t) (.int j u)) Q E s) :
  OpR X f (rI C fun i j=>.int (g i j)):=by
 intro pins s σ H x y v u Q I rx ry h
 obtain⟨i,j,rfl,rfl,hc,q⟩:=h
 obtain⟨t,rfl⟩:=rx
 obtain⟨t',rfl⟩:=ry
 exact rule i j t t' s _ _ hc ⟨.int (g i j),H,I.tok _,⟨_,rfl⟩,q⟩
theorem Dp{f:Value->Value->Sem Value}{g:Int->Int->Int}
  (rule:∀(i j:Int) (t u:Tok) (s:Shared) (Q:Value->Shared->Prop) (E:Value->Shared->Prop),Q (.int (g i j) s.toks) {s with toks:=s.toks+1}->wpAny (model X.prog X.w) X.A (f (.int i t) (.int j u)) Q E s) :
  OpR X f (rI0 fun i j=>.int (g i j)):=by
 intro pins s σ H x y v u Q I rx ry h
 obtain⟨i,j,rfl,rfl,q⟩:=h
 obtain⟨t,rfl⟩:=rx
 obtain⟨t',rfl⟩:=ry
 exact rule i j t t' s _ _ ⟨.int (g i j),H,I.tok _,⟨_,rfl⟩,q⟩
theorem wy{f:Value->Value->Sem Value}{g:Int->Int->Bool}
  (rule:∀(i j:Int) (t u:Tok) (s:Shared) (Q:Value->Shared->Prop) (E:Value->Shared->Prop),Q (.bool (g i j)) s->wpAny (model X.prog X.w) X.A (f (.int i t) (.int j u)) Q E s) :
  OpR X f (rI0 fun i j=>.bl (g i j)):=by
 intro pins s σ H x y v u Q I rx ry h
 obtain⟨i,j,rfl,rfl,q⟩:=h
 obtain⟨t,rfl⟩:=rx
 obtain⟨t',rfl⟩:=ry
 exact rule i j t t' s _ _ ⟨.bl (g i j),H,I,rfl,q⟩
def yF(i j:Int):Prop:=0<=j/\j<=1000000/\i.natAbs<2 ^ 64
theorem Dq:OpR X (binaryOp .Add) (rI0 fun i j=>.int (i+j)):=Dp fun _ _ _ _ _ _ _ q=>add_int q
theorem Ds:OpR X (binaryOp .Sub) (rI0 fun i j=>.int (i - j)):=Dp fun _ _ _ _ _ _ _ q=>sub_int q
theorem BI:OpR X (binaryOp .Mod) (rI (fun _ j=>j≠0) fun i j=>.int (i.fmod j)):=opI fun _ _ _ _ _ _ _ hc q=>mod_int' hc q
theorem Dr:OpR X (binaryOp .Pow) (rI yF fun i j=>.int (i ^ j.toNat)):=opI fun _ _ _ _ _ _ _ hc q=>pow_int_small hc.1 hc.2.1 hc.2.2 q
theorem unI{f:Value->Sem Value}{g:Int->Int}
  (rule:∀(i:Int) (t:Tok) (s:Shared) (Q:Value->Shared->Prop) (E:Value->Shared->Prop),Q (.int (g i) s.toks) {s with toks:=s.toks+1}->wpAny (model X.prog X.w) X.A (f (.int i t)) Q E s) :
  UnR X f (rU fun i=>.int (g i)):=by
 intro pins s σ H x v Q I rx h
 obtain⟨i,rfl,q⟩:=h
 obtain⟨t,rfl⟩:=rx
 exact rule i t s _ _ ⟨.int (g i),H,I.tok _,⟨_,rfl⟩,q⟩
theorem DX:UnR X (unaryOp .USub) (rU fun i=>.int (-i)):=unI fun _ _ _ _ _ q=>neg_int q
end
def tK:V->V->Bool
 |.non,.non=>true|.non,.int _=>true|.int _,.non=>true|.non,.bl _=>true|.bl _,.non=>true|.non,.str _=>true|.str _,.non=>true
 |.int _,.int _=>true|.bl _,.bl _=>true|.str _,.str _=>true|.byt _,.byt _=>true
 |.int _,.str _=>true|.str _,.int _=>true|.bl _,.str _=>true|.str _,.bl _=>true
 |_,_=>false
def rEq:R2:=fun x y H Q=>tK x y=true/\Q (.bl (decide (x=y))) H
def rNe:R2:=fun x y H Q=>tK x y=true/\Q (.bl (!decide (x=y))) H
theorem lW{i j:Int}:decide (V.int i=V.int j)=(i==j):=by
 rw[zCR]
 simp
theorem xj{i j:Bool}:decide (V.bl i=V.bl j)=(i==j):=by
 rw[zCR]
 simp
theorem ur{i j:Str}:decide (V.str i=V.str j)=(i==j):=by
 rw[zCR]
 simp
theorem uq{i j:Array UInt8}:decide (V.byt i=V.byt j)=(i.toList==j.toList):=by
 rw[zCR]
 cases i
 cases j
 simp
section
variable{X:Cx}{a b c:Expr}{ta tb tc:TE}{pos:Pos}
theorem aW{pins:List (Addr×Obj)}{σ:St}{H:Hp}{s:Shared}{Q:VK}{k k':Bool}(I:Inv X pins σ H s)(q:Q (.bl k) H)(e:k=k'):EP X pins σ Q (.bool k') s:=by
 subst e
 exact⟨.bl k,H,I,rfl,q⟩
theorem Ei:OpR X (compareOp .Eq) rEq:=by
 intro pins s σ H x y v u Q I rx ry h
 obtain⟨hs,q⟩:=h
 cases x with
 |non =>
  cases rx
  cases y with
  |non=>cases ry;exact PySem.EqNone.eq_none_none (aW I q (by simp))
  |bl j=>cases ry;exact PySem.EqNone.eq_none_bool (aW I q (by simp))
  |int j=>obtain⟨t',rfl⟩:=ry;exact PySem.EqNone.eq_none_int (aW I q (by simp))
  |str j=>obtain⟨t',rfl⟩:=ry;exact PySem.EqNone.eq_none_str (aW I q (by simp))
  |_=>exact absurd (show false=true from hs) zAh
 |bl i =>
  cases rx
  cases y with
  |non=>cases ry;exact PySem.EqNone.eq_bool_none (aW I q (by simp))
  |bl j=>cases ry;exact eq_bool (aW I q xj)
  |str j=>obtain⟨t',rfl⟩:=ry;exact PySem.EqMixed.eq_bool_str (aW I q (by simp))
  |_=>exact absurd (show false=true from hs) zAh
 |int i =>
  obtain⟨t,rfl⟩:=rx
  cases y with
  |non=>cases ry;exact PySem.EqNone.eq_int_none (aW I q (by simp))
  |int j=>obtain⟨t',rfl⟩:=ry;exact eq_int (aW I q lW)
  |str j=>obtain⟨t',rfl⟩:=ry;exact PySem.EqMixed.eq_int_str (aW I q (by simp))
  |_=>exact absurd (show false=true from hs) zAh
 |str i =>
  obtain⟨t,rfl⟩:=rx
  cases y with
  |non=>cases ry;exact PySem.EqNone.eq_str_none (aW I q (by simp))
  |bl j=>cases ry;exact PySem.EqMixed.eq_str_bool (aW I q (by simp))
  |int j=>obtain⟨t',rfl⟩:=ry;exact PySem.EqMixed.eq_str_int (aW I q (by simp))
  |str j=>obtain⟨t',rfl⟩:=ry;exact eq_str (aW I q ur)
  |_=>exact absurd (show false=true from hs) zAh
 |byt i =>
  obtain⟨t,rfl⟩:=rx
  cases y with
  |byt j=>obtain⟨t',rfl⟩:=ry;exact PySem.W.eq_bytes (aW I q uq)
  |_=>exact absurd (show false=true from hs) zAh
 |_=>cases y<;>exact absurd (show false=true from hs) zAh
theorem En:OpR X (compareOp .NotEq) rNe:=by
 intro pins s σ H x y v u Q I rx ry h
 obtain⟨hs,q⟩:=h
 cases x with
 |non =>
  cases rx
  cases y with
  |non=>cases ry;exact PySem.EqNone.ne_none_none (aW I q (by simp))
  |bl j=>cases ry;exact PySem.EqNone.ne_none_bool (aW I q (by simp))
  |int j=>obtain⟨t',rfl⟩:=ry;exact PySem.EqNone.ne_none_int (aW I q (by simp))
  |str j=>obtain⟨t',rfl⟩:=ry;exact PySem.EqNone.ne_none_str (aW I q (by simp))
  |_=>exact absurd (show false=true from hs) zAh
 |bl i =>
  cases rx
  cases y with
  |non=>cases ry;exact PySem.EqNone.ne_bool_none (aW I q (by simp))
  |bl j=>cases ry;exact ne_bool (aW I q (congrArg not xj))
  |str j=>obtain⟨t',rfl⟩:=ry;exact PySem.EqMixed.ne_bool_str (aW I q (by simp))
  |_=>exact absurd (show false=true from hs) zAh
 |int i =>
  obtain⟨t,rfl⟩:=rx
  cases y with
  |non=>cases ry;exact PySem.EqNone.ne_int_none (aW I q (by simp))
  |int j=>obtain⟨t',rfl⟩:=ry;exact ne_int (aW I q (congrArg not lW))
  |str j=>obtain⟨t',rfl⟩:=ry;exact PySem.EqMixed.ne_int_str (aW I q (by simp))
  |_=>exact absurd (show false=true from hs) zAh
 |str i =>
  obtain⟨t,rfl⟩:=rx
  cases y with
  |non=>cases ry;exact PySem.EqNone.ne_str_none (aW I q (by simp))
  |bl j=>cases ry;exact PySem.EqMixed.ne_str_bool (aW I q (by simp))
  |int j=>obtain⟨t',rfl⟩:=ry;exact PySem.EqMixed.ne_str_int (aW I q (by simp))
  |str j=>obtain⟨t',rfl⟩:=ry;exact ne_str (aW I q (congrArg not ur))
  |_=>exact absurd (show false=true from hs) zAh
 |byt i =>
  obtain⟨t,rfl⟩:=rx
  cases y with
  |byt j=>obtain⟨t',rfl⟩:=ry;exact PySem.W.ne_bytes (aW I q (congrArg not uq))
  |_=>exact absurd (show false=true from hs) zAh
 |_=>cases y<;>exact absurd (show false=true from hs) zAh
theorem Em:OpR X (compareOp .Lt) (rI0 fun i j=>.bl (decide (i<j))):=wy fun _ _ _ _ _ _ _ q=>lt_int q
theorem El:OpR X (compareOp .LtE) (rI0 fun i j=>.bl (decide (i<=j))):=wy fun _ _ _ _ _ _ _ q=>le_int q
theorem Ek:OpR X (compareOp .Gt) (rI0 fun i j=>.bl (decide (j<i))):=wy fun _ _ _ _ _ _ _ q=>gt_int q
theorem Ej:OpR X (compareOp .GtE) (rI0 fun i j=>.bl (decide (j<=i))):=wy fun _ _ _ _ _ _ _ q=>ge_int q
theorem BK:OpR X (compareOp .IsNot) (fun x y H Q=>y=.non/\Q (.bl (!decide (x=.non))) H):=by
 intro pins s σ H x y v u Q I rx ry h
 obtain⟨rfl,q⟩:=h
 cases ry
 refine isnot_none_gen (aW I q ?_)
 cases x<;>first
  |(cases rx;rfl)
  |(obtain⟨t,rfl⟩:=rx;rfl)
theorem sJ:(sizeLine:Nat)<2 ^ 63:=by rw[sizeLine_eq];decide
theorem vals1{x:V}{us:List Value}(r:Vals [x] us):∃u,us=[u]/\RelV x u:=by
 cases r with
 |cons r1 r2=>cases r2;exact⟨_,rfl,r1⟩
theorem vals2{x y:V}{us:List Value}(r:Vals [x,y] us):∃u w',us=[u,w']/\RelV x u/\RelV y w':=by
 cases r with
 |cons r1 r2 =>
  cases r2 with
  |cons r3 r4=>cases r4;exact⟨_,_,rfl,r1,r3⟩
theorem yR:lS X (.builtin "abs") (fun xs H Q=>∃i,xs=[.int i]/\Q (.int (if i<0 then -i else i)) H):=by
 intro pins s σ H xs us Q I r h
 obtain⟨i,rfl,q⟩:=h
 obtain⟨u,rfl,t,rfl⟩:=vals1 r
 exact call_abs_int fun u tk=>⟨.int (if i<0 then -i else i),H,I.tok _,⟨_,rfl⟩,q⟩
theorem w7 (hc:X.calm=true):lS X (.builtin "max") (fun xs H Q=>∃i j,xs=[.int i,.int j]/\Q (.int (if j > i then j else i)) H):=by
 intro pins s σ H xs us Q I r h
 obtain⟨i,j,rfl,q⟩:=h
 obtain⟨u,w',rfl,⟨t,rfl⟩,⟨t',rfl⟩⟩:=vals2 r
 refine max_two_ints (I.ok.hd hc) fun h' tk k=>⟨_,H,I.kept k,?_,q⟩
 by_cases hj:j > i
 ·rw[if_pos hj,if_pos hj];exact⟨_,rfl⟩
 ·rw[if_neg hj,if_neg hj];exact⟨_,rfl⟩
end
end L2
namespace L2
open PySem PySem.Spec PyProof.Rows
structure yG(h:Heap)(x dx C:Addr)(mA:Str->Option Value):Prop where
 obj:h.get? x=some (PySem.W.instObj C dx)
 ns:h.Ns1 dx mA
 ne:dx≠x
theorem xD{h:Heap}{dx:Addr}{mA:Str->Option Value}(n:h.Ns1 dx mA):∃od,h.get? dx=some od/\∀name,PySem.W.lookIn name od=some (mA name):=by
 obtain⟨o,es,ep,ho,hd,hk,_,hm⟩:=n
 refine⟨o,ho,fun name=>?_⟩
 have e:=hm name
 unfold nsFind findBy at e
 rw[<- Array.find?_toList]at e
 unfold PySem.W.lookIn
 rw[hd]
 dsimp only
 split
 ·rename_i y q
  rw[q]at e
  exact congrArg some e
 ·rename_i q
  rw[q]at e
  have a:es.toList.any (·.refKey)=false:=by
   rw[List.any_eq_false]
   intro y hy
   obtain⟨z,t,hkey⟩:=hk y (Array.mem_toList_iff.mp hy)
   simp[DictEntry.refKey,hkey]
  have a':¬es.toList.any (·.refKey)=true:=by rw[a];exact zAh
  rw[if_neg a']
  exact congrArg some e
theorem yG.look{h:Heap}{x dx C:Addr}{mA:Str->Option Value}(I:yG h x dx C mA):∃od,PySem.W.InstAt h x (PySem.W.instObj C dx) C (some od)/\∀name,PySem.W.lookIn name od=some (mA name) :=
 let ⟨od,ho,hl⟩:=xD I.ns
 ⟨od,⟨I.obj,rfl,rfl,ho⟩,hl⟩
section
variable{prog:Program}{w:World}{A:Around}{E:Value->Shared->Prop}{s:Shared}{K:PySem.W.Frag}{x dx C f:Addr}{mA:Str->Option Value}{name:Str}{v:Value}
end
section
variable{P:Program}{w:World}{H H':Hp}{h h':Heap}{a C dx:Addr}{fs fs':List (Str×V)}
end
structure Cls(K:PySem.W.Frag)(C:Addr):Prop where
 pg:PySem.W.plainGet K C Str.empty=true
 hd:PySem.W.hasDictIn K C=true
 po:PySem.W.plainOver K C=true
 sa:PySem.W.findIn K (.ref C) "__setattr__" = some (some (.builtin "object.__setattr__"))
structure Con(K:PySem.W.Frag)(C:Addr)(f:Str)(v:V)(u:Value):Prop where
 at_:PySem.W.findIn K (.ref C) f=some (some u)
 rel:RelV v u
 get:PySem.W.specialIn K u "__get__" = some none
 cp:PySem.W.copiedNames.contains f=false
structure Meth(K:PySem.W.Frag)(C:Addr)(m:Str)(f:Addr):Prop where
 at_:PySem.W.findIn K (.ref C) m=some (some (.ref f))
 fn:PySem.W.isFn K (.ref f)=true
 kp:PySem.W.keepIn K (.ref f)=true
section
variable{X:Cx}{pins:List (Addr×Obj)}{σ:St}{H:Hp}{s:Shared}{a C dx:Addr}{fs:List (Str×V)}{f:Str}{v:V}{A:Around}{E:Value->Shared->Prop}
end
section
variable{X:Cx}{o e value:Expr}{f:Str}{pos pos' tpos:Pos}{ta tv:TE}
end
section
variable{X:Cx}{pins:List (Addr×Obj)}{σ:St}{H:Hp}{s:Shared}{A:Around}{E:Value->Shared->Prop}{Q:Value->Shared->Prop}{c:Value}{b:Bool}
inductive iT (K : PySem.W.Frag) (H : Hp) : V -> Value -> Prop where
 | non : iT K H .non (.type "NoneType")
 | bl (x : Bool) : iT K H (.bl x) (.type "bool")
 | int (i : Int) : iT K H (.int i) (.type "int")
 | str (x : Str) : iT K H (.str x) (.type "str")
 | flt (x : UInt64) : iT K H (.flt x) (.type "float")
 | lst {a : Addr} {xs : List V} (e : H a = some (.lst xs)) : iT K H (.ref a) (.type "list")
 | frz {a : Addr} {o : Obj} {xs : List V} (e : H a = some (.frz o (.lst xs))) : iT K H (.ref a) (.type "list")
 | tup {a : Addr} {xs : List V} (e : H a = some (.tup xs)) : iT K H (.ref a) (.type "tuple")
 | dK {a : Addr} {kvs : List (Key × V)} (e : H a = some (.dK kvs)) : iT K H (.ref a) (.type "dict")
 | dT {a : Addr} {kvs : List (List Key × V)} (e : H a = some (.dT kvs)) : iT K H (.ref a) (.type "dict")
 | ins {a C dx : Addr} {fs : List (Str × V)} (e : H a = some (.ins C dx fs)) (cl : Cls K C) (ha : PySem.W.findIn K (.ref C) "__class__" = some (some (.builtin "object.__class__")))
   (hn : PySem.W.specialIn K (.builtin "object.__class__") "__get__" = some (some (.builtin "getset_descriptor.__get__"))) (htk : PySem.W.takesIn K (.builtin "object.__class__") = some true)
   (hm : PySem.W.mroIn K C (.type "object") = some true) : iT K H (.ref a) (.ref C)
end
end L2
namespace L2
open PySem PySem.Spec PyProof.Rows
structure bX(k:Nat)(A:Around):Prop where
 hd:A.handled=none
 dp:A.depth+3*k+5<recursionLimit
 un:A.units+16*k+200<cLine
theorem bX.mono{j k:Nat}{A:Around}(r:bX k A)(h:j<=k):bX j A:=⟨r.hd,by have:=r.dp;omega,by have:=r.un;omega⟩
theorem bX.deeper{k:Nat}{A:Around}(r:bX (k+1) A)(env:Env):bX k (A.deeper env) :=
 ⟨r.hd,by have:=r.dp;show A.depth+1+3*k+5<_;omega,by have:=r.un;show A.units+3+16*k+200<_;omega⟩
theorem bX.depth{k:Nat}{A:Around}(r:bX k A):A.depth<recursionLimit:=by have:=r.dp;omega
theorem bX.units{k:Nat}{A:Around}(r:bX k A):A.units+64<cLine:=by have:=r.un;omega
def wN:TA:=fun _ H Q=>Q [] H
def oH(ta:TE)(tr:TA):TA:=fun σ H Q=>ta σ H fun x H1=>tr σ H1 fun xs H2=>Q (x::xs) H2
section
variable{X:Cx}{e:Expr}{es:List Expr}{te:TE}{t:TA}{pos:Pos}
theorem i6:PA X [] wN:=fun _ _ _ _ H Q I h=>Calls.spliced_nil ⟨[],H,I,.nil,h⟩
theorem fz(ha:PE X e te)(hr:PA X es t)(hs:starEach (e::es) X.env=(false,eval e X.env)::starEach es X.env:=by rfl):PA X (e::es) (oH te t):=by
 intro pos pins s σ H Q I h
 rw[hs]
 show wpAny _ _ (spliced ((false,eval e X.env)::backTo pos (starEach es X.env))) _ _ s
 refine Calls.spliced_cons (thn (ha pins s σ H _ I h) fun u s1 ⟨x,H1,I1,r1,q1⟩=>?_)
 exact thn (hr pos pins s1 σ H1 _ I1 q1) fun us s2 ⟨xs,H2,I2,r2,q2⟩=>⟨x::xs,H2,I2,.cons r1 r2,q2⟩
end
abbrev Sp:=List V->Hp->VK->XK->Prop
abbrev CXT:=List Env->Hp->Shared->XK->Value->Shared->Prop
structure vi(P:Program)(w:World)(K:PySem.W.Frag)(mg:Str->Option Value)(base:Heap)(A:Around)(outer:List Env)(s:Shared)(H:Hp):Prop where
 frames:A.frames=some outer
 mod:Mod K mg base
 bs:∀b o,base.get? b=some o->s.heap.get? b=some o/\H b=none
 bsz:base.objs.size<=s.heap.objs.size
 funs:s.heap.FunFrames base outer
 frf:∀b∈frs outer,H b=none
 hok:HOk P w H s.heap
 bare:AllBare s.gens
def CE(outer:List Env)(P:Program)(w:World)(H:Hp)(s:Shared)(Q:VK)(u:Value)(s':Shared):Prop :=
 ∃ v H',s'.os=s.os/\AllBare s'.gens/\Un (frs outer) [] H H' s.heap s'.heap/\HOk P w H' s'.heap/\RelV v u/\Q v H'
def CR(CX:CXT)(outer:List Env)(P:Program)(w:World)(H:Hp)(s:Shared)(Q:VK)(E:XK)(r:Result)(s':Shared):Prop :=
 match r with
 |.ok (.ret u)=>CE outer P w H s Q u s'
 |.ok _=>False
 |.error e=>CX outer H s E e s'
structure aS(P:Program)(w:World)(K:PySem.W.Frag)(mg:Str->Option Value)(base:Heap)(CX:CXT)(k:Nat)(f:Addr)(fd:FuncData)(ps:List Str)(sp:Sp):Prop where
 len:∀vs H Q E,sp vs H Q E->vs.length=ps.length
 run:∀(A:Around) (outer:List Env) (s:Shared) (H:Hp) (args:Args) (us:List Value) (vs:List V) (Q:VK) (E:XK),bX k A->vi P w K mg base A outer s H->BindsTo s fd args (ps.zip us)->Vals vs us->sp vs H Q E →
  codeAny (model P w) A (.call (.ref f) args) (CR CX outer P w H s Q E) s
section
variable{X:Cx}{pins:List (Addr×Obj)}{σ:St}{H:Hp}{s s':Shared}
theorem Inv.env0(I:Inv X pins σ H s):vi X.prog X.w X.K X.mg X.base X.A X.stack s H :=
 ⟨I.ok.frames,I.ok.mod,I.bs,zAw I.ok.bsz I.sz,I.stack,I.stkFree,I.hok,I.bare⟩
theorem Inv.after{Q:VK}{u:Value}(I:Inv X pins σ H s)(h:CE X.stack X.prog X.w H s Q u s'):EP X pins σ Q u s':=by
 obtain⟨v,H',os,bare,un,hok,r,q⟩:=h
 obtain⟨hh,g,d,t,os'⟩:=s'
 obtain rfl:os'=s.os:=os
 exact⟨v,H',I.call (h':=hh) (g':=g) (d':=d) (t':=t) (ch:=[]) un hok bare (fun b z=>absurd z (by simp)),r,q⟩
end
def Binds(K:PySem.W.Frag)(fd:FuncData)(ps:List Str)(ds:List Value):Prop :=
 ∀ (s:Shared) (us:List Value),K.In s.heap->(us++ds).length=ps.length->BindsTo s fd ⟨us,[]⟩ (ps.zip (us++ds))
theorem Binds.all{K:PySem.W.Frag}{fd:FuncData}{ps:List Str}(h:∀us:List Value,us.length=ps.length->bindArgs fd ⟨us,[]⟩=pure (ps.zip us)):Binds K fd ps []:=fun s us _ hl=>by
 rw[zA5]at hl ⊢
 exact .of_eq (h us hl)
def Passes(CX:CXT)(X:Cx)(E:XK):Prop:=∀(pins:List (Addr×Obj)) (σ:St) (H:Hp) (s:Shared) (e:Value) (s':Shared),Inv X pins σ H s->CX X.stack H s E e s'->X.xe e s'
section
variable{X:Cx}{CX:CXT}{k:Nat}{f C:Addr}{fd:FuncData}{ps:List Str}{sp:Sp}{dvs:List V}{ds:List Value}{E:XK}{x m:Str}{p pos apos:Pos}{e o:Expr}{es:List Expr}{ta:TE}{t:TA}
theorem ye{pins:List (Addr×Obj)}{σ:St}{H:Hp}{s:Shared}{Q:VK}{us:List Value}{vs:List V}(F:aS X.prog X.w X.K X.mg X.base CX k f fd ps sp)(hr:bX k X.A)(hb:Binds X.K fd ps ds)(hd:Vals dvs ds)(hx:Passes CX X E)
  (I:Inv X pins σ H s) (r:Vals vs us) (h:sp (vs++dvs) H Q E):wpAny (model X.prog X.w) X.A (call (.ref f) us) (EP X pins σ Q) X.xe s:=by
 have r2:Vals (vs++dvs) (us++ds):=r.append hd
 have hl:(us++ds).length=ps.length:=by rw[<- r2.length];exact F.len _ _ _ _ h
 refine wpAny_call (codeAny_mono (F.run X.A X.stack s H ⟨us,[]⟩ (us++ds) (vs++dvs) Q E hr I.env0 (hb s us I.kIn hl) r2 h) fun r s' hq=>?_)
 cases r with
 |error e=>exact hx pins σ H s e s' I hq
 |ok fl =>
  cases fl with
  |ret u=>exact I.after hq
  |next=>exact False.elim hq
  |brk=>exact False.elim hq
  |cont=>exact False.elim hq
structure Mk(K:PySem.W.Frag)(C f:Addr):Prop where
 makes:PySem.W.makesIn K C=true
 init:PySem.W.findIn K (.ref C) "__init__" = some (some (.ref f))
 fn:PySem.W.isFn K (.ref f)=true
 kp:PySem.W.keepIn K (.ref C)=true
end
section
variable{X:Cx}{CX:CXT}{k:Nat}{f C:Addr}{fd:FuncData}{ps ks:List Str}{sp:Sp}{E:XK}{x m:Str}{p pos apos kpos:Pos}{e o:Expr}{es:List Expr}{kws:List Keyword}{te ta:TE}{t tk:TA}{nm:Option Str}
structure EX(K:PySem.W.Frag)(fd:FuncData)(ps ks:List Str)(g:List Value->List Value->List Value)(gV:List V->List V->List V):Prop where
 to:∀(s:Shared) (us ws:List Value),K.In s.heap->(g us ws).length=ps.length->BindsTo s fd ⟨us,ks.zip ws⟩ (ps.zip (g us ws))
 rel:∀{vs:List V} {us:List Value} {zs:List V} {ws:List Value},Vals vs us->Vals zs ws->Vals (gV vs zs) (g us ws)
variable{g:List Value->List Value->List Value}{gV:List V->List V->List V}
end
structure aC(N P:List Str)(sc:Scope):Prop where
 kind:sc.kind=.function
 co:sc.isCoroutine=false
 gen:sc.isGenerator=false
 nd:N.Nodup
 pre:N.take P.length=P
 par:∀x∈P,sc.names.lookup x=some .local∨sc.names.lookup x=some .cell
 nofree:∀y∈sc.names,y.2 ≠ .free
theorem p5{kindOf:Str->Option NameKind}{x:Str}:∀{binds:List (Str×Value)} {m:Str->Option Value},(∀v,(x,v)∉binds)->bindL kindOf binds m x=m x
 |[],_,_=>rfl
 |(n,v)::r,m,h=>by
  unfold bindL
  rw[p5 fun w hw=>h w (zAD _ hw)]
  split
  ·have:x≠n:=by rintro rfl;exact h v zAY
   simp[this]
  ·rfl
theorem pZ{kindOf:Str->Option NameKind}{x:Str}:∀{binds:List (Str×Value)} {m:Str->Option Value},(∀v,(x,v)∉binds)->bindC kindOf binds m x=m x
 |[],_,_=>rfl
 |(n,v)::r,m,h=>by
  unfold bindC
  rw[pZ fun w hw=>h w (zAD _ hw)]
  split
  ·rfl
  ·have:x≠n:=by rintro rfl;exact h v zAY
   simp[this]
theorem p4{kindOf:Str->Option NameKind}{x:Str}{v:Value}:∀{P:List Str} {vs:List Value} {i:Nat} {m:Str->Option Value},P.Nodup->P[i]?=some x->vs[i]?=some v->kindOf x=some .local →
  bindL kindOf (P.zip vs) m x=some v
 |[],_,_,_,_,h,_,_=>by simp at h
 |_::_,[],_,_,_,_,h,_=>by simp at h
 |p::P,w::vs,0,m,nd,h1,h2,hk=>by
  simp at h1 h2;subst h1;subst h2
  show bindL kindOf ((p,w)::P.zip vs) m p=_
  unfold bindL
  rw[p5 fun v hv=>(zBh.mp nd).1 (List.of_mem_zip hv).1,if_pos hk]
  simp
 |p::P,w::vs,i+1,m,nd,h1,h2,hk=>by
  show bindL kindOf ((p,w)::P.zip vs) m x=_
  unfold bindL
  exact p4 (i:=i) (zBh.mp nd).2 (by simpa using h1) (by simpa using h2) hk
theorem pY{kindOf:Str->Option NameKind}{x:Str}{v:Value}:∀{P:List Str} {vs:List Value} {i:Nat} {m:Str->Option Value},P.Nodup->P[i]?=some x->vs[i]?=some v->kindOf x≠some .local →
  bindC kindOf (P.zip vs) m x=some v
 |[],_,_,_,_,h,_,_=>by simp at h
 |_::_,[],_,_,_,_,h,_=>by simp at h
 |p::P,w::vs,0,m,nd,h1,h2,hk=>by
  simp at h1 h2;subst h1;subst h2
  show bindC kindOf ((p,w)::P.zip vs) m p=_
  unfold bindC
  rw[pZ fun v hv=>(zBh.mp nd).1 (List.of_mem_zip hv).1,if_neg hk]
  simp
 |p::P,w::vs,i+1,m,nd,h1,h2,hk=>by
  show bindC kindOf ((p,w)::P.zip vs) m x=_
  unfold bindC
  exact pY (i:=i) (zBh.mp nd).2 (by simpa using h1) (by simpa using h2) hk
def start(N:List Str)(vs:List V):St:=vs.map some++List.replicate (N.length - vs.length) none
def cW(CX:CXT)(P:Program)(w:World)(K:PySem.W.Frag)(mg:Str->Option Value)(base:Heap)(N:List Str)(qual:Str)(scope:Scope)(f:Addr)(cd:Value)(A:Around)(outer:List Env)(s:Shared)(H:Hp)(E:XK):Cx where
 prog:=P
 w:=w
 K:=K
 mg:=mg
 base:=base
 A:=A.deeper (envOfC qual scope s.heap.objs.size f cd)
 N:=N
 s₀:=s
 H₀:=H
 env:=envOfC qual scope s.heap.objs.size f cd
 outer:=outer
 stack:=envOfC qual scope s.heap.objs.size f cd::outer
 ex:=[]
 calm:=true
 fn:=fun _=>true
 pn:=[]
 xe:=fun e s'=>wpAny (model P w) (A.deeper (envOfC qual scope s.heap.objs.size f cd)) (leaving (envOfC qual scope s.heap.objs.size f cd) e) (fun _ s''=>CX outer H s E e s'') (fun e' s''=>CX outer H s E e' s'') s'
theorem rD{sc:Scope}{n:Nat}{x:Str}(h:sc.names.lookup x=some .cell):∃c,(cellsFrom n sc.names []).lookup x=some c:=by
 have q:=PySem.W.cellsFrom_some sc.names n [] (.inl h)
 exact Option.isSome_iff_exists.mp q
theorem xA{CX:CXT}{P:Program}{w:World}{K:PySem.W.Frag}{mg:Str->Option Value}{base:Heap}{N ps:List Str}{qual:Str}{scope:Scope}{f:Addr}{cd:Value}{A:Around}{outer:List Env}{s s1:Shared}{H:Hp}{E:XK}{us:List Value}{vs:List V}
  (S:aC N ps scope) (hd:A.handled=none) (e0:vi P w K mg base A outer s H) (hl:vs.length=ps.length) (r:Vals vs us)
  (x:InCallC s s.heap.objs.size (bindL (envOfC qual scope s.heap.objs.size f cd).kindOf (ps.zip us) fun _=>none) (cellsFrom (s.heap.objs.size+1) scope.names []) (bindC (envOfC qual scope s.heap.objs.size f cd).kindOf (ps.zip us) fun _=>none) s1) :
  Inv (cW CX P w K mg base N qual scope f cd A outer s H E) [] (start N vs) H s1:=by
 have hpl:ps.length<=N.length:=by have:=congrArg List.length S.pre;rw[zBF]at this;omega
 obtain⟨h1,tk,rfl,hk⟩:=x.done
 have noA:∀b:Addr,b∉(cW CX P w K mg base N qual scope f cd A outer s H E).ex:=fun b z=>absurd (show b∈([]:List Addr)from z) (by simp)
 refine⟨⟨e0.mod,S.kind,rfl,rfl,zAM _,fun y z c h1 h2=>?_,fun y hy=>?_,fun y c _ h=>?_,fun _=>hd,Around.frames_deeper e0.frames,.inr ⟨rfl,rfl⟩,fun b z=>absurd z (noA b),e0.bs,e0.bsz,fun b _ _=>noA b,fun b z=>absurd z (noA b),e0.funs,e0.frf⟩,
  rfl,e0.bare,Un.kept hk,⟨_,x.toInCall.ns,fun i y v h1 h2 h3=>?_⟩,fun y c h=>⟨_,x.cell y c h⟩,e0.hok.fresh (zAM _),fun y c h=>?_,fun p hp=>absurd (show p∈([]:List (Addr×Obj))from hp) (by simp),e0.hok.kept hk,?_⟩
 ·exact name_of_addr x.apart (PySem.mem_of_lookup h1) (PySem.mem_of_lookup h2)
 ·have hy:scope.names.lookup y=some .cell∨scope.names.lookup y=some .free:=hy
  rcases hy with hy|hy
  ·exact rD hy
  ·exact absurd rfl (S.nofree _ (PySem.mem_of_lookup hy))
 ·exact zB0 (x.above y c (PySem.mem_of_lookup h))
 ·have hi:i<vs.length:=by
   unfold start at h2
   by_cases hi:i<vs.length
   ·exact hi
   ·rw[zAf (by simpa using hi)]at h2
    rw[zBW]at h2
    split at h2<;>cases h2
  have ha:vs[i]?=some v:=by
   unfold start at h2
   rw[zAq (by simpa using hi),zAH]at h2
   cases e:vs[i]? with
   |none=>rw[e]at h2;cases h2
   |some a=>rw[e]at h2;cases h2;rfl
  obtain⟨u,hu,rv⟩:=r.get ha
  have hp:ps[i]?=some y:=by
   rw[<- S.pre,List.getElem?_take_of_lt (by omega)];exact h1
  have ndP:ps.Nodup:=by rw[<- S.pre];exact S.nd.sublist (zCc _ _)
  refine⟨u,rv,?_⟩
  rcases S.par y (zAT hp)with k|k
  ·exact .inl ⟨k,p4 ndP hp hu k⟩
  ·obtain⟨c,e⟩:=rD (n:=s.heap.objs.size+1) k
   refine .inr ⟨.inl k,c,e,?_⟩
   have q:=x.cell y c e
   rw[pY ndP hp hu (by show scope.names.lookup y≠_;rw[k];decide)]at q
   exact q
 ·exact e0.hok.fresh (zB0 (x.above y c (PySem.mem_of_lookup h)))
 ·unfold start
  show _=N.length
  rw[zAO,zAA,List.length_replicate]
  omega
theorem AD {CX : CXT} {P : Program} {w : World} {K : PySem.W.Frag} {mg : Str -> Option Value} {base : Heap} {k : Nat} {f : Addr} {name qual : Str} {params : Arguments} {body : List Stmt} {scope : Scope} {dV kV doc pm cdv ct oc : Value} {an od : Option Addr}
  {osl : Array (Option Value)} {N ps : List Str} {sp : Sp} (lk : K.lookup f = some ⟨oc, od, .func (PySem.W.fnOf name qual params body scope dV kV doc pm an cdv ct), osl⟩) (hcd : PySem.W.codeIn K cdv qual = true) (S : aC N ps scope)
  (len : ∀ vs H Q E, sp vs H Q E -> vs.length = ps.length)
  (hbody : ∀ (A : Around) (outer : List Env) (s : Shared) (H : Hp) (vs : List V) (Q : VK) (E : XK), bX k (A.deeper (envOfC qual scope s.heap.objs.size f cdv)) -> sp vs H Q E →
   ∃ t, PSs (cW CX P w K mg base N qual scope f cdv A outer s H E) body t /\ t { nx := fun _ H' => Q .non H', rt := Q } (start N vs) H) :
  aS P w K mg base CX (k + 1) f (PySem.W.fnOf name qual params body scope dV kV doc pm an cdv ct) ps sp := by
 refine ⟨len, fun A outer s H args us vs Q E hr e0 hb r hsp => ?_⟩
 have hl := len _ _ _ _ hsp
 have KX : K.In s.heap := e0.mod.kin.keeps fun b o e => (e0.bs b o e).1
 have lim : s.heap.NoLimit := e0.mod.nolimit.keeps fun b o e => (e0.bs b o e).1
 have hkind : ∀ y ∈ ps.zip us, scope.names.lookup y.1 = some .local ∨ (scope.names.lookup y.1 = some .cell /\ ((cellsFrom (s.heap.objs.size + 1) scope.names []).lookup y.1).isSome = true) := fun ⟨n, v⟩ hy => by
  rcases S.par n (List.of_mem_zip hy).1 with q | q
  ·exact .inl q
  ·exact .inr ⟨q, PySem.W.cellsFrom_some _ _ _ (.inl q)⟩
 refine codeAny_call_function hr.depth (KX _ _ lk) rfl S.co S.gen rfl (PySem.W.codeRec_of KX hcd) (hb _ _ _ _ ?_)
 refine wpAny_newFunctionEnv_cells S.kind hkind fun env he s1 x => ?_
 subst he
 refine ⟨lim.keeps x.toInCall.keep, codeAny_func ?_⟩
 obtain ⟨t, ht, hq⟩ := hbody A outer s H vs Q E (hr.deeper _) hsp
 have I : Inv (cW CX P w K mg base N qual scope f cdv A outer s H E) [] (start N vs) H s1 := xA S hr.hd e0 hl r x
 refine wpAny_mono (ht [] s1 (start N vs) H _ I hq) (fun fl s' hs => ?_) fun e s' hs => hs
 have fin : ∀ {σ' : St} {H' : Hp} {v : V} {u : Value}, Inv (cW CX P w K mg base N qual scope f cdv A outer s H E) [] σ' H' s' -> RelV v u -> Q v H' -> CE outer P w H s Q u s' :=
  fun {σ' H' v u} J rv q => ⟨v, H', J.os, J.bare, J.base, J.hok, rv, q⟩
 cases fl with
 | ret u =>
  obtain ⟨v, σ', H', J, rv, q⟩ := hs
  exact fin J rv q
 | next =>
  obtain ⟨σ', H', J, q⟩ := hs
  exact fin (v := V.non) (u := Value.none) J rfl q
 | brk =>
  obtain ⟨_, _, _, q⟩ := hs
  exact False.elim q
 | cont =>
  obtain ⟨_, _, _, q⟩ := hs
  exact False.elim q
end L2
namespace L2
open PySem PySem.Spec PyProof.Rows
section
variable{X:Cx}{x:Str}{p pos:Pos}{e:Expr}{es:List Expr}{t:TA}{id T:String}{r:List V->Hp->VK->Prop}
def tCB(r:List V->Hp->VK->Prop)(t:TA):TE:=fun σ H Q=>t σ H fun vs H1=>r vs H1 Q
theorem xV (hc:lS X (.type T) r) (hg:Gl X x) (hm:X.mg x=none) (hv:bootBuiltins x=some (.type T)) (ha:PA X (e::es) t) (hn:x ≠ "__name__" := by decide) (hdb:(x==("__debug__" : Str))=false:=by decide)
  (he:starEach (e::es) X.env=(false,eval e X.env)::starEach es X.env:=by rfl) (hpl:(backTo pos (starEach es X.env)).any (·.1)=false:=by rfl):PE X (.Call (.Name x p) (e::es) [] pos) (tCB r t):=by
 intro pins s σ H Q I h
 refine wpAny_Call_Name_kw (eQ I hg hm hv ?_ hn hdb)
 exact PyProof.Rows.callWith_type1 (thn (ha pos pins s σ H _ I h) fun us s1 ⟨vs,H1,I1,r1,q1⟩=>hc pins s1 σ H1 vs us Q I1 r1 q1) he hpl
end
end L2
namespace HT
open PySem PyProof.Rows
def lexLt:List Int->List Int->Bool
 |[],[]=>false
 |[],_::_=>true
 |_::_,[]=>false
 |x::xs,y::ys=>if x=y then lexLt xs ys else decide (x<y)
section
open PySem.SeqAt
open PySem.AutoSeq1 (wpAny_loadPart')
open PySem.MeetsSeq PySem.MeetsSeq2 PySem.MeetsSeq3
end
section
variable{prog:Program}{w:World}{A:Around}{E:Value->Shared->Prop}{s:Shared}
def sIx(n d:Nat):Option Int->Nat
 |none=>d
 |some v=>if v<0 then(v+(n:Int)).toNat else min v.toNat n
theorem ko(n d:Nat):sIx n d none=d:=rfl
theorem mn(n d k:Nat):sIx n d (some (k:Int))=min k n:=by
 show(if(k:Int)<0 then((k:Int)+(n:Int)).toNat else min (k:Int).toNat n)=min k n
 rw[if_neg (by omega),zCb]
theorem DH(n d:Nat)(hd:d<=n)(o:Option Int):sIx n d o<=n:=by
 cases o with
 |none=>exact hd
 |some v =>
  show(if v<0 then(v+(n:Int)).toNat else min v.toNat n)<=n
  by_cases hv:v<0
  ·rw[if_pos hv];omega
  ·rw[if_neg hv];exact Nat.min_le_right _ _
theorem uo(v:Int)(n d:Nat):(if v<0 then max (v+(n:Int)) 0 else min v (n:Int))=((sIx n d (some v):Nat):Int):=by
 show(if v<0 then max (v+(n:Int)) 0 else min v (n:Int))=(((if v<0 then(v+(n:Int)).toNat else min v.toNat n):Nat):Int)
 by_cases hv:v<0
 ·simp only[if_pos hv];omega
 ·simp only[if_neg hv];omega
theorem vq(lo hi:Option Int)(n:Nat):Builtin.Slice.sliceAdjust lo hi 1 (n:Int)=(((sIx n 0 lo:Nat):Int),((sIx n n hi:Nat):Int)):=by
 have h1:¬((1:Int)<0):=by omega
 unfold Builtin.Slice.sliceAdjust
 simp only[h1,if_false]
 refine zBe ?_ ?_
 ·cases lo with
  |none=>rfl
  |some v=>exact uo v n 0
 ·cases hi with
  |none=>rfl
  |some v=>exact uo v n n
theorem wz(i j:Nat):Builtin.Slice.slicePlaces (i:Int) (j:Int) 1=j - i:=by
 unfold Builtin.Slice.slicePlaces
 have h1:(1:Int) > 0:=by omega
 simp only[h1,if_true,Int.ediv_one]
 split<;>omega
theorem oA{v:Value}{o:Option Int}{Q:Option Int->Shared->Prop}(p:IsPart v o)(h:Q o s):wpAny (model prog w) A (Builtin.Slice.slicePartIndex v) Q E s:=by
 cases p with
 |none=>exact slicePart_none h
 |int i t=>exact slicePart_int h
theorem nh{sl:Addr}{vl vu:Value}{lo hi:Option Int}{n:Nat}{Q:Int×Int×Nat->Shared->Prop}(hs:s.heap.IsSliceOf sl vl vu .none)(pl:IsPart vl lo)(pu:IsPart vu hi)
  (h:Q (((sIx n 0 lo:Nat):Int),1,sIx n n hi - sIx n 0 lo) s):wpAny (model prog w) A (Builtin.Slice.sliceApplied (.ref sl) (pure (n:Int))) Q E s:=by
 obtain⟨os,hos,hcs,hds⟩:=id hs
 unfold Builtin.Slice.sliceApplied Builtin.Slice.sliceFields
 refine wpAny_bind (wpAny_bind (wpAny_field hos hds (x:=vl) rfl (wpAny_bind (wpAny_field hos hds (x:=vu) rfl (wpAny_bind (wpAny_field hos hds (x:=.none) rfl (wpAny_pure ?_)))))))
 refine wpAny_bind (slicePart_none ?_)
 show wpAny _ _ (if((1:Int)==0)=true then _ else _) _ _ s
 rw[if_neg (by decide)]
 refine wpAny_bind (oA pl (wpAny_bind (oA pu (wpAny_bind (wpAny_pure ?_)))))
 show wpAny _ _ (match Builtin.Slice.sliceAdjust lo hi 1 (n:Int)with|(lo,hi)=>pure (lo,(1:Int),Builtin.Slice.slicePlaces lo hi 1)) _ _ s
 rw[vq lo hi n]
 show wpAny _ _ (pure (((sIx n 0 lo:Nat):Int),(1:Int),Builtin.Slice.slicePlaces ((sIx n 0 lo:Nat):Int) ((sIx n n hi:Nat):Int) 1)) _ _ s
 rw[wz]
 exact wpAny_pure h
theorem zV(xs:Array Value)(i k:Nat):((List.range k).filterMap fun(m:Nat)=>xs[((i:Int)+(m:Int)*1).toNat]?).toArray=((xs.toList.drop i).take k).toArray:=by
 have e:(fun(m:Nat)=>xs[((i:Int)+(m:Int)*1).toNat]?)=fun m=>xs[i+m]?:=by
  funext m
  have:((i:Int)+(m:Int)*1).toNat=i+m:=by omega
  rw[this]
 rw[e]
 have:=pick_run xs i k
 rw[List.filterMap_map]at this
 have e2:((fun x=>xs[x]?)∘fun x=>i+x)=fun m=>xs[i+m]?:=rfl
 rw[e2]at this
 rw[this]
theorem mv{t sl:Addr}{items:Array Value}{vl vu:Value}{lo hi:Option Int}{Q:Value->Shared->Prop}(ht:IsTup s.heap t items)(hs:s.heap.IsSliceOf sl vl vu .none)(pl:IsPart vl lo)(pu:IsPart vu hi)
  (hw:¬(sIx items.size 0 lo=0/\sIx items.size items.size hi=items.size))
  (h:Q (.ref s.heap.objs.size) {s with heap:=s.heap.push {cls:=.type "tuple", data:=.seq ((items.toList.drop (sIx items.size 0 lo)).take (sIx items.size items.size hi - sIx items.size 0 lo)).toArray} })
  (hsz:items.size<=sizeLine):wpAny (model prog w) A (getItem (.ref t) (.ref sl)) Q E s:=by
 have htake:sizeOk (.seq ((items.toList.drop (sIx items.size 0 lo)).take (sIx items.size items.size hi - sIx items.size 0 lo)).toArray):=by
  show((items.toList.drop (sIx items.size 0 lo)).take (sIx items.size items.size hi - sIx items.size 0 lo)).toArray.size<=sizeLine
  rw[zAX,zBF,zBr,zAZ]
  omega
 have hj:sIx items.size items.size hi<=items.size:=DH _ _ (zAM _) hi
 obtain⟨os,hos,hcs,hds⟩:=id hs
 have hTs:s.TypeIs (.ref sl) "slice" := ⟨os,hos,hcs⟩
 unfold getItem
 try with_reducible refine wpAny_holding ?_
 first|refine wpAny_bind (wpAny_pure ?_)|skip
 refine wpAny_bind (wpAny_sequenceKey ht.typeIs (by decide) ?_)
 refine wpAny_bind (wpAny_callSpecial?_slot (name:=Str.ofString "__getitem__") ht.typeIs PyProof.Rows.slot_tuple_getitem
  (wpAny_call_entry PyProof.Rows.slot_tuple_getitem ht.typeIs entry_tuple_getitem ?_ (args_tuple_getitem _ _)))
 show wpAny _ _ (Builtin.Tuple.tupleItemsOf (.ref t) >>= _) _ _ s
 refine wpAny_bind (tupleItemsOf_ ht ?_)
 refine wpAny_bind (wpAny_typeOf hTs ?_)
 rw[if_pos (by decide)]
 refine wpAny_bind (nh hs pl pu ?_)
 have hno:¬((((sIx items.size 0 lo:Nat):Int)==0 && (1:Int)==1 && (sIx items.size items.size hi - sIx items.size 0 lo)==items.size)=true):=by
  intro q
  rw[zBO,zBO]at q
  have q1:((sIx items.size 0 lo:Nat):Int)=0:=eq_of_beq q.1.1
  have q2:sIx items.size items.size hi - sIx items.size 0 lo=items.size:=eq_of_beq q.2
  exact hw ⟨by omega,by omega⟩
 show wpAny _ _ (if(((sIx items.size 0 lo:Nat):Int)==0 && (1:Int)==1 && (sIx items.size items.size hi - sIx items.size 0 lo)==items.size)=true then _ else _) _ _ s
 rw[if_neg hno,zV]
 first
  |exact wpAny_bind (m:=Builtin.Tuple.tupleExact _) (wpAny_newObj_type (wpAny_pure ⟨_,rfl,wpAny_pure h⟩) htake)
  |exact wpAny_bind (m:=Builtin.Tuple.tupleExact _) (wpAny_newObj_type (wpAny_bind (wpAny_pure (wpAny_pure ⟨_,rfl,wpAny_pure h⟩))) htake)
  |exact wpAny_bind (wpAny_bind (m:=Builtin.Tuple.tupleExact _) (wpAny_newObj_type (wpAny_pure (wpAny_pure ⟨_,rfl,wpAny_pure h⟩)) htake))
  |exact wpAny_bind (wpAny_bind (m:=Builtin.Tuple.tupleExact _) (wpAny_newObj_type (wpAny_pure ⟨_,rfl,wpAny_pure h⟩) htake))
end
end HT
namespace L2
open PySem PySem.Spec PyProof.Rows
abbrev TO:=St->Hp->(Option Int->Hp->Prop)->Prop
theorem intsAre_of{ns:List Int}:∀{us:List Value},Vals (ns.map V.int) us->IntsAre us ns:=by
 induction ns with
 |nil=>intro us r;rw[zBZ]at r;cases r;exact .nil
 |cons n ns ih =>
  intro us r
  rw[zAK]at r
  cases r with
  |cons r1 r2 =>
   obtain⟨t,e⟩:=r1
   subst e
   exact .cons n t (ih r2)
section
variable{X:Cx}{e:Expr}{te:TE}{lo hi:Option Expr}{tl th:TO}{pos p2:Pos}
def SlR(X:Cx)(r:V->Option Int->Option Int->Hp->VK->Prop):Prop :=
 ∀ (pins:List (Addr×Obj)) (s:Shared) (σ:St) (H:Hp) (x:V) (v vl vu:Value) (lo hi:Option Int) (sl:Addr) (Q:VK),Inv X pins σ H s->RelV x v->s.heap.IsSliceOf sl vl vu .none->IsPart vl lo->IsPart vu hi->r x lo hi H Q →
  ∃ T id,typeLookup (.type T) "__getitem__" = pure (some (.builtin id))/\s.TypeIs v T/\wpAny (model X.prog X.w) X.A (getItem v (.ref sl)) (EP X pins σ Q) X.xe s
def kT(xs:List V)(lo hi:Option Int):List V:=(xs.drop (HT.sIx xs.length 0 lo)).take (HT.sIx xs.length xs.length hi - HT.sIx xs.length 0 lo)
theorem mD(xs:List V)(lo hi:Option Int):(kT xs lo hi).length<=xs.length:=by
 unfold kT
 rw[zBF,zBr]
 omega
def ET(K:PySem.W.Frag):V->Option Int->Option Int->Hp->VK->Prop:=fun x lo hi H Q=>∃a xs,x=.ref a/\SqT K H a xs ∧
 ¬ (HT.sIx xs.length 0 lo=0/\HT.sIx xs.length xs.length hi=xs.length)/\∀p,H p=none->Q (.ref p) (upd H p (.tup (kT xs lo hi)))
theorem DN:SlR X (ET X.K):=by
 intro pins s σ H x v vl vu lo hi sl Q I rx hs pl pu h
 obtain⟨a,xs,rfl,hx,hw,q⟩:=h
 cases rx
 obtain⟨its,r,ht,hz⟩:=I.tuple hx
 have hlen:its.toArray.size=xs.length:=by rw[zAX];exact r.length.symm
 refine⟨"tuple", _,PyProof.Rows.slot_tuple_getitem.lookup,ht.typeIs,?_⟩
 refine HT.mv ht hs pl pu (by rw[hlen];exact hw) ?_ (by rw[hlen];exact hz)
 rw[hlen]
 refine⟨.ref s.heap.objs.size,_,I.laid (t':=s.toks) (o:=.tup (kT xs lo hi)) (fun b ob q=>zAF _ q) (zAM _) ?_,rfl,q _ (I.hok.fresh (zAM _))⟩
 exact⟨zAw (mD xs lo hi) hz,_,(r.drop (HT.sIx xs.length 0 lo)).take (HT.sIx xs.length xs.length hi - HT.sIx xs.length 0 lo),IsTup.new _ _⟩
end
end L2
namespace L2
open PySem PySem.Spec PyProof.Rows
def ixN(n:Nat)(i:Int):Option Nat:=if 0<=i then(if i<n then some i.toNat else none)else if -(n:Int)<=i then some (i+n).toNat else none
def atI{α:Type}(xs:List α)(i:Int):Option α:=(ixN xs.length i).bind fun j=>xs[j]?
theorem Bp{n:Nat}{i:Int}{j:Nat}(h:ixN n i=some j):seqIndex? i n=some j/\j<n/\-(n:Int)<=i/\i<n:=by
 unfold ixN at h
 by_cases h0:0<=i
 ·rw[if_pos h0]at h
  by_cases h1:i<n
  ·rw[if_pos h1]at h
   have e:i.toNat=j:=zAi h
   exact⟨by rw[seqIndex_of h0 h1,e],by omega,by omega,h1⟩
  ·rw[if_neg h1]at h;cases h
 ·rw[if_neg h0]at h
  by_cases h1:-(n:Int)<=i
  ·rw[if_pos h1]at h
   have e:(i+n).toNat=j:=zAi h
   exact⟨by rw[seqIndex_neg (by omega) h1,e],by omega,h1,by omega⟩
  ·rw[if_neg h1]at h;cases h
theorem um{α:Type}{xs:List α}{i:Int}{v:α}(h:atI xs i=some v):∃j,seqIndex? i xs.length=some j/\xs[j]?=some v/\j<xs.length/\-(xs.length:Int)<=i/\i<xs.length:=by
 unfold atI at h
 cases e:ixN xs.length i with
 |none=>rw[e]at h;cases h
 |some j =>
  rw[e]at h
  obtain⟨h1,h2,h3,h4⟩:=Bp e
  exact⟨j,h1,h,h2,h3,h4⟩
theorem bA{α:Type}{xs:List α}{j:Nat}{v:α}(h:xs[j]?=some v):atI xs (j:Int)=some v:=by
 have hj:j<xs.length:=(zAE.mp h).1
 have e:ixN xs.length (j:Int)=some j:=by
  unfold ixN
  rw[if_pos (by omega),if_pos (by omega)];simp
 unfold atI;rw[e];exact h
theorem yM{α:Type}(xs:List α)(v:α):atI (xs++[v]) (-1)=some v:=by
 have hl:(xs++[v]).length=xs.length+1:=by simp
 have e:ixN (xs++[v]).length (-1)=some xs.length:=by
  unfold ixN
  rw[hl,if_neg (by decide),if_pos (by omega)]
  congr 1
  omega
 unfold atI
 rw[e]
 show(xs++[v])[xs.length]?=some v
 simp
def uj(b:Expr):Prop:=∀o i,subscripted b false o i=operate [o,i] (getItem o i)
def IxR(X:Cx)(r:R2):Prop :=
 ∀ (value slice:Expr) (pins:List (Addr×Obj)) (s:Shared) (σ:St) (H:Hp) (x y:V) (v u:Value) (Q:VK),Inv X pins σ H s->RelV x v->RelV y u->r x y H Q →
  subscripted slice false v u=operate [v,u] (getItem v u)->wpAny (model X.prog X.w) X.A (subscriptTail value slice v u) (EP X pins σ Q) X.xe s
def MtR(X:Cx)(id:String)(r:V->List V->Hp->VK->Prop):Prop :=
 ∀ (pins:List (Addr×Obj)) (s:Shared) (σ:St) (H:Hp) (x:V) (xs:List V) (v:Value) (us:List Value) (Q:VK),Inv X pins σ H s->RelV x v->Vals xs us->r x xs H Q →
  wpAny (model X.prog X.w) X.A (call (.builtin id) (v::us)) (EP X pins σ Q) X.xe s
section
variable{X:Cx}{a b:Expr}{ta tb:TE}{pos:Pos}
theorem oh{r:R2}(hr:IxR X r)(ha:PE X a ta)(hb:PE X b tb)(hs:uj b):PE X (.Subscript a b pos) (tOp r ta tb):=by
 intro pins s σ H Q I h
 exact Subscript_ (EE ha hb I h fun v u s2 x y H2 I2 rx ry q=>hr a b pins s2 σ H2 x y v u Q I2 rx ry q (hs _ _))
def DD(K:PySem.W.Frag):R2:=fun x y H Q=>∃p xs i v,x=.ref p/\y=.int i/\SqL K H p xs/\atI xs i=some v/\Q v H
def wA(K:PySem.W.Frag):R2:=fun x y H Q=>∃p xs i v,x=.ref p/\y=.int i/\SqT K H p xs/\atI xs i=some v/\Q v H
theorem o9:IxR X (DD X.K):=by
 intro value slice pins s σ H x y v u Q I rx ry h hs
 obtain⟨p,xs,i,z,rfl,rfl,hq,he,q⟩:=h
 cases rx
 obtain⟨t,rfl⟩:=ry
 obtain⟨its,r,pl,hz⟩:=I.list hq
 obtain⟨j,h1,h2,h3,h4,h5⟩:=um he
 obtain⟨w,ew,rw'⟩:=r.get h2
 have hl:=r.length
 have hn:=sJ
 have fin:EP X pins σ Q w s:=⟨z,H,I,rw',q⟩
 by_cases h0:0<=i
 ·have hj:i.toNat=j:=by
   rw[seqIndex_of h0 h5]at h1
   exact zAi h1
  exact item_listR pl.isList h0 (by omega) (by rw[hj];simpa using ew) fin hs
 ·have hj:(i+(its.toArray.size:Int)).toNat=j:=by
   rw[seqIndex_neg (by omega) h4]at h1
   rw[zAX,<- hl]
   exact zAi h1
  exact subscriptTail_builtinR (x:=w) pl.isList.typeIs slot_list_getitem.lookup
   (wpAny_getItem_list_neg (Q:=fun r s'=>r=w/\EP X pins σ Q r s') pl.isList (by omega) (by rw[zAX]<;>omega) (by omega) (by rw[hj];simpa using ew) ⟨rfl,fin⟩) hs
theorem nX:IxR X (wA X.K):=by
 intro value slice pins s σ H x y v u Q I rx ry h hs
 obtain⟨p,xs,i,z,rfl,rfl,hq,he,q⟩:=h
 cases rx
 obtain⟨t,rfl⟩:=ry
 obtain⟨its,r,pl,hz⟩:=I.tuple hq
 obtain⟨j,h1,h2,h3,h4,h5⟩:=um he
 obtain⟨w,ew,rw'⟩:=r.get h2
 have hl:=r.length
 have hn:=sJ
 have fin:EP X pins σ Q w s:=⟨z,H,I,rw',q⟩
 exact subscriptTail_builtinR (x:=w) pl.typeIs slot_tuple_getitem.lookup
  (getItem_tuple (j:=j) (Q:=fun r s'=>r=w/\EP X pins σ Q r s') pl (by omega) (by omega) (by rw[zAX,<- hl];exact h1) (by simpa using ew) ⟨rfl,fin⟩) hs
theorem Inv.lst{pins:List (Addr×Obj)}{σ:St}{H:Hp}{s:Shared}{p:Addr}{xs:List V}(I:Inv X pins σ H s)(h:H p=some (.lst xs)) :
  ∃ (its:List Value) (n:Nat),Vals xs its/\s.heap.get? p=some {cls:=.type "list", data:=.seq its.toArray n}/\xs.length<=sizeLine:=by
 obtain⟨z,its,n,r,e⟩:=I.hok p _ h
 exact⟨its,n,r,e,z⟩
theorem tL(lo hi:Option Int)(n:Nat):(sliceBounds lo hi none n).1=((HT.sIx n 0 lo:Nat):Int)/\(sliceBounds lo hi none n).2.1=((HT.sIx n n hi:Nat):Int)/\(sliceBounds lo hi none n).2.2=1:=by
 refine⟨?_,?_,rfl⟩
 ·cases lo with
  |none=>simp[sliceBounds,HT.sIx]
  |some i =>
   simp only[sliceBounds,HT.sIx,Option.getD_none,show(1:Int) > 0 by decide,if_true]
   by_cases h:i<0
   ·simp only[h,if_true]<;>omega
   ·simp only[h,if_false]<;>omega
 ·cases hi with
  |none=>simp[sliceBounds,HT.sIx]
  |some i =>
   simp only[sliceBounds,HT.sIx,Option.getD_none,show(1:Int) > 0 by decide,if_true]
   by_cases h:i<0
   ·simp only[h,if_true]<;>omega
   ·simp only[h,if_false]<;>omega
theorem qO(its:List Value)(lo hi:Option Int):slicePick its.toArray lo hi none=((its.drop (HT.sIx its.length 0 lo)).take (HT.sIx its.length its.length hi - HT.sIx its.length 0 lo)).toArray:=by
 obtain⟨h1,h2,h3⟩:=tL lo hi its.toArray.size
 unfold slicePick
 rw[h1,h2,h3]
 simp only[sliceRange_one,pick_run,zAX]<;>rfl
theorem rB:lS X (.builtin "len") (fun xs H Q=>∃p ys,xs=[.ref p]/\(SqL X.K H p ys∨SqT X.K H p ys)/\Q (.int ys.length) H):=by
 intro pins s σ H xs us Q I r h
 obtain⟨p,ys,rfl,hq,q⟩:=h
 obtain⟨u,rfl,rx⟩:=vals1 r
 cases rx
 have hn:=sJ
 rcases hq with hq|hq
 ·obtain⟨its,r',pl,hz⟩:=I.list hq
  have hlen:=r'.length
  exact Calls.call_len_list pl.isList (by simp only[zAX]<;>omega) ⟨.int ys.length,H,I.tok _,⟨s.toks+1,by rw[zAX,hlen]⟩,q⟩
 ·obtain⟨its,r',pl,hz⟩:=I.tuple hq
  have hlen:=r'.length
  exact len_tuple pl (by simp only[zAX]<;>omega) ⟨.int ys.length,H,I.tok _,⟨s.toks+1,by rw[zAX,hlen]⟩,q⟩
theorem rC:lS X (.type "list") (fun xs H Q=>∃p ys,xs=[.ref p]/\(SqL X.K H p ys∨SqT X.K H p ys)/\∀l,H l=none->Q (.ref l) (upd H l (.lst ys))):=by
 intro pins s σ H xs us Q I r h
 obtain⟨p,ys,rfl,hq,q⟩:=h
 obtain⟨u,rfl,rx⟩:=vals1 r
 cases rx
 have fin:∀(its:List Value),Vals ys its->ys.length<=sizeLine->∀(h':Heap) (c':Nat),(∀b o',s.heap.get? b=some o'->h'.get? b=some o') →
   h'.get? s.heap.objs.size=some {cls:=.type "list", dict:=none,data:=.seq its.toArray c',slots:=#[]}->EP X pins σ Q (.ref s.heap.objs.size) {s with heap:=h'}:=fun its r' hz h' c' kp e =>
  ⟨.ref s.heap.objs.size,_,I.laid (t':=s.toks) kp (zAM _) (show cC X.prog X.w _ h' _ (.lst ys)from⟨hz,its,c',r',e⟩),rfl,q _ (I.hok.fresh (zAM _))⟩
 rcases hq with hq|hq
 ·obtain⟨its,r',pl,hz⟩:=I.list hq
  have hlen:=r'.length
  obtain⟨o,ho,hc,n,hd⟩:=pl.isList
  exact call_list_seq p (.inl rfl) ho hc hd (fun h' c' kp e=>fin its r' hz h' c' kp e) (by simp only[zAX]<;>omega)
 ·obtain⟨its,r',pl,hz⟩:=I.tuple hq
  have hlen:=r'.length
  obtain⟨o,ho,hc,n,hd⟩:=pl
  exact call_list_seq p (.inr rfl) ho hc hd (fun h' c' kp e=>fin its r' hz h' c' kp e) (by simp only[zAX]<;>omega)
def tyV (K : PySem.W.Frag) (T : String) (x : V) (H : Hp) : Prop := match x with
 | .str _ => T = "str"
 | .int _ => T = "int"
 | .ref p => (T = "list" /\ ∃ xs, SqL K H p xs) ∨ (T = "tuple" /\ ∃ o, K.lookup p = some o /\ o.cls = .type "tuple" /\ o.dict = none) ∨
   (T = "dict" /\ ((∃ kvs, H p = some (.dK kvs)) ∨ ∃ kvs, H p = some (.dT kvs))) ∨ (T = "set" /\ ∃ S n, H p = some (.set S n))
 | _ => False
theorem yz{pins:List (Addr×Obj)}{σ:St}{H:Hp}{s:Shared}{T:String}{x:V}{v:Value}(I:Inv X pins σ H s)(r:RelV x v)(ty:tyV X.K T x H) :
  s.TypeIs v T/\∀a,v=.ref a->∃ob,s.heap.get? a=some ob/\ob.dict=none:=by
 cases x with
 |str z =>
  obtain⟨t,rfl⟩:=r
  cases(show T = "str" from ty)
  exact⟨typeIs_str s z t,fun _ e=>nomatch e⟩
 |int i =>
  obtain⟨t,rfl⟩:=r
  cases(show T = "int" from ty)
  exact⟨typeIs_int s i t,fun _ e=>nomatch e⟩
 |ref p =>
  cases r
  rcases ty with⟨rfl,xs,hq⟩| ⟨rfl,o,hk,hc,hd⟩| ⟨rfl,hk⟩| ⟨rfl,S,n,hk⟩
  ·obtain⟨its,_,pl,_⟩:=I.list hq
   refine⟨pl.isList.typeIs,fun a e=>?_⟩
   cases e
   obtain⟨o,n,e,c,hd,_⟩:=pl
   exact⟨o,e,hd⟩
  ·refine⟨⟨o,I.kIn p o hk,hc⟩,fun a e=>?_⟩
   cases e
   exact⟨o,I.kIn _ o hk,hd⟩
  ·have z:∃o,s.heap.get? p=some o/\o.ExactDict:=by
    rcases hk with⟨kvs,hk⟩| ⟨kvs,hk⟩
    ·obtain⟨_,_,_,_,o,_,_,e,ex,_⟩:=I.hok p _ hk
     exact⟨o,e,ex⟩
    ·obtain⟨_,_,_,_,o,_,_,e,ex,_⟩:=I.hok p _ hk
     exact⟨o,e,ex⟩
   obtain⟨o,e,ex⟩:=z
   refine⟨⟨o,e,ex.1⟩,fun a e2=>?_⟩
   cases e2
   exact⟨o,e,ex.2.1⟩
  ·obtain⟨o,_,_,_,e,ex,_⟩:=I.hok p _ hk
   refine⟨⟨o,e,ex.1⟩,fun a e2=>?_⟩
   cases e2
   exact⟨o,e,ex.2.1⟩
 |_=>exact False.elim ty
def EU(K:PySem.W.Frag)(T:String)(r:V->List V->Hp->VK->Prop)(to:TE):TE:=fun σ H Q=>to σ H fun x H1=>tyV K T x H1/\r x [] H1 Q
def tBM(K:PySem.W.Frag)(T:String)(r:V->List V->Hp->VK->Prop)(to:TE)(t:TA):TE:=fun σ H Q=>to σ H fun x H1=>tyV K T x H1/\t σ H1 fun xs H2=>r x xs H2 Q
variable{o e:Expr}{es:List Expr}{to:TE}{t:TA}{name:Str}{apos cpos:Pos}{T id:String}{r:V->List V->Hp->VK->Prop}
theorem Dt (pa:PlainAttrs T) (slot:Slot T name id) (hty:typeOf (.builtin id)=pure (.type "method_descriptor")) (hm:MtR X id r) (ho:PE X o to)
  (hbase:attributeBase o name X.env (eval o X.env)=eval o X.env:=by rfl) (hline:(apos.endLine==cpos.line)=true:=by rfl):PE X (.Call (.Attribute o name apos) [] [] cpos) (EU X.K T r to):=by
 intro pins s σ H Q I h
 refine wpAny_Call_method0_late hbase hline (thn (ho pins s σ H _ I h) fun v s1 ⟨x,H1,I1,r1,ty,q1⟩=>?_)
 obtain⟨h1,h2⟩:=yz I1 r1 ty
 exact⟨T,id,pa,slot,hty,h1,h2,Calls.callWith_builtin rfl (PySem.evalArgs_none (hm pins s1 σ H1 x [] v [] Q I1 r1 .nil q1))⟩
theorem og (pa : PlainAttrs T) (slot : Slot T name id) (hty : typeOf (.builtin id) = pure (.type "method_descriptor")) (hm : MtR X id r) (ho : PE X o to) (ha : PA X (e :: es) t)
  (hbase : attributeBase o name X.env (eval o X.env) = eval o X.env := by rfl)
  (hfew : ((backTo cpos (starEach (e :: es) X.env)).all (fun x => !x.1) && (backToKw cpos (keywordEach [] X.env)).all (fun x => x.1.isSome)
   && decide ((e :: es).length + ([] : List Keyword).length + (if ([] : List Keyword).isEmpty then 0 else 1) < 30)) = true := by rfl)
  (hline : (apos.endLine == cpos.line) = true := by rfl) (hs : starEach (e :: es) X.env = (false, eval e X.env) :: starEach es X.env := by rfl) (hplain : (backTo cpos (starEach es X.env)).any (·.1) = false := by rfl) :
  PE X (.Call (.Attribute o name apos) (e :: es) [] cpos) (tBM X.K T r to t) := by
 intro pins s σ H Q I h
 refine wpAny_Call_method_late hbase hfew hline rfl (thn (ho pins s σ H _ I h) fun v s1 ⟨x, H1, I1, r1, ty, q1⟩ => ?_)
 obtain ⟨h1, h2⟩ := yz I1 r1 ty
 refine ⟨T, id, pa, slot, hty, h1, h2, ?_⟩
 have hA := ha cpos pins s1 σ H1 _ I1 q1
 rw [hs] at hA ⊢
 refine Calls.callWith_builtin (by show (false || (backTo cpos (starEach es X.env)).any (·.1)) = false; rw [hplain] <;> rfl) (Calls.evalArgs_plain ?_)
 exact thn hA fun us s2 ⟨vs, H2, I2, r2, q2⟩ => hm pins s2 σ H2 x vs v us Q I2 r1 r2 q2
end
end L2
namespace L2
open PySem PySem.Spec PyProof.Rows
def MtM(X:Cx)(id:String)(r:V->List V->Hp->VK->Prop):Prop :=
 ∀ (pins:List (Addr×Obj)) (s:Shared) (σ:St) (H:Hp) (x:V) (xs:List V) (v:Value) (us:List Value) (Q:VK),Inv X pins σ H s->RelV x v->Vals xs us->r x xs H Q →
  wpAny (model X.prog X.w) X.A (call (.builtin id) (v::us)) (EP X pins σ Q) X.xe s
theorem Vals.one:∀{x:V} {us:List Value},Vals [x] us->∃u,us=[u]/\RelV x u
 |_,_,.cons r .nil=>⟨_,rfl,r⟩
theorem Vals.zero:∀{us:List Value},Vals [] us->us=[]
 |_,.nil=>rfl
theorem Vals.dropLast{xs:List V}{us:List Value}(h:Vals xs us):Vals xs.dropLast us.dropLast:=by
 induction h with
 |nil=>exact .nil
 |cons r t ih =>
  cases t with
  |nil=>exact .nil
  |cons q t'=>exact .cons r ih
theorem vV{α:Type}(l:List α):l.eraseIdx (l.length - 1)=l.dropLast:=by
 induction l with
 |nil=>rfl
 |cons a r ih =>
  cases r with
  |nil=>rfl
  |cons b r =>
   have e:(a::b::r).length - 1=((b::r).length - 1)+1:=by
    have h1:(a::b::r).length=r.length+2:=rfl
    have h2:(b::r).length=r.length+1:=rfl
    omega
   rw[e,List.eraseIdx_cons_succ,ih]
   all_goals rfl
section
variable{X:Cx}{pins:List (Addr×Obj)}{σ:St}{H:Hp}{s:Shared}{l b:Addr}{xs ys zs:List V}
theorem Inv.lset{its its':List Value}{n:Nat}{f:Array Value->Array Value}{t':Nat}(I:Inv X pins σ H s)(hH:H l=some (.lst xs))
  (e:s.heap.get? l=some {cls:=.type "list", data:=.seq its.toArray n}) (hf:f its.toArray=its'.toArray) (hv:Vals ys its') (hz:ys.length<=sizeLine) :
  Inv X pins σ (upd H l (.lst ys)) {s with heap:=s.heap.update l (Obj.mapSeq f),toks:=t'}:=by
 have q:=PySem.IsL.update e f
 rw[hf]at q
 refine I.write (x:=l) (e:=l) (by rw[hH];exact trivial) (.inl rfl) (fun b' u hb hu=>(zBo s.heap (Obj.mapSeq f) (Ne.symm hb)).trans hu) ⟨_,q⟩ ?_
 exact⟨hz,its',_,hv,q⟩
theorem Inv.lstM (I:Inv X pins σ H s) (hH:H l=some (.lst xs)):xs.length<=sizeLine/\∃(its:List Value) (n:Nat),Vals xs its/\xs.length=its.length/\s.heap.get? l=some {cls:=.type "list", data:=.seq its.toArray n}:=by
 obtain⟨z,its,n,r,e⟩:=I.hok l _ hH
 exact⟨z,its,n,r,r.length,e⟩
theorem zK{n:Nat}(h:n<=sizeLine):Builtin.List.listTooLong n=false:=by
 unfold Builtin.List.listTooLong
 exact decide_eq_false (by omega)
end
section
variable{X:Cx}
def pF:V->List V->Hp->VK->Prop:=fun x vs H Q=>∃l xs y,x=.ref l/\vs=[y]/\H l=some (.lst xs)/\xs.length<sizeLine/\Q .non (upd H l (.lst (xs++[y])))
theorem fy:MtM X "list.append" pF:=by
 intro pins s σ H x vs v us Q I rx rv h
 obtain⟨l,xs,y,rfl,rfl,hH,hz,q⟩:=h
 cases rx
 obtain⟨u,rfl,ru⟩:=rv.one
 obtain⟨z,its,n,r,hl,e⟩:=I.lstM hH
 refine call_meets F.slot_list_append ⟨_,e,rfl⟩ F.entry_list_append (F.args_list_append_2 _ _) (PySem.list_append l its.toArray n u (by rw[zAX];omega)) ⟨e,?_⟩
 refine⟨.non,_,I.lset (its':=its++[u]) hH e (by simp) (r.append (.cons ru .nil)) ?_,rfl,q⟩
 rw[zAO,zCF]
 omega
def BO:V->List V->Hp->VK->Prop:=fun x vs H Q=>∃l b xs zs,x=.ref l/\vs=[.ref b]/\H l=some (.lst xs)/\H b=some (.lst zs)/\xs.length+zs.length<=sizeLine/\Q .non (upd H l (.lst (xs++zs)))
theorem xF:MtM X "list.extend" BO:=by
 intro pins s σ H x vs v us Q I rx rv h
 obtain⟨l,b,xs,zs,rfl,rfl,hH,hB,hz,q⟩:=h
 cases rx
 obtain⟨u,rfl,ru⟩:=rv.one
 cases ru
 obtain⟨z,its,n,r,hl,e⟩:=I.lstM hH
 obtain⟨z2,its2,n2,r2,hl2,e2⟩:=I.lstM hB
 have hsz:its.toArray.size+its2.toArray.size<=sizeLine:=by rw[zAX,zAX];omega
 have hlong:¬(!its.toArray.isEmpty && Builtin.List.listTooLong (its.toArray.size+its2.toArray.size))=true:=by
  rw[zK hsz,Bool.and_false]
  exact zAh
 refine call_meets F.slot_list_extend ⟨_,e,rfl⟩ F.entry_list_extend (F.args_list_extend_2 _ _)
  (AutoSeq1.list_extend_list_list_0 l its.toArray n b its2.toArray n2 hlong (by rw[zAX];omega) (by omega)) ⟨e,e2,?_⟩
 refine⟨.non,_,I.lset (its':=its++its2) hH e (by simp) (r.append r2) ?_,rfl,q⟩
 rw[zAO]
 omega
def ES:V->List V->Hp->VK->Prop:=fun x vs H Q=>∃l xs y,x=.ref l/\vs=[]/\H l=some (.lst xs)/\xs[xs.length - 1]?=some y/\Q y (upd H l (.lst xs.dropLast))
theorem Dh:MtM X "list.pop" ES:=by
 intro pins s σ H x vs v us Q I rx rv h
 obtain⟨l,xs,y,rfl,rfl,hH,hy,q⟩:=h
 cases rx
 have hus:=rv.zero
 subst hus
 obtain⟨z,its,n,r,hl,e⟩:=I.lstM hH
 obtain⟨u,hu,ru⟩:=r.get hy
 have hy':its.toArray[its.toArray.size - 1]?=some u:=by
  show its.toArray[its.length - 1]?=some u
  rw[<- zAl,<- hl]
  exact hu
 refine call_meets F.slot_list_pop ⟨_,e,rfl⟩ F.entry_list_pop (F.args_list_pop_1 _) (MeetsSeq.list_pop_last l its.toArray n u hy' (by rw[zAX];omega)) ⟨e,?_⟩
 refine⟨y,_,I.lset (its':=its.dropLast) hH e ?_ r.dropLast ?_,ru,q⟩
 ·show its.toArray.eraseIdxIfInBounds (its.toArray.size - 1)=its.dropLast.toArray
  rw[zAX,List.eraseIdxIfInBounds_toArray,vV]
 ·rw[zBA]
  omega
end
section
variable{prog:Program}{w:World}{A:Around}{E:Value->Shared->Prop}{s:Shared}
set_option maxRecDepth 100000 in
end
section
variable{X:Cx}
end
end L2
namespace Att
open PySem PySem.W PySem.Calls PyProof.Rows
theorem nV{P:Params}{h:Heap}:∀(ns:List Int) (vs:List Value),WellAll P h vs (ns.map WData.int)->IntsAre vs ns:=by
 intro ns
 induction ns with
 |nil =>
  intro vs w
  rw[zBZ]at w
  cases w
  exact .nil
 |cons n ns ih =>
  intro vs w
  rw[zAK]at w
  cases w with
  |cons a b =>
   cases a
   exact .cons _ _ (ih _ b)
theorem yo{l:OpenLaw}{n:Nat}(hn:l.most=some n){P:Params}{h:Heap}{args:List WData}{vals:List Value}
  (hpre:l.row.toRowW.claim.pre args=true) (hwl:WellAll P h vals args) :
  ∃ a vs ns,vals=[Value.ref a]/\args=[WData.list (ns.map WData.int)]/\h.get? a=some {cls:=.type "list", data:=.seq vs.toArray}/\IntsAre vs ns/\ns.length<=n:=by
 have hsh:WShape.hasAll [] args [.list .int]=true:=(pre_splitW hpre).1
 have hc:l.pre.holds [] {args:=args}=true:=(pre_splitW hpre).2
 obtain⟨d,r,rfl,h1,h2⟩:=hasAllW_cons hsh
 obtain rfl:=hasAllW_nil h2
 obtain⟨xs,rfl,h3⟩:=hasW_list h1
 obtain⟨ns,rfl⟩:=items_int h3
 have hlen:ns.length<=n:=by
  unfold OpenLaw.pre at hc
  have h4:(WTm.not (.lt (.lit (.int (n:Int))) (.len (.arg 0)))).holds [] {args:=[.list (ns.map .int)]}=true:=by
   have h4:=(holds_andW hc).1
   rw[hn]at h4
   exact h4
  have h5:=condW_of h4 (w_not (w_lt w_lit (w_len_list (w_arg rfl))))
  rw[zAA]at h5
  refine zBl fun q=>?_
  have q':(n:Int)<((ns.length:Nat):Int):=by omega
  first
   |(rw[decide_eq_true q']at h5;exact absurd h5 (by decide))
   |(simp at h5;omega)
 cases hwl with
 |cons w1 w2 =>
  cases w2
  cases w1 with
  |list ho hall=>exact⟨_,_,ns,rfl,rfl,ho,nV ns _ hall,hlen⟩
theorem x9(l:OpenLaw)(args:List WData):l.row.toRowW.claim.post args (.bool true) args=true :=
 postW_of (r:=l.row.toRowW) (X:=(true==true))
  (show WShape.has [] (.bool true) .bool=true by first|rfl|decide|simp[WShape.has,WShape.arms,WShape.armsAll])
  (show(WTm.eq .res (.lit (.bool true))).value [] {args:=args,res:=some (.bool true),after:=args}=some (.bool (true==true))from w_eq_bool (w_res rfl) w_lit) rfl
theorem tU {l : OpenLaw} {n : Nat} {q : Program} {loose : List Str} {XP : (Str -> Option Value) -> Heap -> Prop} {YP : World -> Heap -> Prop} {d : DefRec}
  (hn : l.most = some n) (hdf : d.params.defaults = [])
  (call : ∀ (w : World) (s₀ s₁ : Shared) (mg mb : Str -> Option Value) (fa : Addr) (o : Obj) (pm cd doc : Value) (a : Addr) (vs : List Value) (ns : List Int),
   Ground q loose [] XP w s₀ mg mb s₁.heap -> YP w s₁.heap →
   s₁.heap.get? fa = some o -> o.data = .func (docDef d.name d.params d.body d.scope pm cd doc) -> s₁.heap.CodeRec cd d.name -> mg d.name = some (.ref fa) →
   s₁.heap.get? a = some { cls := .type "list", data := .seq vs.toArray } -> IntsAre vs ns -> ns.length <= n -> s₁.gens = #[] →
   codeAny (model l.prog w) callerA (.call (.ref fa) ⟨[.ref a], []⟩) (fun r s' => r = .ok (.ret (.bool true)) /\ OldK s₁.heap s'.heap /\ s'.os = s₁.os /\ AllBare s'.gens) s₁) :
  WalkO q loose XP YP l.row.toRowW d [] (fun f vs => PySem.call f vs) := by
 intro w s₀ s₁ mg mb G Y fa o pm cd doc dV kV ho hd hcd hD hmg hg args vals as hpre hlay hrd hwl hlo
 obtain rfl : dV = .none := Dflts.none hD hdf
 obtain rfl : kV = .none := Dflts.noKw hD
 obtain ⟨a, vs, ns, rfl, rfl, hobj, hints, hlen⟩ := yo hn hpre hwl
 refine enter_call (codeAny_mono (call w s₀ s₁ mg mb fa o pm cd doc a vs ns G Y ho (fd_plain hd) hcd hmg hobj hints hlen hg) fun r s' hq => ?_)
 obtain ⟨rfl, h2, h3, h4⟩ := hq
 exact ⟨.inl ⟨.bool true, .bool true, [], rfl, fun _ => rfl, .bool true, x9 l _, fun _ => ⟨List.Pairwise.nil, fun _ hm => (nomatch hm)⟩⟩, h2, h3, h4⟩
section
variable{prog:Program}{w:World}{A:Around}{E:Value->Shared->Prop}{s:Shared}{K:Frag}
def ledger(h:Heap)(L d:Addr):List (Addr×Obj):=(List.range h.objs.size).filterMap fun a=>if a=L∨a=d then none else(h.get? a).map fun o=>(a,o)
end
end Att
namespace L2
open PySem PySem.Spec PyProof.Rows
theorem ju:∀{vs:List Value} {ns:List Int},IntsAre vs ns->Vals (ns.map V.int) vs
 |_,_,.nil=>.nil
 |_,_,.cons n t h=>.cons ⟨t,rfl⟩ (ju h)
def yH(H:Hp):Prop:=∀b,H b=none∨∃ o xs,H b=some (.frz o (.lst xs))
theorem zF{P:Program}{w:World}{K:PySem.W.Frag}{mg mb:Str->Option Value}{CX:CXT}{k:Nat}{fa a:Addr}{fd:FuncData}{x:Str}{sp:Sp}{s₁:Shared}{vs:List Value}{ns:List Int}
  (KX:K.In s₁.heap) (hns:s₁.heap.Ns mainGlobals mg) (hb:s₁.heap.Ns builtinsNs mb) (hbb:∀x:Str,x ≠ "__name__" -> mb x=bootBuiltins x) (hlim:s₁.heap.NoLimit) (hg:s₁.gens=#[])
  (ha:s₁.heap.get? a=some {cls:=.type "list", data:=.seq vs.toArray}) (hi:IntsAre vs ns) (hl:ns.length<=sizeLine) (hr:bX k callerA)
  (F:∀base:Heap,K.In base->base.Ns mainGlobals mg->aS P w K mg base CX k fa fd [x] sp) (hbind:∀(s:Shared) (u:Value),BindsTo s fd ⟨[u],[]⟩ [(x,u)])
  (hsp:∀H:Hp,yH H->SqL K H a (ns.map V.int)->sp [.ref a] H (fun v _=>v=.bl true) fun _ _ _=>False)
  (hCX:∀H e s',CX [] H s₁ (fun _ _ _=>False) e s'->False) :
  codeAny (model P w) callerA (.call (.ref fa) ⟨[.ref a],[]⟩) (fun r s'=>r=.ok (.ret (.bool true))/\OldK s₁.heap s'.heap/\s'.os=s₁.os/\AllBare s'.gens) s₁:=by
 have rv:=ju hi
 have lenV:=hi.length
 have core:∀H:Hp,yH H->SqL K H a (ns.map V.int)->HOk P w H s₁.heap->(∀b,H b≠none->b=a)->(H a≠none->K.lookup a=none) →
   codeAny (model P w) callerA (.call (.ref fa) ⟨[.ref a],[]⟩) (fun r s'=>r=.ok (.ret (.bool true))/\OldK s₁.heap s'.heap/\s'.os=s₁.os/\AllBare s'.gens) s₁:=by
  intro H hO hS hok hA hK
  have base_of:∀{b:Addr} {o:Obj},s₁.heap.get? b=some o->H b=none->(kg s₁.heap H).get? b=some o:=fun e n=>zv e n
  have noA:∀{b:Addr} {o:Obj} {es:Array DictEntry} {ep:Nat},s₁.heap.get? b=some o->o.data=.dict es ep->H b=none:=fun {b o es ep} e d=>by
   cases q:H b with
   |none=>rfl
   |some u =>
    have e':b=a:=hA b (by rw[q];simp)
    subst e'
    rw[ha]at e;cases e
    have d':Data.seq vs.toArray _=Data.dict es ep:=d
    cases d'
  have nsK:∀{b:Addr} {m:Str->Option Value},s₁.heap.Ns b m->(kg s₁.heap H).Ns b m:=fun {b m} ⟨o,es,ep,e,d,r⟩=>⟨o,es,ep,base_of e (noA e d),d,r⟩
  have hKb:K.In (kg s₁.heap H):=fun b o e=>base_of (KX b o e) (by
   cases q:H b with
   |none=>rfl
   |some u =>
    have e':b=a:=hA b (by rw[q];simp)
    subst e'
    rw[hK (by rw[q];simp)]at e;cases e)
  have hM:Mod K mg (kg s₁.heap H):=⟨hKb,nsK hns,⟨mb,nsK hb,hbb⟩,let ⟨mc,h1,h2⟩:=hlim;⟨mc,nsK h1,h2⟩⟩
  have e0:vi P w K mg (kg s₁.heap H) callerA [] s₁ H:=⟨rfl,hM,fun b o e=>By e,Nat.le_of_eq (xw _ _),trivial,fun b hb=>absurd (show b∈([]:List Addr)from hb) (by simp),hok,.of_eq hg⟩
  refine codeAny_mono ((F _ hKb (nsK hns)).run callerA [] s₁ H ⟨[.ref a],[]⟩ [.ref a] [.ref a] _ _ hr e0 (hbind s₁ (.ref a)) (.cons rfl .nil) (hsp H hO hS)) fun r s' h=>?_
  cases r with
  |error e=>exact(hCX H e s' h).elim
  |ok fl =>
   cases fl with
   |next=>exact False.elim h
   |brk=>exact False.elim h
   |cont=>exact False.elim h
   |ret u =>
    obtain⟨v,H',os,bare,un,hok',r',q⟩:=h
    have q':v=.bl true:=q
    subst q'
    obtain rfl:u=Value.bool true:=r'
    refine⟨rfl,OldK.of_keep fun b o e=>?_,os,bare⟩
    cases q:H b with
    |none=>exact un.keep b o e q (by intro z;exact absurd (show b∈([]:List Addr)from z) (by simp)) (by simp)
    |some u =>
     rcases hO b with z|⟨ob,xs,z⟩
     ·rw[q]at z;cases z
     ·have z2:=un.frzs b ob _ z
      obtain⟨e1,_⟩:=hok b _ z
      obtain⟨e2,_⟩:=hok' b _ z2
      rw[e]at e1;cases e1
      exact e2
 cases hk:K.lookup a with
 |some o =>
  have e:=KX a o hk
  rw[ha]at e
  cases e
  refine core (fun _=>none) (fun _=>.inl rfl) (.inr ⟨_,vs.toArray,_,hk,rfl,rfl,rfl,by rw[zAX,lenV];exact hl,by simpa using rv⟩) (fun b u z=>by have z':(none:Option HO)=some u:=z;cases z') (fun b z=>absurd rfl z) fun z=>absurd rfl z
 |none =>
  refine core (fun b=>if b=a then some (.frz {cls:=.type "list", data:=.seq vs.toArray} (.lst (ns.map V.int)))else none) (fun b=>?_) (.inl (.inr ⟨{cls:=.type "list", data:=.seq vs.toArray},if_pos rfl⟩)) (fun b u z=>?_) (fun b z=>?_) fun _=>hk
  ·by_cases hb:b=a
   ·exact .inr ⟨_,_,if_pos hb⟩
   ·exact .inl (if_neg hb)
  ·by_cases hb:b=a
   ·have z':=(if_pos hb).symm.trans z
    cases z'
    subst hb
    exact⟨ha,by rw[zAA];exact hl,vs,_,rv,ha⟩
   ·have z':=(if_neg hb).symm.trans z
    cases z'
  ·by_cases hb:b=a
   ·exact hb
   ·exact absurd (if_neg hb) z
end L2
namespace L2
open PySem PySem.Spec PyProof.Rows
theorem Cb {l : PySem.W.OpenLaw} {n k : Nat} {q : Program} {loose : List Str} {XP : (Str -> Option Value) -> Heap -> Prop} {YP : World -> Heap -> Prop} {d : DefRec} {K : Params -> PySem.W.Frag} {CX : World -> CXT} {sp : World -> Sp} {x : Str}
  (hn : l.most = some n) (hn2 : n <= sizeLine) (hdf : d.params.defaults = []) (hr : bX k callerA)
  (hY : ∀ (w : World) (h : Heap), YP w h -> (K w.params).In h)
  (F : ∀ (w : World) (mg : Str -> Option Value) (fa : Addr) (h : Heap), (K w.params).In h -> h.Ns mainGlobals mg -> mg d.name = some (.ref fa) →
   ∃ fd : FuncData, (∀ (s : Shared) (u : Value), BindsTo s fd ⟨[u], []⟩ [(x, u)]) ∧
    ∀ base : Heap, (K w.params).In base -> base.Ns mainGlobals mg -> aS l.prog w (K w.params) mg base (CX w) k fa fd [x] (sp w))
  (hsp : ∀ (w : World) (H : Hp) (a : Addr) (ns : List Int), ns.length <= n -> yH H -> SqL (K w.params) H a (ns.map V.int) -> sp w [.ref a] H (fun v _ => v = .bl true) fun _ _ _ => False)
  (hCX : ∀ (w : World) (H : Hp) (s : Shared) (e : Value) (s' : Shared), CX w [] H s (fun _ _ _ => False) e s' -> False) :
  PySem.W.WalkO q loose XP YP l.row.toRowW d [] (fun f vs => PySem.call f vs) := by
 refine Att.tU hn hdf fun w s₀ s₁ mg mb fa o pm cd doc a vs ns G Y ho hd hcd hmg hobj hints hlen hg => ?_
 have KX := hY w _ Y
 obtain ⟨fd, hb, hF⟩ := F w mg fa _ KX G.T.g hmg
 exact zF KX G.T.g G.T.b G.T.builtins G.T.nolimit hg hobj hints (zAw hlen hn2) hr hF hb (fun H hO hS => hsp w H a ns hlen hO hS) fun H e s' => hCX w H s₁ e s'
end L2
namespace L2
open PySem PySem.Spec PyProof.Rows
def eB(s:Stmt):Arguments:=match s with
 |.FunctionDef _ a _ _ _ _ _ _ _ _=>a
 |_=>{posonlyargs:=[],args:=[],vararg:=none,kwonlyargs:=[],kw_defaults:=[],kwarg:=none,defaults:=[]}
def cu(s:Stmt):List Stmt:=match s with
 |.FunctionDef _ _ b _ _ _ _ _ _ _=>b
 |_=>[]
def au(s:Stmt):Scope:=match s with
 |.FunctionDef _ _ _ _ _ _ sc _ _ _=>sc
 |_=>{kind:=.function,names:=[],isGenerator:=false,isCoroutine:=false}
abbrev E0:XK:=fun _ _ _=>False
structure Fun(K:PySem.W.Frag)(x qual:Str)(st:Stmt)(f:Addr)(fd:FuncData):Prop where
 ex:∃(oc:Value) (od:Option Addr) (kV doc pm:Value) (an:Option Addr) (cdv ct:Value) (osl:Array (Option Value)),
  fd=PySem.W.fnOf x qual (eB st) (cu st) (au st) .none kV doc pm an cdv ct/\K.lookup f=some ⟨oc,od,.func fd,osl⟩/\PySem.W.codeIn K cdv qual=true
 kp:PySem.W.keepIn K (.ref f)=true
section
variable{P:Program}{w:World}{K:PySem.W.Frag}{mg:Str->Option Value}{base:Heap}
end
section
variable{X:Cx}
theorem pv (i:Nat) {x:Str} {pos:Pos} (hN:X.N[i]?=some x:=by rfl) (hv:Vis X.env.scope x:=by first|exact Or.inl rfl|exact Or.inr (Or.inl rfl)|exact Or.inr (Or.inr rfl)) (hd:(x==("__debug__" : Str))=false:=by decide)
  (hcd:(x==("__classdict__" : Str))=false:=by decide):PE X (.Name x pos) (wO i):=gQ hN hv hd hcd
end
def ar(H H':Hp):Prop:=∀b o,H b=some o->H' b=some o
theorem ar.refl(H:Hp):ar H H:=fun _ _ h=>h
theorem ar.trans{H H1 H2:Hp}(a:ar H H1)(b:ar H1 H2):ar H H2:=fun c o h=>b c o (a c o h)
theorem ar.free{H H':Hp}(e:ar H H'){l:Addr}(h:H' l=Option.none):H l=Option.none:=by
 cases q:H l with
 |none=>rfl
 |some o =>
  rw[e l o q]at h
  cases h
theorem ar.seq{K:PySem.W.Frag}{H H':Hp}{a:Addr}{xs:List V}(e:ar H H')(h:SqL K H a xs):SqL K H' a xs:=by
 rcases h with(h|⟨o,h⟩)|h
 ·exact .inl (.inl (e _ _ h))
 ·exact .inl (.inr ⟨o,e _ _ h⟩)
 ·exact .inr h
end L2
set_option maxHeartbeats 4000000
namespace L2
open PySem PySem.Spec PyProof.Rows
section
variable{κ:Type} [DecidableEq κ]
end
section
variable{P:Program}{w:World}{H:Hp}{h:Heap}{a:Addr}
end
section
variable{X:Cx}{pins:List (Addr×Obj)}{σ:St}{H:Hp}{s:Shared}{a:Addr}{y v:V}{u r:Value}{o:Option V}{A:Around}{E:Value->Shared->Prop}
end
section
variable{X:Cx}{pins:List (Addr×Obj)}{σ:St}{H:Hp}{s:Shared}{a:Addr}{kvs:List (Key×V)}{k:Key}{u:Value}{A:Around}{E:Value->Shared->Prop}
end
section
variable{X:Cx}{o i e value:Expr}{pos pos' tpos:Pos}{td ty tv:TE}
end
section
variable{X:Cx}{pos:Pos}
end
abbrev VV:List (V×V)->List (Value×Value)->Prop:=Paired fun p q=>RelV p.1 q.1/\RelV p.2 q.2
structure M1(X:Cx)(o:Expr)(m:Str)(apos:Pos)(e:Expr)(cpos:Pos):Prop where
 base:attributeBase o m X.env (eval o X.env)=eval o X.env
 few:((backTo cpos (starEach [e] X.env)).all (fun x=>!x.1) && (backToKw cpos (keywordEach [] X.env)).all (fun x=>x.1.isSome)
  && decide (([e]:List Expr).length+([]:List Keyword).length+(if([]:List Keyword).isEmpty then 0 else 1)<30))=true
 line:(apos.endLine==cpos.line)=true
 trees:backTo cpos (starEach [e] X.env)=[(false,eval e X.env)]
structure M2(X:Cx)(o:Expr)(m:Str)(apos:Pos)(e f:Expr)(cpos:Pos):Prop where
 base:attributeBase o m X.env (eval o X.env)=eval o X.env
 few:((backTo cpos (starEach [e,f] X.env)).all (fun x=>!x.1) && (backToKw cpos (keywordEach [] X.env)).all (fun x=>x.1.isSome)
  && decide (([e,f]:List Expr).length+([]:List Keyword).length+(if([]:List Keyword).isEmpty then 0 else 1)<30))=true
 line:(apos.endLine==cpos.line)=true
 trees:backTo cpos (starEach [e,f] X.env)=[(false,eval e X.env),(false,eval f X.env)]
section
variable{X:Cx}{pins:List (Addr×Obj)}{σ:St}{H:Hp}{s:Shared}{a:Addr}{y d:V}{u r:Value}{o:Option V}{A:Around}{E:Value->Shared->Prop}
end
section
variable{X:Cx}{o e f:Expr}{apos cpos:Pos}{td ty tx:TE}
end
section
variable{X:Cx}{pins:List (Addr×Obj)}{σ:St}{H:Hp}{s:Shared}{a:Addr}{kvs:List (Key×V)}{A:Around}{E:Value->Shared->Prop}
end
section
variable{X:Cx}{pins:List (Addr×Obj)}{σ:St}{H:Hp}{s:Shared}{a:Addr}{y:V}{u:Value}{A:Around}{E:Value->Shared->Prop}
end
end L2
namespace PM
theorem sA(a b:Int):Int.gcd b (a.fmod b)=Int.gcd a b:=by
 have h:=Int.fmod_add_mul_fdiv a b
 have h':a=a.fmod b+a.fdiv b*b:=by rw[zAn];exact h.symm
 rw[Int.gcd_comm a b]
 conv=>rhs;rw[h']
 rw[Int.gcd_add_mul_right_right]
theorem qi(a:Int){b:Int}(hb:b≠0):(a.fmod b).natAbs<b.natAbs:=by
 by_cases h:0<b
 ·have h1:=Int.fmod_lt_of_pos a h
  have h2:=zCZ a h
  omega
 ·have h1:b<0:=by omega
  have e:a.fmod b=-((-a).fmod (-b)):=by
   have:=Int.neg_fmod_neg (a:=a) (b:=b)
   omega
  have h2:=Int.fmod_lt_of_pos (-a) (b:=-b) (by omega)
  have h3:=zCZ (-a) (b:=-b) (by omega)
  omega
def g3(x y z:Int):Nat:=Int.gcd (Int.gcd x y:Int) z
theorem o5(x y z:Int):(g3 x y z:Int)∣x:=zCG (Int.gcd_dvd_left _ _) (Int.gcd_dvd_left _ _)
theorem sr(x y z:Int):(g3 x y z:Int)∣y:=zCG (Int.gcd_dvd_left _ _) (Int.gcd_dvd_right _ _)
theorem su(x y z:Int):(g3 x y z:Int)∣z:=Int.gcd_dvd_right _ _
theorem CL{x y z d:Int}(h1:d∣x)(h2:d∣y)(h3:d∣z):d∣(g3 x y z:Int):=zCS (zCS h1 h2) h3
theorem o6{x y z:Int}:g3 x y z=0↔x=0/\y=0/\z=0:=by
 unfold g3
 rw[Int.gcd_eq_zero_iff]
 constructor
 ·rintro⟨h,h3⟩
  have h':Int.gcd x y=0:=by omega
  obtain⟨h1,h2⟩:=Int.gcd_eq_zero_iff.mp h'
  exact⟨h1,h2,h3⟩
 ·rintro⟨h1,h2,h3⟩
  subst h1 h2 h3
  simp
def dv3(x y z l:Int):Int:=if l<0 then -(g3 x y z:Int)else(g3 x y z:Int)
theorem rY{x y z l:Int}(h:¬(x=0/\y=0/\z=0)):dv3 x y z l≠0:=by
 have:g3 x y z≠0:=fun e=>h (o6.mp e)
 unfold dv3
 split<;>omega
theorem uv(x y z l:Int):(dv3 x y z l).natAbs=g3 x y z:=by
 unfold dv3
 split<;>omega
theorem A8{x y z l t:Int}(h:(g3 x y z:Int)∣t):dv3 x y z l∣t:=by
 unfold dv3
 split
 ·exact Int.neg_dvd.mpr h
 ·exact h
theorem du{x y z l t:Int}(h:(g3 x y z:Int)∣t):t.fdiv (dv3 x y z l)*dv3 x y z l=t:=by
 have h':=A8 (l:=l) h
 rw[Int.fdiv_eq_ediv_of_dvd h']
 exact Int.ediv_mul_cancel h'
theorem DF{x y z l:Int}(h:¬(x=0/\y=0/\z=0)):g3 (x.fdiv (dv3 x y z l)) (y.fdiv (dv3 x y z l)) (z.fdiv (dv3 x y z l))=1:=by
 have e1:=du (l:=l) (o5 x y z)
 have e2:=du (l:=l) (sr x y z)
 have e3:=du (l:=l) (su x y z)
 have hn:=rY (l:=l) h
 have habs:=uv x y z l
 generalize x.fdiv (dv3 x y z l)=a at e1 ⊢
 generalize y.fdiv (dv3 x y z l)=b at e2 ⊢
 generalize z.fdiv (dv3 x y z l)=c at e3 ⊢
 generalize dv3 x y z l=g at *
 have hd:(g3 a b c:Int)*g∣(g3 x y z:Int):=by
  refine CL ?_ ?_ ?_
  ·rw[<- e1];exact zCr (o5 a b c) (zBz _)
  ·rw[<- e2];exact zCr (sr a b c) (zBz _)
  ·rw[<- e3];exact zCr (su a b c) (zBz _)
 have hd2:g3 a b c*g.natAbs∣g.natAbs:=by
  rw[habs]
  have:=zCe.mpr hd
  rw[zB8]at this
  simpa [habs]using this
 have hp:0<g.natAbs:=by omega
 have:=Nat.le_of_dvd hp hd2
 have h0:g3 a b c≠0:=by
  intro e
  rw[e]at hd2
  simp at hd2
  omega
 rcases zCC (g3 a b c) 2 with h2|h2
 ·omega
 ·have:2*g.natAbs<=g3 a b c*g.natAbs:=zCm _ h2
  omega
theorem BQ{x y z l:Int}(hl:l≠0)(hd:(g3 x y z:Int)∣l)(h:¬(x=0/\y=0/\z=0)):0<l.fdiv (dv3 x y z l):=by
 have e:=du (l:=l) hd
 have hg:g3 x y z≠0:=fun e=>h (o6.mp e)
 have hs:(l<0/\dv3 x y z l<0)∨(0<l/\0<dv3 x y z l):=by
  unfold dv3
  split
  ·left;omega
  ·right;omega
 generalize l.fdiv (dv3 x y z l)=a at e ⊢
 generalize dv3 x y z l=g at *
 rcases zB4 a 0 with ha|ha|ha
 ·exfalso
  rcases hs with⟨h1,h2⟩| ⟨h1,h2⟩
  ·have:=zBf ha h2
   omega
  ·have:=zAt ha h2
   omega
 ·subst ha
  simp at e
  omega
 ·exact ha
theorem qk(a:Int):Int.gcd a 0=a.natAbs:=by simp
theorem Bi(a b:Int):Int.gcd ((a.natAbs:Nat):Int) ((b.natAbs:Nat):Int)=Int.gcd a b:=by
 unfold Int.gcd
 simp
end PM
namespace PX
open PySem PySem.W PySem.Spec PySem.Calls PyProof.Rows PySem.Builtin.ObjectAttr PySem.Builtin.Getset_descriptor
def ExcAt(e c:Addr)(h:Heap):Prop:=∃o vs,h.get? e=some o/\o.cls=.ref c/\o.data=.fields vs
theorem ExcAt.ty{M:Model}{e c:Addr}{h:Heap}(p:ExcAt e c h):Looks M h (typeOf (.ref e)) (.ref c):=by
 obtain⟨o,vs,h1,h2,_⟩:=p
 exact h2 ▸ (Looks.ld h1).andThen .now
structure vo(K:Frag)(c:Addr):Prop where
 pg:plainGet K c "__class__" = true
 hd:hasDictIn K c=true
 at_:findIn K (.ref c) "__class__" = some (some (.builtin "object.__class__"))
 get:specialIn K (.builtin "object.__class__") "__get__" = some (some (.builtin "getset_descriptor.__get__"))
 takes:takesIn K (.builtin "object.__class__")=some true
 obj:mroIn K c (.type "object")=some true
 not:∀T,(T = "int" ∨ T = "bool" ∨ T = "tuple" ∨ T = "list" ∨ T = "str")->kitOne K (.ref c) (.type T)=some false
structure jx(K:Frag)(c:Addr):Prop where
 cls:(clsIn K c).isSome=true
 ga:findIn K (.ref c) "__getattribute__" = some (some (.builtin "BaseException.__getattribute__"))
 hook:findIn K (.ref c) "__getattr__" = some none
 at_:findIn K (.ref c) "__class__" = some (some (.builtin "object.__class__"))
 get:specialIn K (.builtin "object.__class__") "__get__" = some (some (.builtin "getset_descriptor.__get__"))
 takes:takesIn K (.builtin "object.__class__")=some true
 obj:mroIn K c (.type "object")=some true
 exc:mroIn K c (.type "BaseException")=some true
 not:∀T,(T = "int" ∨ T = "bool" ∨ T = "tuple" ∨ T = "list" ∨ T = "str")->kitOne K (.ref c) (.type T)=some false
section
variable{prog:Program}{w:World}{A:Around}{E:Value->Shared->Prop}{s:Shared}{K:Frag}{e c:Addr}
theorem Ew {R:Result->Shared->Prop} {tp:Value} (X:K.In s.heap) (p:ExcAt e c s.heap) (hm:mroIn K c (.type "object")=some true) (hq:R (.ok (.ret (.ref c))) s) :
  codeAny (model prog w) A (.call (.builtin "getset_descriptor.__get__") ⟨[.builtin "object.__class__", .ref e,tp],[]⟩) R s:=by
 obtain⟨h,g,dr,t,os⟩:=s
 have La:=p.ty (M:=model prog w)
 have Lb:=looks_mroIn (M:=model prog w) X hm
 refine codeAny_call_builtin (KF.slot_gs.plain) KF.entry_gs (KF.slot_gs.check _ _ _ _ _ _ _ _ KF.type_class (KF.args_gs _ _ _) ?_)
 unfold Builtin.«getset_descriptor.__get__» descrGet
 rw[dga_obj]
 refine wpAny_bind (wpAny_pure ?_)
 unfold descrGetter descrCheckInstance descrNameAndClass isInstance
 simp only[KF.owner_class]
 repeat lk
 refine⟨Code.quiet_builtin _ (by decide +kernel),codeAny_builtin KF.entry_class ?_⟩
 unfold Builtin.«object.__class__» shownTypeOf
 repeat lk
 exact hq
theorem D0 {M:Model} {h:Heap} (k:jx K c) (X:K.In h):Looks M h (find (.ref e) (.ref c) "__class__") (.bind (.builtin "getset_descriptor.__get__") (.builtin "object.__class__")):=by
 have La:=looks_findIn (M:=M) X k.at_
 have Lb:Looks M h (getOf (some (.builtin "object.__class__"))) (some (.builtin "getset_descriptor.__get__")):=looks_specialIn X k.get
 have Lc:=looks_takesIn (M:=M) X k.takes
 refine La.andThen (Lb.andThen ?_)
 exact(show Looks M h (dataDescriptor? (some (.builtin "object.__class__")) (some (.builtin "getset_descriptor.__get__"))) (some (.builtin "getset_descriptor.__get__", .builtin "object.__class__"))from Lc.andThen .now).andThen (Looks.tag .now)
theorem Cd{tk:Tok}{Q:Fin->Shared->Prop}(k:jx K c)(X:K.In s.heap)(p:ExcAt e c s.heap)(hq:Q (.done (.ret (.ref c))) s) :
  wpAny (model prog w) A (Builtin.«object.__getattribute__» ⟨[.ref e,.str "__class__" tk],[]⟩) Q E s:=by
 obtain⟨h,g,dr,t,os⟩:=s
 have La:=p.ty (M:=model prog w)
 have Lb:=D0 (M:=model prog w) (e:=e) k X
 refine wpAny_bind (wpAny_pure ?_)
 refine wpAny_bind (wpAny_pure ?_)
 refine wpAny_bind (La.at (wpAny_bind (Lb.at ?_)))
 show wpAny _ _ (bindTo _ _ _ _) _ _ _
 unfold bindTo
 repeat (first|with_reducible refine wpAny_bind ?_|with_reducible refine wpAny_holding ?_)
 refine wpAny_call (Ew X p k.obj ?_)
 exact wpAny_pure hq
theorem Cc{M:Model}{nv:Value}{Q:Unit->Shared->Prop}(k:jx K c)(X:K.In s.heap)(p:ExcAt e c s.heap)(hq:Q () s) :
  wpAny M A (checkBuiltinCall "BaseException.__getattribute__" ⟨[.ref e,nv],[]⟩) Q E s:=by
 obtain⟨h,g,dr,t,os⟩:=s
 have hk:builtinKind "BaseException.__getattribute__" = some .slot:=by decide +kernel
 have hsp:splitId "BaseException.__getattribute__" = some ("BaseException", "__getattribute__"):=by decide +kernel
 have ha:=F.args_bexc_ga (.ref e) nv
 have La:=p.ty (M:=M)
 have Lb:=looks_mroIn (M:=M) X k.exc
 have Li:Looks M h (isInstance (.ref e) (.type "BaseException")) true:=La.andThen Lb
 simp only[checkBuiltinCall,hk,hsp]
 refine wpAny_bind (Li.at ?_)
 repeat (first|wp_step)
 exact hq
theorem x_call{tk:Tok}{R:Result->Shared->Prop}(k:jx K c)(X:K.In s.heap)(p:ExcAt e c s.heap)(hq:R (.ok (.ret (.ref c))) s) :
  codeAny (model prog w) A (.call (.builtin "BaseException.__getattribute__") ⟨[.ref e,.str "__class__" tk],[]⟩) R s :=
 codeAny_call_builtin F.excAttr_ValueError.ga.plain F.entry_bexc_ga (Cc k X p (Cd k X p hq))
theorem DZ{Q:Option Value->Shared->Prop}(k:jx K c)(X:K.In s.heap)(p:ExcAt e c s.heap)(hq:Q (some (.ref c)) {s with toks:=s.toks+1}) :
  wpAny (model prog w) A (getAttr? (.ref e) "__class__") Q E s:=by
 obtain⟨h,g,dr,t,os⟩:=s
 have La:=p.ty (M:=model prog w)
 have Lb:=looks_findIn (M:=model prog w) X k.ga
 have Lc:=looks_findIn (M:=model prog w) X k.hook
 have f3:=F.excAttr_ValueError.ga.bind (.ref e)
 unfold getAttr? getAttrBy? getAttrBy
 refine wpAny_bind (wpAny_mkText (wpAny_bind (wpAny_attempt (wpAny_holding (wpAny_bind (La.at (wpAny_bind (Lb.at ?_))))))))
 have hne:(Value.builtin "BaseException.__getattribute__" == Value.builtin "object.__getattribute__")=false:=by decide +kernel
 simp only[onTheHeap,Bool.true_and,hne,zAa,if_false]
 unfold getAttrByItsOwn hookBefore
 simp only[onTheHeap,if_true]
 refine wpAny_bind (Lc.at ?_)
 refine wpAny_bind (wpAny_attempt (wpAny_holding ?_))
 unfold callGetattribute boundAndCalled
 simp only[Bool.false_and,zAa,if_false]
 refine wpAny_bind (wpAny_of_eq f3 ?_)
 refine wpAny_call (x_call k X p ?_)
 refine wpAny_pure (a:=Value.ref c) ?_
 exact wpAny_pure hq
theorem zE(k:jx K c):KitX K (.ref e) (.ref c) (ExcAt e c) where
 ty:=fun _ _ _ p=>p.ty
 it:=fun _ _ X _=>by
  have h:=k.cls
  unfold clsIn at h
  split at h
  ·rename_i c' d' cd' sl' ho
   intro A' Q' E' s' kk q
   unfold isType loadHead
   exact wpAny_bind (wpAny_loadPart (kk _ _ (X _ _ ho)) (wpAny_pure q))
  ·cases h
 ne:=fun h tp dd its n sl X htp=>by
  have h:=k.cls
  refine Bool.eq_false_iff.mpr fun q=>?_
  have z:c=tp:=Value.ref.inj (beq_iff_eq.mp q)
  subst z
  unfold clsIn at h
  split at h
  ·rename_i c' d' cd' sl' ho
   cases(X _ _ ho).symm.trans htp
  ·cases h
 ca:=fun X p kk=>DZ k X p kk
end
end PX
namespace PD
open PySem PySem.Spec PyProof.Rows L2 PX
abbrev St:=L2.St
def NT:HO->Prop
 |.tbl _=>False
 |_=>True
def EI:Str := "lightest.<locals>.<lambda>"
def Cg(c:Addr):Heap->Prop:=fun h=>h.CodeRec (.ref c) EI
def eT(H:Hp):Prop:=∀P ps,H P=some (.tbl ps)->TriplesOk ps.toList/\∀pos cv,codeAmong pos ps.toList=some cv->∃c,cv=.ref c/\H c=some (.ext (Cg c))
def tabOf(K:PySem.W.Frag):Option Addr :=
 match PySem.W.nsIn K mainGlobals "lightest" with
 |some (some (.ref f))=>(match K.lookup f with
  |some ⟨_,_,.func fd,_⟩=>(match fd.code with
   |.ref c=>(match K.lookup c with
    |some ⟨_,_,.fields vs,_⟩=>(match(vs[11]?:Option Value)with
     |some (.ref P)=>if(K.lookup P).isNone=true then some P else none
     |_=>none)
    |_=>none)
   |_=>none)
  |_=>none)
 |_=>none
structure ar(H H':Hp):Prop where
 kp:∀b o,H b=some o->NT o->H' b=some o
 tb:∀b ps,H b=some (.tbl ps)->∃more,H' b=some (.tbl (ps++more))
 ok:eT H->eT H'
theorem ar.app{H H':Hp}(e:ar H H')(b:Addr)(o:HO)(h:H b=some o)(nt:NT o:=by first|exact True.intro|assumption):H' b=some o:=e.kp b o h nt
instance {H H':Hp}:CoeFun (ar H H') (fun _=>∀(b:Addr) (o:HO),H b=some o->(nt:NT o:=by first|exact True.intro|assumption)->H' b=some o):=⟨@ar.app H H'⟩
theorem ar.refl(H:Hp):ar H H:=⟨fun _ _ h _=>h,fun _ ps h=>⟨#[],by rw[h];simp⟩,id⟩
theorem ar.trans{H H1 H2:Hp}(a:ar H H1)(b:ar H1 H2):ar H H2:=⟨fun c o h n=>b.kp c o (a.kp c o h n) n,fun c ps h=>by
 obtain⟨m1,e1⟩:=a.tb c ps h
 obtain⟨m2,e2⟩:=b.tb c _ e1
 exact⟨m1++m2,by rw[e2,zCA]⟩,fun h=>b.ok (a.ok h)⟩
theorem ar.ex{H H':Hp}(e:ar H H'){b:Addr}{o:HO}(h:H b=some o):∃o',H' b=some o':=by
 by_cases n:NT o
 ·exact⟨o,e.kp b o h n⟩
 ·cases o with
  |tbl ps =>
   obtain⟨m,q⟩:=e.tb b ps h
   exact⟨_,q⟩
  |_=>exact absurd True.intro n
theorem ar.free{H H':Hp}(e:ar H H'){l:Addr}(h:H' l=Option.none):H l=Option.none:=by
 cases q:H l with
 |none=>rfl
 |some o =>
  obtain⟨o',z⟩:=e.ex q
  rw[h]at z;cases z
theorem ar.seq{K:PySem.W.Frag}{H H':Hp}{a:Addr}{xs:List V}(e:ar H H')(h:SqL K H a xs):SqL K H' a xs:=by
 rcases h with(h|⟨o,h⟩)|h
 ·exact .inl (.inl (e _ _ h))
 ·exact .inl (.inr ⟨o,e _ _ h⟩)
 ·exact .inr h
theorem eT.upd{H:Hp}{p:Addr}{o:HO}(n:NT o)(hp:H p=none∨∃ u,H p=some u/\(∀φ,u ≠ .ext φ)/\NT u)(h:eT H):eT (upd H p o):=by
 intro P ps e
 have hne:P≠p:=fun z=>by
  subst z
  rw[aG]at e
  cases e
  exact n
 rw[ay hne]at e
 obtain⟨h1,h2⟩:=h P ps e
 refine⟨h1,fun pos cv q=>?_⟩
 obtain⟨c,e1,e2⟩:=h2 pos cv q
 refine⟨c,e1,?_⟩
 rw[ay fun z=>?_]
 ·exact e2
 ·subst z
  rcases hp with hp|⟨u,hp,hu,_⟩
  ·rw[hp]at e2;cases e2
  ·rw[hp]at e2;cases e2;exact hu _ rfl
structure fD(K:PySem.W.Frag)(H:Hp):Prop where
 ok:eT H
 at':∀P,tabOf K=some P->∃ps,H P=some (.tbl ps)
theorem fD.same{K:PySem.W.Frag}{H H':Hp}(h:fD K H)(e:ar H H'):fD K H':=⟨e.ok h.ok,fun P q=>by
 obtain⟨ps,z⟩:=h.at' P q
 obtain⟨m,z⟩:=e.tb P ps z
 exact⟨_,z⟩⟩
theorem fD.upd{K:PySem.W.Frag}{H:Hp}{p:Addr}{o:HO}(h:fD K H)(n:NT o)(hp:H p=none∨∃ u,H p=some u/\(∀φ,u ≠ .ext φ)/\NT u):fD K (upd H p o):=⟨eT.upd n hp h.ok,fun P q=>by
 obtain⟨ps,z⟩:=h.at' P q
 refine⟨ps,?_⟩
 rw[ay fun e=>?_]
 ·exact z
 ·subst e
  rcases hp with hp|⟨u,hp,_,hu⟩
  ·rw[hp]at z;cases z
  ·rw[hp]at z;cases z;exact hu⟩
inductive D where
 |non|bl (b:Bool)|int (i:Int)|str (x:Str)|tup (ds:List D)|lst (t:Bool) (ds:List D)|exc (c:Addr)|obj (C:Addr) (ns:List Str) (ds:List D)|dic
def Sol:HO->Prop
 |.ext _=>True|.ins _ _ _=>True|_=>False
theorem Sol.nt{o:HO}(h:Sol o):NT o:=by cases o<;>first|exact True.intro|exact h.elim
def SqG(K:PySem.W.Frag)(H:Hp)(t:Bool)(a:Addr)(vs:List V):Prop:=SqL K H a vs/\(t=true->H a=some (.lst vs)/\K.lookup a=none)
theorem SqG.same{K:PySem.W.Frag}{H H':Hp}{t:Bool}{a:Addr}{vs:List V}(e:ar H H')(q:SqG K H t a vs):SqG K H' t a vs:=⟨e.seq q.1,fun z=>⟨e _ _ (q.2 z).1,(q.2 z).2⟩⟩
theorem SqG.any{K:PySem.W.Frag}{H:Hp}{a:Addr}{vs:List V}(q:SqL K H a vs):SqG K H false a vs:=⟨q,fun z=>by cases z⟩
theorem SqG.new{K:PySem.W.Frag}{H:Hp}{t:Bool}{a:Addr}{vs:List V}(q:H a=some (.lst vs))(k:K.lookup a=none):SqG K H t a vs:=⟨SqL.of q,fun _=>⟨q,k⟩⟩
def SqT(_:PySem.W.Frag)(H:Hp)(a:Addr)(xs:List V):Prop:=H a=some (.tup xs)
theorem SqT.w{K:PySem.W.Frag}{H:Hp}{a:Addr}{xs:List V}(h:SqT K H a xs):L2.SqT K H a xs:=.inl (.inl h)
theorem SqT.of{K:PySem.W.Frag}{H:Hp}{a:Addr}{xs:List V}(h:H a=some (.tup xs)):SqT K H a xs:=h
mutual
def Den(K:PySem.W.Frag)(P:Bool->Addr->Prop)(H:Hp):D->V->Prop
 |.non,v=>v=.non
 |.bl b,v=>v=.bl b
 |.int i,v=>v=.int i
 |.str x,v=>v=.str x
 |.tup ds,v=>∃a vs,v=.ref a/\SqT K H a vs/\af K P H ds vs
 |.lst t ds,v=>∃a vs,v=.ref a/\¬P t a/\SqG K H t a vs/\af K P H ds vs
 |.exc c,v=>∃e,v=.ref e/\H e=some (.ext (ExcAt e c))/\jx K c
 |.dic,v=>∃a,v=.ref a/\H a=some (.ext (PySem.W.KitAt a "dict"))
 |.obj C ns ds,v=>∃a dx vs,v=.ref a/\H a=some (.ins C dx (ns.zip vs))/\vs.length=ns.length/\vo K C/\af K P H ds vs
def af(K:PySem.W.Frag)(P:Bool->Addr->Prop)(H:Hp):List D->List V->Prop
 |[],vs=>vs=[]
 |d::ds,vs=>∃v r,vs=v::r/\Den K P H d v/\af K P H ds r
end
section
variable{K:PySem.W.Frag}{P P':Bool->Addr->Prop}{H H':Hp}
mutual
theorem Den.map(hT:∀a vs,SqT K H a vs->SqT K H' a vs)(hL:∀t a vs,¬P t a->SqG K H t a vs->¬P' t a/\SqG K H' t a vs)(hX:∀a o,Sol o->H a=some o->H' a=some o):∀(d:D) (v:V),Den K P H d v->Den K P' H' d v
 |.non,_,h=>by simpa only[Den]using h
 |.bl _,_,h=>by simpa only[Den]using h
 |.int _,_,h=>by simpa only[Den]using h
 |.str _,_,h=>by simpa only[Den]using h
 |.tup ds,_,h=>by
  simp only[Den]at h ⊢
  obtain⟨a,vs,e,q,r⟩:=h
  exact⟨a,vs,e,hT a vs q,af.map hT hL hX ds vs r⟩
 |.lst t ds,_,h=>by
  simp only[Den]at h ⊢
  obtain⟨a,vs,e,p,q,r⟩:=h
  exact⟨a,vs,e,(hL t a vs p q).1,(hL t a vs p q).2,af.map hT hL hX ds vs r⟩
 |.exc c,_,h=>by
  simp only[Den]at h ⊢
  obtain⟨a,e,q,k⟩:=h
  exact⟨a,e,hX a _ True.intro q,k⟩
 |.obj C ns ds,_,h=>by
  simp only[Den]at h ⊢
  obtain⟨a,dx,vs,e,q,l,k,r⟩:=h
  exact⟨a,dx,vs,e,hX a _ True.intro q,l,k,af.map hT hL hX ds vs r⟩
 |.dic,_,h=>by
  simp only[Den]at h ⊢
  obtain⟨a,e,q⟩:=h
  exact⟨a,e,hX a _ True.intro q⟩
theorem af.map(hT:∀a vs,SqT K H a vs->SqT K H' a vs)(hL:∀t a vs,¬P t a->SqG K H t a vs->¬P' t a/\SqG K H' t a vs)(hX:∀a o,Sol o->H a=some o->H' a=some o):∀(ds:List D) (vs:List V),af K P H ds vs->af K P' H' ds vs
 |[],_,h=>by simpa only[af]using h
 |d::ds,_,h=>by
  simp only[af]at h ⊢
  obtain⟨v,r,e,h1,h2⟩:=h
  exact⟨v,r,e,Den.map hT hL hX d v h1,af.map hT hL hX ds r h2⟩
end
end
theorem SqT.same{K:PySem.W.Frag}{H H':Hp}{a:Addr}{xs:List V}(e:ar H H')(h:SqT K H a xs):SqT K H' a xs:=e _ _ h
section
variable{K:PySem.W.Frag}{P:Bool->Addr->Prop}{H H':Hp}
theorem Den.same{d:D}{v:V}(e:ar H H')(h:Den K P H d v):Den K P H' d v:=Den.map (fun _ _ q=>SqT.same e q) (fun _ _ _ p q=>⟨p,q.same e⟩) (fun a _ n q=>e.kp a _ q n.nt) d v h
theorem af.same{ds:List D}{vs:List V}(e:ar H H')(h:af K P H ds vs):af K P H' ds vs:=af.map (fun _ _ q=>SqT.same e q) (fun _ _ _ p q=>⟨p,q.same e⟩) (fun a _ n q=>e.kp a _ q n.nt) ds vs h
theorem Den.fewer{P':Bool->Addr->Prop}{d:D}{v:V}(e:∀t a,P' t a->P t a)(h:Den K P H d v):Den K P' H d v:=Den.map (fun _ _ q=>q) (fun _ _ _ p q=>⟨fun z=>p (e _ _ z),q⟩) (fun _ _ _ q=>q) d v h
theorem af.fewer{P':Bool->Addr->Prop}{ds:List D}{vs:List V}(e:∀t a,P' t a->P t a)(h:af K P H ds vs):af K P' H ds vs:=af.map (fun _ _ q=>q) (fun _ _ _ p q=>⟨fun z=>p (e _ _ z),q⟩) (fun _ _ _ q=>q) ds vs h
theorem af.len:∀{ds:List D} {vs:List V},af K P H ds vs->vs.length=ds.length
 |[],_,h=>by simp only[af]at h;subst h;rfl
 |d::ds,_,h=>by
  simp only[af]at h
  obtain⟨v,r,rfl,_,h2⟩:=h
  simp[af.len h2]
theorem af.get:∀{ds:List D} {vs:List V} {i:Nat} {d:D},af K P H ds vs->ds[i]?=some d->∃v,vs[i]?=some v/\Den K P H d v
 |[],_,_,_,_,e=>by simp at e
 |d::ds,_,0,_,h,e=>by
  simp only[af]at h
  obtain⟨v,r,rfl,h1,_⟩:=h
  simp at e;subst e
  exact⟨v,rfl,h1⟩
 |d::ds,_,i+1,x,h,e=>by
  simp only[af]at h
  obtain⟨v,r,rfl,_,h2⟩:=h
  obtain⟨u,e1,e2⟩:=af.get (i:=i) (d:=x) h2 (by simpa using e)
  exact⟨u,by simpa using e1,e2⟩
theorem af.bg:∀{ds:List D} {vs:List V} {i:Nat} {v:V},af K P H ds vs->vs[i]?=some v->∃d,ds[i]?=some d/\Den K P H d v
 |[],_,_,_,h,e=>by simp only[af]at h;subst h;simp at e
 |d::ds,_,0,_,h,e=>by
  simp only[af]at h
  obtain⟨v,r,rfl,h1,_⟩:=h
  simp at e;subst e
  exact⟨d,rfl,h1⟩
 |d::ds,_,i+1,x,h,e=>by
  simp only[af]at h
  obtain⟨v,r,rfl,_,h2⟩:=h
  obtain⟨u,e1,e2⟩:=af.bg (i:=i) (v:=x) h2 (by simpa using e)
  exact⟨u,by simpa using e1,e2⟩
theorem af.append:∀{ds es:List D} {vs us:List V},af K P H ds vs->af K P H es us->af K P H (ds++es) (vs++us)
 |[],_,_,_,h,h'=>by simp only[af]at h;subst h;exact h'
 |d::ds,_,_,_,h,h'=>by
  simp only[af]at h
  obtain⟨v,r,rfl,h1,h2⟩:=h
  simp only[zAe,af]
  exact⟨v,_,rfl,h1,af.append h2 h'⟩
theorem af.one{d:D}{v:V}(h:Den K P H d v):af K P H [d] [v]:=by
 simp only[af]
 exact⟨v,[],rfl,h,rfl⟩
theorem af.nil:af K P H [] []:=by simp only[af]
theorem af.cons{d:D}{v:V}{ds:List D}{vs:List V}(h:Den K P H d v)(h':af K P H ds vs):af K P H (d::ds) (v::vs):=by
 simp only[af]
 exact⟨v,vs,rfl,h,h'⟩
theorem Den.int_{i:Int}{v:V}(h:Den K P H (.int i) v):v=.int i:=by simpa only[Den]using h
theorem Den.bl_{b:Bool}{v:V}(h:Den K P H (.bl b) v):v=.bl b:=by simpa only[Den]using h
theorem Den.non_{v:V}(h:Den K P H .non v):v=.non:=by simpa only[Den]using h
theorem Den.str_{x:Str}{v:V}(h:Den K P H (.str x) v):v=.str x:=by simpa only[Den]using h
theorem Den.int(i:Int):Den K P H (.int i) (.int i):=by simp only[Den]
theorem Den.bl(b:Bool):Den K P H (.bl b) (.bl b):=by simp only[Den]
theorem Den.non:Den K P H .non .non:=by simp only[Den]
theorem Den.str(x:Str):Den K P H (.str x) (.str x):=by simp only[Den]
theorem Den.tup_{ds:List D}{v:V}(h:Den K P H (.tup ds) v):∃a vs,v=.ref a/\SqT K H a vs/\af K P H ds vs:=by simpa only[Den]using h
theorem Den.lstG_{t:Bool}{ds:List D}{v:V}(h:Den K P H (.lst t ds) v):∃a vs,v=.ref a/\¬P t a/\SqG K H t a vs/\af K P H ds vs:=by simpa only[Den]using h
theorem Den.lst_{t:Bool}{ds:List D}{v:V}(h:Den K P H (.lst t ds) v):∃a vs,v=.ref a/\¬P t a/\SqL K H a vs/\af K P H ds vs:=by
 obtain⟨a,vs,h1,h2,h3,h4⟩:=h.lstG_
 exact⟨a,vs,h1,h2,h3.1,h4⟩
theorem Den.dic_ {v:V} (h:Den K P H .dic v):∃a,v=.ref a/\H a=some (.ext (PySem.W.KitAt a "dict")):=by simpa only[Den]using h
theorem Den.dic {a:Addr} (h:H a=some (.ext (PySem.W.KitAt a "dict"))):Den K P H .dic (.ref a):=by simp only[Den];exact⟨a,rfl,h⟩
theorem Den.obj_{C:Addr}{ns:List Str}{ds:List D}{v:V}(h:Den K P H (.obj C ns ds) v):∃a dx vs,v=.ref a/\H a=some (.ins C dx (ns.zip vs))/\vs.length=ns.length/\vo K C/\af K P H ds vs:=by simpa only[Den]using h
theorem Den.obj{C a dx:Addr}{ns:List Str}{ds:List D}{vs:List V}(h:H a=some (.ins C dx (ns.zip vs)))(l:vs.length=ns.length)(k:vo K C)(d:af K P H ds vs):Den K P H (.obj C ns ds) (.ref a):=by simp only[Den];exact⟨a,dx,vs,rfl,h,l,k,d⟩
theorem Den.exc_{c:Addr}{v:V}(h:Den K P H (.exc c) v):∃e,v=.ref e/\H e=some (.ext (ExcAt e c))/\jx K c:=by simpa only[Den]using h
theorem Den.exc{c e:Addr}(h:H e=some (.ext (ExcAt e c)))(k:jx K c):Den K P H (.exc c) (.ref e):=by simp only[Den];exact⟨e,rfl,h,k⟩
theorem Den.tup{ds:List D}{a:Addr}{vs:List V}(h:SqT K H a vs)(h':af K P H ds vs):Den K P H (.tup ds) (.ref a):=by simp only[Den];exact⟨a,vs,rfl,h,h'⟩
theorem Den.lst{t:Bool}{ds:List D}{a:Addr}{vs:List V}(p:¬P t a)(h:SqG K H t a vs)(h':af K P H ds vs):Den K P H (.lst t ds) (.ref a):=by simp only[Den];exact⟨a,vs,rfl,p,h,h'⟩
end
inductive LI where
 |own (ds:List D)|val (d:D)
inductive OS where
 |lst (ds:List D)|dk (kvs:List (Key×D))|dt (kvs:List (List Key×D))|ll (xs:List LI)
inductive Sl where
 |val (d:D)
 |ob (x:OS)
abbrev Sl.own(ds:List D):Sl:=.ob (.lst ds)
def az(K:PySem.W.Frag)(P:Bool->Addr->Prop)(H:Hp)(B:Nat->Option Addr):Nat->List LI->List V->Prop
 |_,[],vs=>vs=[]
 |k,.own ds::r,vs=>∃b us u,vs=.ref b::u/\B k=some b/\H b=some (.lst us)/\af K P H ds us/\az K P H B (k+1) r u
 |k,.val d::r,vs=>∃v u,vs=v::u/\Den K P H d v/\az K P H B (k+1) r u
theorem az.map{K:PySem.W.Frag}{P P':Bool->Addr->Prop}{H H':Hp}{B B':Nat->Option Addr}(hd:∀ds vs,af K P H ds vs->af K P' H' ds vs)(hB:∀k b,B k=some b->B' k=some b/\∀us,H b=some (.lst us)->H' b=some (.lst us)):∀{k:Nat} {xs:List LI} {vs:List V},az K P H B k xs vs->az K P' H' B' k xs vs
 |_,[],_,h=>by simpa only[az]using h
 |k,.own ds::r,_,h=>by
  simp only[az]at h ⊢
  obtain⟨b,us,u,e,h1,h2,h3,h4⟩:=h
  exact⟨b,us,u,e,(hB k b h1).1,(hB k b h1).2 us h2,hd ds us h3,az.map hd hB h4⟩
 |k,.val d::r,_,h=>by
  simp only[az]at h ⊢
  obtain⟨v,u,e,h1,h2⟩:=h
  have h3:=hd [d] [v] (af.one h1)
  simp only[af]at h3
  obtain⟨v',r',e',h4,_⟩:=h3
  cases e'
  exact⟨v,u,e,h4,az.map hd hB h2⟩
inductive cQ (K:PySem.W.Frag) (P:Bool->Addr->Prop) (H:Hp) (B:Nat->Option Addr):OS->HO->Prop where
 |lst {ds:List D} {vs:List V} (h:af K P H ds vs):cQ K P H B (.lst ds) (.lst vs)
 |ll {xs:List LI} {vs:List V} (h:az K P H B 0 xs vs):cQ K P H B (.ll xs) (.lst vs)
 |dk {kvs:List (Key×D)} {kws:List (Key×V)} (e:kws.map (·.1)=kvs.map (·.1)) (h:af K P H (kvs.map (·.2)) (kws.map (·.2))):cQ K P H B (.dk kvs) (.dK kws)
 |dt {kvs:List (List Key×D)} {kws:List (List Key×V)} (e:kws.map (·.1)=kvs.map (·.1)) (h:af K P H (kvs.map (·.2)) (kws.map (·.2))):cQ K P H B (.dt kvs) (.dT kws)
def iS:HO->Prop
 |.lst _=>True|.dK _=>True|.dT _=>True|_=>False
theorem iS.nt{o:HO}(h:iS o):NT o:=by cases o<;>first|exact True.intro|exact h.elim
theorem iS.sol{o:HO}(h:iS o):¬Sol o:=by cases o<;>first|exact h.elim|exact fun z=>z
theorem iS.ne{o:HO}(h:iS o):∀φ,o ≠ .ext φ:=fun _ e=>by subst e;exact h
section
variable{K:PySem.W.Frag}{P P':Bool->Addr->Prop}{H H':Hp}{B B':Nat->Option Addr}{x:OS}{o:HO}
theorem cQ.map(k:∀ds vs,af K P H ds vs->af K P' H' ds vs)(hB:∀k b,B k=some b->B' k=some b/\∀us,H b=some (.lst us)->H' b=some (.lst us))(h:cQ K P H B x o):cQ K P' H' B' x o:=by
 cases h with
 |lst h=>exact .lst (k _ _ h)
 |ll h=>exact .ll (h.map k hB)
 |dk e h=>exact .dk e (k _ _ h)
 |dt e h=>exact .dt e (k _ _ h)
theorem cQ.same(e:ar H H')(h:cQ K P H B x o):cQ K P H' B x o:=h.map (fun _ _ z=>z.same e) fun _ _ q=>⟨q,fun _ z=>e _ _ z⟩
theorem cQ.fewer(e:∀t a,P' t a->P t a)(hB:∀k b,B k=some b->B' k=some b)(h:cQ K P H B x o):cQ K P' H B' x o:=h.map (fun _ _ z=>z.fewer e) fun k b q=>⟨hB k b q,fun _ z=>z⟩
theorem cQ.mut(h:cQ K P H B x o):iS o:=by cases h<;>exact True.intro
theorem cQ.lst_{ds:List D}(h:cQ K P H B (.lst ds) o):∃vs,o=.lst vs/\af K P H ds vs:=by
 cases h with
 |lst h=>exact⟨_,rfl,h⟩
end
abbrev Ro:=List (Option Sl)
structure Own where
 B:Addr->Prop
 O:Nat->Option Addr
 S:Addr->Prop
def Own.bad(W:Own)(t:Bool)(a:Addr):Prop:=W.B a∨(∃i,W.O i=some a)∨(t=true/\W.S a)
def Own.drop(W:Own)(i:Nat):Own:=⟨W.B,fun j=>if j=i then none else W.O j,W.S⟩
def Own.put(W:Own)(i:Nat)(a:Addr):Own:=⟨W.B,fun j=>if j=i then some a else W.O j,W.S⟩
theorem Own.drop_bad{W:Own}{i:Nat}{t:Bool}{a:Addr}(h:(W.drop i).bad t a):W.bad t a:=by
 rcases h with h|⟨j,h⟩| h
 ·exact .inl h
 ·have h':(if j=i then none else W.O j)=some a:=h
  by_cases e:j=i
  ·rw[if_pos e]at h';cases h'
  ·rw[if_neg e]at h';exact .inr (.inl ⟨j,h'⟩)
 ·exact .inr (.inr h)
theorem Own.bad_up{W:Own}{t:Bool}{a:Addr}(h:W.bad false a):W.bad t a:=by
 rcases h with h|h|⟨h,_⟩
 ·exact .inl h
 ·exact .inr (.inl h)
 ·cases h
def vix(n i k:Nat):Nat:=n*(k+1)+i
theorem gY{n i j k:Nat}(h:j<n):vix n i k≠j:=fun e=>by
 unfold vix at e
 rw[Nat.mul_add]at e
 omega
theorem vc{n i j k l:Nat}(hi:i<n)(hj:j<n)(e:vix n i k=vix n j l):i=j/\k=l:=by
 unfold vix at e
 have h1:(n*(k+1)+i) % n=i:=by rw[Nat.mul_add_mod,zAg hi]
 have h2:(n*(l+1)+j) % n=j:=by rw[Nat.mul_add_mod,zAg hj]
 have e1:i=j:=by rw[<- h1,e,h2]
 refine⟨e1,?_⟩
 have h3:n*(k+1)=n*(l+1):=by omega
 have:=Nat.eq_of_mul_eq_mul_left (by omega) h3
 omega
abbrev Own.sub(W:Own)(n i:Nat)(k:Nat):Option Addr:=W.O (vix n i k)
theorem Own.drop_sub{W:Own}{n i j:Nat}(h:i<n)(k:Nat)(b:Addr)(e:W.sub n j k=some b):(W.drop i).sub n j k=some b:=by
 show(if vix n j k=i then none else W.O (vix n j k))=_
 rw[if_neg (gY h)]
 exact e
structure Rel(X:Cx)(W:Own)(H:Hp)(σ:St)(ρ:Ro):Prop where
 val:∀(i:Nat) (d:D),ρ[i]?=some (some (Sl.val d))->∃v,σ[i]?=some (some v)/\Den X.K W.bad H d v
 own:∀(i:Nat) (x:OS),ρ[i]?=some (some (Sl.ob x))->∃a o,W.O i=some a/\σ[i]?=some (some (.ref a))/\H a=some o/\cQ X.K W.bad H (W.sub σ.length i) x o
 inj:∀i j a,W.O i=some a->W.O j=some a->i=j
 kn:∀i a,W.O i=some a->X.K.lookup a=none/\(¬W.B a/\¬W.S a)/\∃o,H a=some o/\iS o
 ke:∀i a,W.O i=some a->X.H₀ a=none
 bt:∀a,W.B a->∃o,H a=some o
 st:∀a,W.S a->∃o,H a=some o
 ent:ar X.H₀ H
 tab:fD X.K H
theorem Rel.same{X:Cx}{W:Own}{H H':Hp}{σ:St}{ρ:Ro}(r:Rel X W H σ ρ)(e:ar H H'):Rel X W H' σ ρ where
 val:=fun i d h=>let ⟨v,h1,h2⟩:=r.val i d h;⟨v,h1,h2.same e⟩
 own:=fun i ds h=>let ⟨a,vs,h1,h2,h3,h4⟩:=r.own i ds h;⟨a,vs,h1,h2,e.kp _ _ h3 h4.mut.nt,h4.same e⟩
 inj:=r.inj
 kn:=fun i a h=>let ⟨h1,h2,o,h3,h4⟩:=r.kn i a h;⟨h1,h2,o,e.kp _ _ h3 h4.nt,h4⟩
 ke:=r.ke
 bt:=fun a h=>let ⟨_,q⟩:=r.bt a h;e.ex q
 st:=fun a h=>let ⟨_,q⟩:=r.st a h;e.ex q
 ent:=r.ent.trans e
 tab:=r.tab.same e
theorem Rel.ownL{X:Cx}{W:Own}{H:Hp}{σ:St}{ρ:Ro}(r:Rel X W H σ ρ)(i:Nat)(ds:List D)(h:ρ[i]?=some (some (Sl.own ds))):∃a vs,W.O i=some a/\σ[i]?=some (some (.ref a))/\H a=some (.lst vs)/\af X.K W.bad H ds vs:=by
 obtain⟨a,o,h1,h2,h3,h4⟩:=r.own i _ h
 obtain⟨vs,e,h5⟩:=h4.lst_
 subst e
 exact⟨a,vs,h1,h2,h3,h5⟩
theorem Rel.tracked{X:Cx}{W:Own}{H:Hp}{σ:St}{ρ:Ro}(r:Rel X W H σ ρ)(t:Bool)(a:Addr)(h:W.bad t a):∃o,H a=some o:=by
 rcases h with h|⟨i,h⟩| ⟨_,h⟩
 ·exact r.bt a h
 ·obtain⟨_,_,o,q,_⟩:=r.kn i a h
  exact⟨_,q⟩
 ·exact r.st a h
theorem Rel.fresh{X:Cx}{W:Own}{H:Hp}{σ:St}{ρ:Ro}(r:Rel X W H σ ρ){t:Bool}{p:Addr}(h:H p=none):¬W.bad t p:=fun z=>by
 obtain⟨o,q⟩:=r.tracked t p z
 rw[h]at q;cases q
structure Fwd(W:Own)(H:Hp)(W':Own)(H':Hp):Prop where
 B:W'.B=W.B
 S:W'.S=W.S
 kp:∀b o,(∀i,W.O i≠some b)->H b=some o->NT o->H' b=some o
 new:∀i a,W'.O i=some a->(∃j,W.O j=some a)∨H a=none
 tb:∀b ps,H b=some (.tbl ps)->∃more,H' b=some (.tbl (ps++more))
 ok:eT H->eT H'
theorem Fwd.keep{W W':Own}{H H':Hp}(f:Fwd W H W' H')(b:Addr)(o:HO)(h:∀i,W.O i≠some b)(q:H b=some o)(nt:NT o:=by first|exact True.intro|assumption):H' b=some o:=f.kp b o h q nt
theorem Fwd.ex{W W':Own}{H H':Hp}(f:Fwd W H W' H'){b:Addr}{o:HO}(h:∀i,W.O i≠some b)(q:H b=some o):∃o',H' b=some o':=by
 by_cases n:NT o
 ·exact⟨o,f.kp b o h q n⟩
 ·cases o with
  |tbl ps =>
   obtain⟨m,e⟩:=f.tb b ps q
   exact⟨_,e⟩
  |_=>exact absurd True.intro n
theorem Fwd.refl(W:Own)(H:Hp):Fwd W H W H:=⟨rfl,rfl,fun _ _ _ h _=>h,fun i _ h=>.inl ⟨i,h⟩,fun _ ps h=>⟨#[],by rw[h];simp⟩,id⟩
theorem Fwd.trans{W W1 W2:Own}{H H1 H2:Hp}(a:Fwd W H W1 H1)(b:Fwd W1 H1 W2 H2):Fwd W H W2 H2:=by
 refine⟨b.B.trans a.B,b.S.trans a.S,fun x o n h t=>b.kp x o (fun i z=>?_) (a.kp x o n h t) t,fun i x h=>?_,fun c ps h=>?_,fun h=>b.ok (a.ok h)⟩
 ·rcases a.new i x z with⟨j,q⟩| q
  ·exact n j q
  ·rw[h]at q;cases q
 ·rcases b.new i x h with⟨j,q⟩| q
  ·exact a.new j x q
  ·by_cases z:∃j,W.O j=some x
   ·exact .inl z
   ·refine .inr ?_
    cases e:H x with
    |none=>rfl
    |some o =>
     obtain⟨o',this⟩:=a.ex (fun i w=>z ⟨i,w⟩) e
     rw[this]at q;cases q
 ·obtain⟨m1,e1⟩:=a.tb c ps h
  obtain⟨m2,e2⟩:=b.tb c _ e1
  exact⟨m1++m2,by rw[e2,zCA]⟩
theorem Fwd.same{W:Own}{H H':Hp}(e:ar H H'):Fwd W H W H':=⟨rfl,rfl,fun _ _ _ h n=>e.kp _ _ h n,fun i _ h=>.inl ⟨i,h⟩,e.tb,e.ok⟩
theorem ar.ins{H₀ H:Hp}(e:ar H₀ H){a:Addr}{o o':HO}(h0:H₀ a=none)(ha:H a=some o)(hm:iS o)(hn:NT o'):ar H₀ (upd H a o') :=
 ⟨fun b u h n=>by rw[ay (aV h h0)];exact e.kp b u h n,fun b ps h=>by rw[ay (aV h h0)];exact e.tb b ps h,fun h=>eT.upd hn (.inr ⟨o,ha,hm.ne,hm.nt⟩) (e.ok h)⟩
theorem Fwd.upd{W:Own}{H:Hp}{i:Nat}{a:Addr}{o o':HO}(oa:W.O i=some a)(ha:H a=some o)(hm:iS o)(hn:NT o'):Fwd W H W (upd H a o') :=
 ⟨rfl,rfl,fun b u n h _=>by rw[ay fun e=>n i (by rw[e];exact oa)];exact h,fun j _ h=>.inl ⟨j,h⟩,fun b ps h=>⟨#[],by rw[ay (fun e=>by subst e;rw[ha]at h;cases h;exact hm),h];simp⟩,eT.upd hn (.inr ⟨o,ha,hm.ne,hm.nt⟩)⟩
structure iB where
 nx:Ro->Prop
 rt:D->Prop
 bk:Ro->Prop:=fun _=>False
 ct:Ro->Prop:=fun _=>False
abbrev DE:=Ro->(D->Prop)->Prop
abbrev DT:=Ro->(Bool->Prop)->Prop
abbrev DA:=Ro->(List D->Prop)->Prop
abbrev DS:=iB->Ro->Prop
def DP(X:Cx)(pins:List (Addr×Obj))(σ:St)(W:Own)(H:Hp)(Q:D->Prop)(u:Value)(s':Shared):Prop :=
 ∃ v H' d,Inv X pins σ H' s'/\RelV v u/\ar H H'/\Den X.K W.bad H' d v/\Q d
def DTP(X:Cx)(pins:List (Addr×Obj))(σ:St)(H:Hp)(Q:Bool->Prop)(b:Bool)(s':Shared):Prop :=
 ∃ H',Inv X pins σ H' s'/\ar H H'/\Q b
def DAP(X:Cx)(pins:List (Addr×Obj))(σ:St)(W:Own)(H:Hp)(Q:List D->Prop)(us:List Value)(s':Shared):Prop :=
 ∃ vs H' ds,Inv X pins σ H' s'/\Vals vs us/\ar H H'/\af X.K W.bad H' ds vs/\Q ds
def SPD(X:Cx)(pins:List (Addr×Obj))(W:Own)(H:Hp)(E:iB)(f:Flow)(s':Shared):Prop :=
 ∃ W' σ' H',Inv X pins σ' H' s'/\Fwd W H W' H' ∧
 match f with
 |.next=>∃ρ',Rel X W' H' σ' ρ'/\E.nx ρ'
 |.brk=>∃ρ',Rel X W' H' σ' ρ'/\E.bk ρ'
 |.cont=>∃ρ',Rel X W' H' σ' ρ'/\E.ct ρ'
 |.ret u=>∃v d,RelV v u/\Den X.K W'.bad H' d v/\E.rt d
def PED(X:Cx)(e:Expr)(t:DE):Prop :=
 ∀ (pins:List (Addr×Obj)) (s:Shared) (σ:St) (H:Hp) (W:Own) (ρ:Ro) (Q:D->Prop),Inv X pins σ H s->Rel X W H σ ρ->t ρ Q →
  wpAny (model X.prog X.w) X.A (eval e X.env) (DP X pins σ W H Q) X.xe s
def PTD(X:Cx)(e:Expr)(t:DT):Prop :=
 ∀ (pins:List (Addr×Obj)) (s:Shared) (σ:St) (H:Hp) (W:Own) (ρ:Ro) (Q:Bool->Prop),Inv X pins σ H s->Rel X W H σ ρ->t ρ Q →
  wpAny (model X.prog X.w) X.A (isTrue e X.env (eval e X.env)) (DTP X pins σ H Q) X.xe s
def PWD(X:Cx)(e:Expr)(t:DT):Prop :=
 ∀ (whole:Sem Value) (pins:List (Addr×Obj)) (s:Shared) (σ:St) (H:Hp) (W:Own) (ρ:Ro) (Q:Bool->Prop),Inv X pins σ H s->Rel X W H σ ρ->t ρ Q →
  wpAny (model X.prog X.w) X.A (isTrue e X.env whole) (DTP X pins σ H Q) X.xe s
theorem PWD.pt{X:Cx}{e:Expr}{t:DT}(h:PWD X e t):PTD X e t:=h _
def PAD(X:Cx)(es:List Expr)(t:DA):Prop :=
 ∀ (pos:Pos) (pins:List (Addr×Obj)) (s:Shared) (σ:St) (H:Hp) (W:Own) (ρ:Ro) (Q:List D->Prop),Inv X pins σ H s->Rel X W H σ ρ->t ρ Q →
  wpAny (model X.prog X.w) X.A (spliced (backTo pos (starEach es X.env))) (DAP X pins σ W H Q) X.xe s
def PSD(X:Cx)(st:Stmt)(t:DS):Prop :=
 ∀ (pins:List (Addr×Obj)) (s:Shared) (σ:St) (H:Hp) (W:Own) (ρ:Ro) (E:iB),Inv X pins σ H s->Rel X W H σ ρ->t E ρ →
  wpAny (model X.prog X.w) X.A (exec st X.env) (SPD X pins W H E) X.xe s
def cT(X:Cx)(st:List Stmt)(t:DS):Prop :=
 ∀ (pins:List (Addr×Obj)) (s:Shared) (σ:St) (H:Hp) (W:Own) (ρ:Ro) (E:iB),Inv X pins σ H s->Rel X W H σ ρ->t E ρ →
  wpAny (model X.prog X.w) X.A (execs st X.env) (SPD X pins W H E) X.xe s
def AG(X:Cx)(t:DE):TE:=fun σ H Q=>∃W ρ Qd,Rel X W H σ ρ/\t ρ Qd/\∀v H' d,ar H H'->Den X.K W.bad H' d v->Qd d->Q v H'
def Eg(X:Cx)(t:DS):TS:=fun D σ H=>∃W ρ Ed,Rel X W H σ ρ/\t Ed ρ ∧
 (∀W' σ' H' ρ',Fwd W H W' H'->Rel X W' H' σ' ρ'->Ed.nx ρ'->D.nx σ' H') ∧
 (∀W' H' v d,Fwd W H W' H'->Den X.K W'.bad H' d v->Ed.rt d->D.rt v H') ∧
 (∀W' σ' H' ρ',Fwd W H W' H'->Rel X W' H' σ' ρ'->Ed.bk ρ'->D.bk σ' H') ∧
 (∀W' σ' H' ρ',Fwd W H W' H'->Rel X W' H' σ' ρ'->Ed.ct ρ'->D.ct σ' H')
section
variable{X:Cx}
theorem PED.pe{e:Expr}{t:DE}(h:PED X e t):PE X e (AG X t):=by
 intro pins s σ H Q I q
 obtain⟨W,ρ,Qd,r,ht,k⟩:=q
 exact thn (h pins s σ H W ρ Qd I r ht) fun u s1 ⟨v,H',d,I1,rv,e1,hd,qd⟩=>⟨v,H',I1,rv,k v H' d e1 hd qd⟩
theorem cT.ps{st:List Stmt}{t:DS}(h:cT X st t):PSs X st (Eg X t):=by
 intro pins s σ H D I q
 obtain⟨W,ρ,Ed,r,ht,k1,k2,k3,k4⟩:=q
 refine thn (h pins s σ H W ρ Ed I r ht) fun f s1 ⟨W',σ',H',I1,fw,q⟩=>?_
 cases f with
 |next=>obtain⟨ρ',r',q'⟩:=q;exact⟨σ',H',I1,k1 W' σ' H' ρ' fw r' q'⟩
 |brk=>obtain⟨ρ',r',q'⟩:=q;exact⟨σ',H',I1,k3 W' σ' H' ρ' fw r' q'⟩
 |cont=>obtain⟨ρ',r',q'⟩:=q;exact⟨σ',H',I1,k4 W' σ' H' ρ' fw r' q'⟩
 |ret u=>obtain⟨v,d,rv,hd,q'⟩:=q;exact⟨v,σ',H',I1,rv,k2 W' H' v d fw hd q'⟩
theorem PED.of{e:Expr}{te:TE}{t:DE}(h:PE X e te)(k:∀σ H W ρ Q,Rel X W H σ ρ->t ρ Q->te σ H fun v H'=>ar H H'/\∃d,Den X.K W.bad H' d v/\Q d):PED X e t:=by
 intro pins s σ H W ρ Q I r ht
 exact thn (h pins s σ H _ I (k σ H W ρ Q r ht)) fun u s1 ⟨v,H',I1,rv,e1,d,hd,q⟩=>⟨v,H',d,I1,rv,e1,hd,q⟩
end
section
variable{X:Cx}{a b c:Expr}{ta tb:DE}{pos:Pos}
def jz(i:Nat):DE:=fun ρ Q=>∃d,ρ[i]?=some (some (.val d))/\Q d
def dC(d:D):DE:=fun _ Q=>Q d
theorem dv (i:Nat) {x:Str} {pos:Pos} (hN:X.N[i]?=some x:=by rfl) (hv:Vis X.env.scope x:=by first|exact Or.inl rfl|exact Or.inr (Or.inl rfl)|exact Or.inr (Or.inr rfl)) (hd:(x==("__debug__" : Str))=false:=by decide)
  (hcd:(x==("__classdict__" : Str))=false:=by decide):PED X (.Name x pos) (jz i) :=
 PED.of (gQ hN hv hd hcd) fun σ H W ρ Q r ht=>by
  obtain⟨d,e,q⟩:=ht
  obtain⟨v,e1,e2⟩:=r.val i d e
  exact⟨v,e1,ar.refl H,d,e2,q⟩
theorem ae{i j pos}:PED X (.Constant (.int i) j pos) (dC (.int i)):=PED.of gP fun _ H _ _ _ _ q=>⟨ar.refl H,_,Den.int i,q⟩
theorem eU{i j pos}:PED X (.Constant (.bool i) j pos) (dC (.bl i)):=PED.of Eo fun _ H _ _ _ _ q=>⟨ar.refl H,_,Den.bl i,q⟩
theorem nL{j pos}:PED X (.Constant .none j pos) (dC .non):=PED.of Du fun _ H _ _ _ _ q=>⟨ar.refl H,_,Den.non,q⟩
theorem rT{x j pos}:PED X (.Constant (.str x) j pos) (dC (.str x)):=PED.of Dv fun _ H _ _ _ _ q=>⟨ar.refl H,_,Den.str x,q⟩
abbrev RD2:=D->D->(D->Prop)->Prop
def OpD(X:Cx)(f:Value->Value->Sem Value)(r:RD2):Prop :=
 ∀ (pins:List (Addr×Obj)) (s:Shared) (σ:St) (H:Hp) (W:Own) (x y:D) (v u:V) (vv uu:Value) (Q:D->Prop),Inv X pins σ H s->(∀t a,W.bad t a->∃o,H a=some o)->RelV v vv->RelV u uu->Den X.K W.bad H x v->Den X.K W.bad H y u->r x y Q →
  wpAny (model X.prog X.w) X.A (f vv uu) (DP X pins σ W H Q) X.xe s
def dOp(r:RD2)(ta tb:DE):DE:=fun ρ Q=>ta ρ fun x=>tb ρ fun y=>r x y Q
theorem vz(ha:PED X a ta)(hb:PED X b tb){pins:List (Addr×Obj)}{s:Shared}{σ:St}{H:Hp}{W:Own}{ρ:Ro}{R:D->D->Prop}(I:Inv X pins σ H s)(r:Rel X W H σ ρ)(h:ta ρ fun x=>tb ρ fun y=>R x y)
  {α:Type} {Q:α->Shared->Prop} {f:Value->Value->Sem α}
  (hf:∀vv uu s2 v u x y H2,Inv X pins σ H2 s2->ar H H2->RelV v vv->RelV u uu->Den X.K W.bad H2 x v->Den X.K W.bad H2 y u->R x y->wpAny (model X.prog X.w) X.A (f vv uu) Q X.xe s2) :
  wpAny (model X.prog X.w) X.A (eval a X.env) (fun v s₁=>wpAny (model X.prog X.w) X.A (eval b X.env) (fun u s₂=>wpAny (model X.prog X.w) X.A (f v u) Q X.xe s₂) X.xe s₁) X.xe s:=by
 refine thn (ha pins s σ H W ρ _ I r h) fun vv s1 ⟨v,H1,x,I1,rv,e1,hx,q1⟩=>?_
 refine thn (hb pins s1 σ H1 W ρ _ I1 (r.same e1) q1) fun uu s2 ⟨u,H2,y,I2,ru,e2,hy,q2⟩=>?_
 exact hf vv uu s2 v u x y H2 I2 (e1.trans e2) rv ru (hx.same e2) hy q2
theorem DP.up{pins:List (Addr×Obj)}{σ:St}{W:Own}{H H1:Hp}{Q:D->Prop}{u:Value}{s':Shared}(e:ar H H1)(h:DP X pins σ W H1 Q u s'):DP X pins σ W H Q u s':=by
 obtain⟨v,H',d,I,r,e1,hd,q⟩:=h
 exact⟨v,H',d,I,r,e.trans e1,hd,q⟩
theorem ak{op:Operator}{r:RD2}(ho:OpD X (binaryOp op) r)(ha:PED X a ta)(hb:PED X b tb):PED X (.BinOp a op b pos) (dOp r ta tb):=by
 intro pins s σ H W ρ Q I rr h
 refine wpAny_BinOp (vz ha hb I rr h fun vv uu s2 v u x y H2 I2 e rv ru hx hy q=>?_)
 exact thn (ho pins s2 σ H2 W x y v u vv uu Q I2 (rr.same e).tracked rv ru hx hy q) fun _ _ z=>z.up e
theorem D8{op:UnaryOp}{r:V->Hp->VK->Prop}{rd:D->(D->Prop)->Prop}(ho:UnR X (unaryOp op) r)(ha:PED X a ta)
  (k:∀P H d v Q,Den X.K P H d v->rd d Q->r v H fun v' H'=>ar H H'/\∃d',Den X.K P H' d' v'/\Q d'):PED X (.UnaryOp op a pos) (fun ρ Q=>ta ρ fun x=>rd x Q):=by
 intro pins s σ H W ρ Q I rr h
 refine UnaryOp_ (thn (ha pins s σ H W ρ _ I rr h) fun vv s1 ⟨v,H1,x,I1,rv,e1,hx,q1⟩=>?_)
 exact thn (ho pins s1 σ H1 v vv _ I1 rv (k _ H1 x v Q hx q1)) fun u s2 ⟨w',H2,I2,r2,e2,d,hd,q2⟩=>⟨w',H2,d,I2,r2,e1.trans e2,hd,q2⟩
def oV(ta:DE):DE:=fun ρ Q=>ta ρ fun x=>∃i,x=.int i/\Q (.int (-i))
theorem cz(ha:PED X a ta):PED X (.UnaryOp .USub a pos) (oV ta) :=
 D8 (rd:=fun x Q=>∃i,x=.int i/\Q (.int (-i))) DX ha fun P H d v Q hd ⟨i,e,q⟩=>by
  subst e
  exact⟨i,hd.int_,ar.refl H,_,Den.int _,q⟩
theorem OpD.of{f:Value->Value->Sem Value}{r:R2}{rd:RD2}(h:OpR X f r)(k:∀P H x y v u Q,Den X.K P H x v->Den X.K P H y u->rd x y Q->r v u H fun v' H'=>ar H H'/\∃d',Den X.K P H' d' v'/\Q d'):OpD X f rd:=by
 intro pins s σ H W x y v u vv uu Q I _ rv ru hx hy q
 exact thn (h pins s σ H v u vv uu _ I rv ru (k _ H x y v u Q hx hy q)) fun _ s2 ⟨w',H2,I2,r2,e2,d,hd,q2⟩=>⟨w',H2,d,I2,r2,e2,hd,q2⟩
def rdI(C:Int->Int->Prop)(g:Int->Int->D):RD2:=fun x y Q=>∃i j,x=.int i/\y=.int j/\C i j/\Q (g i j)
def h8(g:Int->Int->D):RD2:=fun x y Q=>∃i j,x=.int i/\y=.int j/\Q (g i j)
theorem OpD.ofI{f:Value->Value->Sem Value}{C:Int->Int->Prop}{g:Int->Int->Int}(h:OpR X f (rI C fun i j=>.int (g i j))):OpD X f (rdI C fun i j=>.int (g i j)) :=
 OpD.of h fun P H x y v u Q hx hy ⟨i,j,e1,e2,hc,q⟩=>by
  subst e1 e2
  exact⟨i,j,hx.int_,hy.int_,hc,ar.refl H,_,Den.int _,q⟩
theorem OpD.ofI0{f:Value->Value->Sem Value}{g:Int->Int->Int}(h:OpR X f (rI0 fun i j=>.int (g i j))):OpD X f (h8 fun i j=>.int (g i j)) :=
 OpD.of h fun P H x y v u Q hx hy ⟨i,j,e1,e2,q⟩=>by
  subst e1 e2
  exact⟨i,j,hx.int_,hy.int_,ar.refl H,_,Den.int _,q⟩
theorem OpD.ofB0{f:Value->Value->Sem Value}{g:Int->Int->Bool}(h:OpR X f (rI0 fun i j=>.bl (g i j))):OpD X f (h8 fun i j=>.bl (g i j)) :=
 OpD.of h fun P H x y v u Q hx hy ⟨i,j,e1,e2,q⟩=>by
  subst e1 e2
  exact⟨i,j,hx.int_,hy.int_,ar.refl H,_,Den.bl _,q⟩
theorem Dj:OpD X (binaryOp .Add) (h8 fun i j=>.int (i+j)):=OpD.ofI0 Dq
theorem aY:OpD X (binaryOp .Sub) (h8 fun i j=>.int (i - j)):=OpD.ofI0 Ds
theorem fH:OpD X (compareOp .Lt) (h8 fun i j=>.bl (decide (i<j))):=OpD.ofB0 Em
theorem AI:OpD X (compareOp .LtE) (h8 fun i j=>.bl (decide (i<=j))):=OpD.ofB0 El
theorem qW:OpD X (compareOp .Gt) (h8 fun i j=>.bl (decide (j<i))):=OpD.ofB0 Ek
theorem we:OpD X (compareOp .GtE) (h8 fun i j=>.bl (decide (j<=i))):=OpD.ofB0 Ej
def Bd(n:Nat)(x:Int):Prop:=x.natAbs<2 ^ n
theorem Bd.mono{m n:Nat}{x:Int}(h:Bd m x)(l:m<=n):Bd n x:=zAW h (zB3 (by decide) l)
theorem Bd.mul{m n:Nat}{x y:Int}(h:Bd m x)(h':Bd n y):Bd (m+n) (x*y):=by
 unfold Bd at *
 rw[zB8,Nat.pow_add]
 exact Nat.mul_lt_mul'' h h'
theorem Bd.add{m:Nat}{x y:Int}(h:Bd m x)(h':Bd m y):Bd (m+1) (x+y):=by
 unfold Bd at *
 rw[zBN]
 have:=Int.natAbs_add_le x y
 omega
theorem Bd.sub{m:Nat}{x y:Int}(h:Bd m x)(h':Bd m y):Bd (m+1) (x - y):=by
 unfold Bd at *
 rw[zBN]
 have:=Int.natAbs_sub_le x y
 omega
theorem Bd.neg{m:Nat}{x:Int}(h:Bd m x):Bd m (-x):=by
 unfold Bd at *
 rw[Int.natAbs_neg]
 exact h
theorem Bd.bits{n:Nat}{x:Int}(h:Bd n x):Builtin.Int.intBits x<=n:=by
 unfold Bd at h
 unfold Builtin.Int.intBits
 split
 ·exact zAk _
 ·rename_i hz
  have hp:x.natAbs≠0:=by
   intro e
   apply hz
   have:x=0:=Int.natAbs_eq_zero.mp e
   simp[this]
  have:=(Nat.log2_lt hp).mpr h
  omega
def CM(i j:Int):Prop:=Bd 64 i∨Bd 64 j∨(Bd 100000 i/\Bd 100000 j)
theorem CM.ok{i j:Int}(h:CM i j):IntMulOk i j:=by
 rcases h with h|h|⟨h,h'⟩
 ·exact .of_left h.bits
 ·exact .of_right h.bits
 ·exact .of_bits (zAw h.bits (by decide)) (zAw h'.bits (by decide))
theorem BJ:OpR X (binaryOp .Mult) (rI CM fun i j=>.int (i*j)):=opI fun _ _ _ _ _ _ _ hc q=>mul_int q hc.ok
theorem aD:OpD X (binaryOp .Mult) (rdI CM fun i j=>.int (i*j)):=OpD.ofI BJ
def CD(_:Int)(j:Int):Prop:=j≠0/\Bd 8000 j
theorem CD.noPy{i j:Int}(h:CD i j):Builtin.divisionGoesByPylong i j=false:=by
 refine PyProof.noPylong_of_log2 ?_
 have hz:j.natAbs≠0:=fun e=>h.1 (Int.natAbs_eq_zero.mp e)
 have:=(Nat.log2_lt hz).mpr h.2
 omega
theorem zT:OpR X (binaryOp .FloorDiv) (rI CD fun i j=>.int (i.fdiv j)):=opI fun _ _ _ _ _ _ _ hc q=>floordiv_int hc.1 q (.inl hc.noPy)
theorem dq:OpD X (binaryOp .FloorDiv) (rdI CD fun i j=>.int (i.fdiv j)):=OpD.ofI zT
theorem bM:OpD X (binaryOp .Mod) (rdI (fun _ j=>j≠0) fun i j=>.int (i.fmod j)):=OpD.ofI BI
theorem Dk:OpD X (binaryOp .Pow) (rdI yF fun i j=>.int (i ^ j.toNat)):=OpD.ofI Dr
def dB(t:DE):DT:=fun ρ Q=>t ρ fun x=>∃k,x=.bl k/\Q k
theorem fF{op:CmpOp}{r:RD2}(ho:OpD X (compareOp op) r)(ha:PED X a ta)(hb:PED X b tb)(hm:behindInMarks op b=false:=by first|exact sS _ (by decide) (by decide)|rfl):PED X (.Compare a [op] [b] pos) (dOp r ta tb):=by
 intro pins s σ H W ρ Q I rr h
 refine wpAny_Compare1 (vz ha hb I rr h fun vv uu s2 v u x y H2 I2 e rv ru hx hy q=>?_) hm
 exact thn (ho pins s2 σ H2 W x y v u vv uu Q I2 (rr.same e).tracked rv ru hx hy q) fun _ _ z=>z.up e
theorem aP{op:CmpOp}{r:RD2}(ho:OpD X (compareOp op) r)(ha:PED X a ta)(hb:PED X b tb)(hm:behindInMarks op b=false:=by first|exact sS _ (by decide) (by decide)|rfl):PTD X (.Compare a [op] [b] pos) (dB (dOp r ta tb)):=by
 intro pins s σ H W ρ Q I rr h
 refine wpAny_isTrue_Compare1 (thn (ha pins s σ H W ρ _ I rr h) fun vv s1 ⟨v,H1,x,I1,rv,e1,hx,q1⟩=>thn (hb pins s1 σ H1 W ρ _ I1 (rr.same e1) q1) fun uu s2 ⟨u,H2,y,I2,ru,e2,hy,q2⟩=>
  thn (ho pins s2 σ H2 W x y v u vv uu _ I2 ((rr.same e1).same e2).tracked rv ru (hx.same e2) hy q2) fun c s3 ⟨z,H3,d,I3,r3,e3,hd,k,ek,q3⟩=>?_) hm
 subst ek
 have hz:=hd.bl_
 subst hz
 cases r3
 exact wpAny_truthy_bool ⟨H3,I3,e1.trans (e2.trans e3),q3⟩
theorem cc{e:Expr}{t:DE}(h:PED X e t)(he:∀whole,isTrue e X.env whole=(do let v←whole;standAt e.pos;holding [v] (truthy v)):=by intro _;rfl):PTD X e (dB t):=by
 intro pins s σ H W ρ Q I rr hw
 refine isTrue_plain (thn (h pins s σ H W ρ _ I rr hw) fun vv s1 ⟨v,H1,x,I1,rv,e1,hx,k,ek,q⟩=>?_) (he _)
 subst ek
 have hz:=hx.bl_
 subst hz
 cases rv
 exact wpAny_truthy_bool ⟨H1,I1,e1,q⟩
variable{tA tB':DT}{rest:List Expr}
def yW(t u:DT):DT:=fun ρ Q=>t ρ fun c=>if c=true then u ρ Q else Q false
def dOr(t u:DT):DT:=fun ρ Q=>t ρ fun c=>if c=true then Q true else u ρ Q
def yZ(t:DT):DT:=fun ρ Q=>t ρ fun c=>Q (!c)
theorem A9(ha:PTD X a tA):PWD X (.BoolOp .And [a] pos) tA:=by
 intro wh pins s σ H W ρ Q I rr h
 refine isTrue_and (thn (ha pins s σ H W ρ Q I rr h) fun c s1 e=>?_)
 cases c with
 |true=>exact isTrue_and_nil e
 |false=>exact e
theorem gM(ha:PTD X a tA):PWD X (.BoolOp .Or [a] pos) tA:=by
 intro wh pins s σ H W ρ Q I rr h
 refine isTrue_or (thn (ha pins s σ H W ρ Q I rr h) fun c s1 e=>?_)
 cases c with
 |false=>exact isTrue_or_nil e
 |true=>exact e
theorem CN(ha:PTD X a tA)(hb:PWD X (.BoolOp .And (b::rest) pos) tB'):PWD X (.BoolOp .And (a::b::rest) pos) (yW tA tB'):=by
 intro wh pins s σ H W ρ Q I rr h
 refine isTrue_and (thn (ha pins s σ H W ρ _ I rr h) fun c s1 ⟨H1,I1,e1,q1⟩=>?_)
 cases c with
 |true=>exact thn (hb wh pins s1 σ H1 W ρ Q I1 (rr.same e1) q1) fun _ _ ⟨H2,I2,e2,q2⟩=>⟨H2,I2,e1.trans e2,q2⟩
 |false=>exact⟨H1,I1,e1,q1⟩
theorem cN(ha:PTD X a tA)(hb:PWD X (.BoolOp .Or (b::rest) pos) tB'):PWD X (.BoolOp .Or (a::b::rest) pos) (dOr tA tB'):=by
 intro wh pins s σ H W ρ Q I rr h
 refine isTrue_or (thn (ha pins s σ H W ρ _ I rr h) fun c s1 ⟨H1,I1,e1,q1⟩=>?_)
 cases c with
 |true=>exact⟨H1,I1,e1,q1⟩
 |false=>exact thn (hb wh pins s1 σ H1 W ρ Q I1 (rr.same e1) q1) fun _ _ ⟨H2,I2,e2,q2⟩=>⟨H2,I2,e1.trans e2,q2⟩
theorem cB(ha:PTD X a tA):PTD X (.UnaryOp .Not a pos) (yZ tA):=by
 intro pins s σ H W ρ Q I rr h
 exact isTrue_not (ha pins s σ H W ρ (fun c=>Q (!c)) I rr h)
def vC(ta tb:DE):DE:=fun ρ Q=>ta ρ fun x=>∃c,x=.bl c/\if c=true then tb ρ Q else Q (.bl false)
def vK(ta:DE):DE:=fun ρ Q=>ta ρ fun x=>∃c,x=.bl c/\Q (.bl (!c))
theorem nM{op}{t:DE}(h:PED X a t):PED X (.BoolOp op [a] pos) t:=fun pins s σ H W ρ Q I rr hw=>BoolOp_one (h pins s σ H W ρ Q I rr hw)
theorem jK(ha:PED X a ta)(hb:PED X (.BoolOp .And (b::rest) pos) tb):PED X (.BoolOp .And (a::b::rest) pos) (vC ta tb):=by
 intro pins s σ H W ρ Q I rr h
 refine BoolOp_and (thn (ha pins s σ H W ρ _ I rr h) fun vv s1 ⟨v,H1,x,I1,rv,e1,hx,c,ec,q1⟩=>?_)
 subst ec
 have hz:=hx.bl_
 subst hz
 cases rv
 refine wpAny_truthy_bool ?_
 cases c with
 |true=>exact thn (hb pins s1 σ H1 W ρ Q I1 (rr.same e1) q1) fun _ _ z=>z.up e1
 |false=>exact⟨.bl false,H1,_,I1,rfl,e1,Den.bl _,q1⟩
theorem CC(ha:PED X a ta):PED X (.UnaryOp .Not a pos) (vK ta):=by
 intro pins s σ H W ρ Q I rr h
 refine UnaryOp_ (thn (ha pins s σ H W ρ _ I rr h) fun vv s1 ⟨v,H1,x,I1,rv,e1,hx,c,ec,q1⟩=>?_)
 subst ec
 have hz:=hx.bl_
 subst hz
 cases rv
 exact not_of (wpAny_truthy_bool ⟨.bl (!c),H1,_,I1,rfl,e1,Den.bl _,q1⟩)
def dIf(t:DT)(ta tb:DE):DE:=fun ρ Q=>t ρ fun c=>if c=true then ta ρ Q else tb ρ Q
theorem mQ(hc:PTD X c tA)(ha:PED X a ta)(hb:PED X b tb):PED X (.IfExp c a b pos) (dIf tA ta tb):=by
 intro pins s σ H W ρ Q I rr h
 refine wpAny_IfExp (thn (hc pins s σ H W ρ _ I rr h) fun d s1 ⟨H1,I1,e1,q1⟩=>?_)
 cases d with
 |true=>exact thn (ha pins s1 σ H1 W ρ Q I1 (rr.same e1) q1) fun _ _ z=>z.up e1
 |false=>exact thn (hb pins s1 σ H1 W ρ Q I1 (rr.same e1) q1) fun _ _ z=>z.up e1
def tw:RD2:=fun x y Q=>∃ds i d,(x=.tup ds∨∃ t,x=.lst t ds)/\y=.int i/\atI ds i=some d/\Q d
theorem rA{K:PySem.W.Frag}{P:Bool->Addr->Prop}{H:Hp}{ds:List D}{vs:List V}{i:Int}{d:D}(h:af K P H ds vs)(e:atI ds i=some d):∃v,atI vs i=some v/\Den K P H d v:=by
 unfold atI at e ⊢
 rw[h.len]
 cases q:ixN ds.length i with
 |none=>rw[q]at e;cases e
 |some j =>
  rw[q]at e
  exact h.get e
theorem ao(ha:PED X a ta)(hb:PED X b tb)(hs:uj b:=by intro _ _;rfl):PED X (.Subscript a b pos) (dOp tw ta tb):=by
 intro pins s σ H W ρ Q I rr h
 refine Subscript_ (vz ha hb I rr h fun vv uu s2 v u x y H2 I2 e rv ru hx hy q=>?_)
 obtain⟨ds,i,d,ex,ey,ei,q⟩:=q
 subst ey
 have hu:=hy.int_
 subst hu
 have fin:∀(v':V),Den X.K W.bad H2 d v'->ar H2 H2/\∃d',Den X.K W.bad H2 d' v'/\Q d':=fun v' hd=>⟨ar.refl _,d,hd,q⟩
 rcases ex with ex|⟨tg,ex⟩
 ·subst ex
  obtain⟨p,vs,ev,hq,hd⟩:=hx.tup_
  subst ev
  obtain⟨v',e1,e2⟩:=rA hd ei
  exact thn (nX a b pins s2 σ H2 _ _ vv uu (fun v' H'=>ar H2 H'/\∃d',Den X.K W.bad H' d' v'/\Q d') I2 rv ru ⟨p,vs,i,v',rfl,rfl,hq.w,e1,fin v' e2⟩ (hs _ _))
   fun _ s3 ⟨w',H3,I3,r3,e3,d',hd',q'⟩=>⟨w',H3,d',I3,r3,e.trans e3,hd',q'⟩
 ·subst ex
  obtain⟨p,vs,ev,_,hq,hd⟩:=hx.lst_
  subst ev
  obtain⟨v',e1,e2⟩:=rA hd ei
  exact thn (o9 a b pins s2 σ H2 _ _ vv uu (fun v' H'=>ar H2 H'/\∃d',Den X.K W.bad H' d' v'/\Q d') I2 rv ru ⟨p,vs,i,v',rfl,rfl,hq,e1,fin v' e2⟩ (hs _ _))
   fun _ s3 ⟨w',H3,I3,r3,e3,d',hd',q'⟩=>⟨w',H3,d',I3,r3,e.trans e3,hd',q'⟩
end
section
variable{X:Cx}{e:Expr}{es:List Expr}{te:DE}{t:DA}{pos:Pos}
def rN:DA:=fun _ Q=>Q []
def lT(ta:DE)(tr:DA):DA:=fun ρ Q=>ta ρ fun x=>tr ρ fun xs=>Q (x::xs)
theorem ai:PAD X [] rN:=fun _ _ _ _ H W ρ Q I _ h=>Calls.spliced_nil ⟨[],H,[],I,.nil,ar.refl H,af.nil,h⟩
theorem aa(ha:PED X e te)(hr:PAD X es t)(hs:starEach (e::es) X.env=(false,eval e X.env)::starEach es X.env:=by rfl):PAD X (e::es) (lT te t):=by
 intro pos pins s σ H W ρ Q I rr h
 rw[hs]
 show wpAny _ _ (spliced ((false,eval e X.env)::backTo pos (starEach es X.env))) _ _ s
 refine Calls.spliced_cons (thn (ha pins s σ H W ρ _ I rr h) fun u s1 ⟨v,H1,x,I1,r1,e1,hx,q1⟩=>?_)
 exact thn (hr pos pins s1 σ H1 W ρ _ I1 (rr.same e1) q1) fun us s2 ⟨vs,H2,xs,I2,r2,e2,hxs,q2⟩=>⟨v::vs,H2,x::xs,I2,.cons r1 r2,e1.trans e2,af.cons (hx.same e2) hxs,q2⟩
theorem ar.upd{H:Hp}{p:Addr}{o:HO}(h:H p=none)(n:NT o:=by exact True.intro):ar H (upd H p o):=⟨fun b u e _=>by rw[ay (aV e h)];exact e,fun b ps e=>⟨#[],by rw[ay (aV e h),e];simp⟩,eT.upd n (.inl h)⟩
def vQ(t:DA):DE:=fun ρ Q=>t ρ fun ds=>ds.length<=sizeLine/\Q (.tup ds)
def vG(t:DA):DE:=fun ρ Q=>t ρ fun ds=>ds.length<=sizeLine/\Q (.lst true ds)
theorem bq{x1}(h:PAD X es t):PED X (.Tuple es x1 pos) (vQ t):=by
 intro pins s σ H W ρ Q I rr hq
 refine wpAny_Tuple_spliced (thn (h pos pins s σ H W ρ _ I rr hq) fun us s1 ⟨vs,H1,ds,I1,r,e1,hd,z,q⟩=>?_)
 rw[<- hd.len]at z
 refine⟨by rw[<- r.length];exact z,?_⟩
 have hf:H1 s1.heap.objs.size=none:=I1.hok.fresh (zAM _)
 refine⟨.ref s1.heap.objs.size,L2.upd H1 s1.heap.objs.size (.tup vs),_,I1.laid (t':=s1.toks) (fun b u e=>zAF _ e) (zAM _) ⟨z,us,r,⟨_,zAU _ rfl,rfl,_,rfl⟩⟩,rfl,e1.trans (ar.upd hf),Den.tup (SqT.of aG) (hd.same (ar.upd hf)),q⟩
theorem Inv.kfresh{pins:List (Addr×Obj)}{σ:St}{H:Hp}{s:Shared}(I:Inv X pins σ H s):X.K.lookup s.heap.objs.size=none:=by
 cases e:X.K.lookup s.heap.objs.size with
 |none=>rfl
 |some o=>exact absurd (zAJ (I.kIn _ _ e)) (zBG _)
theorem cG(h:PAD X es t):PED X (.List es pos) (vG t):=by
 intro pins s σ H W ρ Q I rr hq
 refine wpAny_List_spliced (thn (h pos pins s σ H W ρ _ I rr hq) fun us s1 ⟨vs,H1,ds,I1,r,e1,hd,z,q⟩=>?_)
 rw[<- hd.len]at z
 refine⟨by rw[<- r.length];exact z,?_⟩
 have hf:H1 s1.heap.objs.size=none:=I1.hok.fresh (zAM _)
 exact⟨.ref s1.heap.objs.size,L2.upd H1 s1.heap.objs.size (.lst vs),_,I1.laid (t':=s1.toks) (fun b u e=>zAF _ e) (zAM _) ⟨z,us,0,r,zAU _ rfl⟩,rfl,e1.trans (ar.upd hf),
  Den.lst ((rr.same e1).fresh hf) (.new aG (Inv.kfresh I1)) (hd.same (ar.upd hf)),q⟩
end
abbrev DSp:=List D->(D->Prop)->(Value->Prop)->Prop
def aT(K:PySem.W.Frag)(sp:DSp):Sp:=fun vs H Q E=>∃(P:Addr->Prop) (ds:List D) (Qd:D->Prop) (Ed:Value->Prop),fD K H/\(∀a,P a->∃o,H a=some o)/\af K (fun t a=>t=true∨P a) H ds vs/\sp ds Qd Ed ∧
 (∀d v H',ar H H'->Den K (fun t a=>P a∨(t=true/\∃o,H a=some o)) H' d v->Qd d->Q v H')/\∀c a H',ar H H'->Ed c->E c a H'
mutual
def aM:D->D
 |.tup ds=>.tup (aX ds)
 |.lst _ ds=>.lst false (aX ds)
 |.obj C ns ds=>.obj C ns (aX ds)
 |.dic=>.dic
 |.non=>.non|.bl b=>.bl b|.int i=>.int i|.str x=>.str x|.exc c=>.exc c
def aX:List D->List D
 |[]=>[]
 |d::ds=>aM d::aX ds
end
section
variable{K:PySem.W.Frag}{P:Bool->Addr->Prop}{P':Addr->Prop}{H:Hp}
mutual
theorem Den.aM(h:∀t a,P' a->P t a):∀(d:D) (v:V),Den K P H d v->Den K (fun t a=>t=true∨P' a) H (PD.aM d) v
 |.non,_,q=>by simpa only[Den,PD.aM]using q
 |.bl _,_,q=>by simpa only[Den,PD.aM]using q
 |.int _,_,q=>by simpa only[Den,PD.aM]using q
 |.str _,_,q=>by simpa only[Den,PD.aM]using q
 |.exc _,_,q=>by simpa only[Den,PD.aM]using q
 |.tup ds,_,q=>by
  simp only[Den,PD.aM]at q ⊢
  obtain⟨a,vs,e,q1,q2⟩:=q
  exact⟨a,vs,e,q1,af.aM h ds vs q2⟩
 |.obj C ns ds,_,q=>by
  simp only[Den,PD.aM]at q ⊢
  obtain⟨a,dx,vs,e,q1,l,k,q2⟩:=q
  exact⟨a,dx,vs,e,q1,l,k,af.aM h ds vs q2⟩
 |.dic,_,q=>by simpa only[Den,PD.aM]using q
 |.lst t ds,_,q=>by
  simp only[Den,PD.aM]at q ⊢
  obtain⟨a,vs,e,p,q1,q2⟩:=q
  exact⟨a,vs,e,fun z=>z.elim (fun z=>by cases z) fun z=>p (h t a z),.any q1.1,af.aM h ds vs q2⟩
theorem af.aM(h:∀t a,P' a->P t a):∀(ds:List D) (vs:List V),af K P H ds vs->af K (fun t a=>t=true∨P' a) H (PD.aX ds) vs
 |[],_,q=>by simpa only[af,PD.aX]using q
 |d::ds,_,q=>by
  simp only[af,PD.aX]at q ⊢
  obtain⟨v,r,e,h1,h2⟩:=q
  exact⟨v,r,e,Den.aM h d v h1,af.aM h ds r h2⟩
end
end
theorem Den.back{K:PySem.W.Frag}{W:Own}{H H':Hp}{d:D}{v:V}(tr:∀t a,W.bad t a->∃o,H a=some o)(h:Den K (fun t a=>W.bad false a∨(t=true/\∃o,H a=some o)) H' d v):Den K W.bad H' d v :=
 h.fewer fun t a z=>by
  cases t with
  |false=>exact .inl z
  |true=>exact .inr ⟨rfl,tr true a z⟩
section
variable{X:Cx}{CX:CXT}{k:Nat}{f:Addr}{fd:FuncData}{ps:List Str}{sp:DSp}{x:Str}{p pos:Pos}{e:Expr}{es:List Expr}{t:DA}
def qQ(sp:DSp)(dds:List D)(t:DA):DE:=fun ρ Q=>t ρ fun ds=>sp (aX ds++dds) Q fun _=>False
def zq:D->V
 |.non=>.non|.bl b=>.bl b|.int i=>.int i|.str x=>.str x|_=>.non
def wG:D->Prop
 |.tup _=>False|.lst _ _=>False|.exc _=>False|.obj _ _ _=>False|.dic=>False|_=>True
theorem af.tK{K:PySem.W.Frag}{P:Bool->Addr->Prop}{H:Hp}:∀{dds:List D},(∀d∈dds,wG d)->af K P H dds (dds.map zq)
 |[],_=>af.nil
 |d::r,h=>by
  refine af.cons ?_ (af.tK fun x hx=>h x (zAD _ hx))
  have:=h d zAY
  cases d with
  |non=>exact Den.non
  |bl b=>exact Den.bl b
  |int i=>exact Den.int i
  |str x=>exact Den.str x
  |tup _=>exact this.elim
  |lst _ _=>exact this.elim
  |exc _=>exact this.elim
  |obj _ _ _=>exact this.elim
  |dic=>exact this.elim
theorem Es{dds:List D}{dsv:List Value}(F:aS X.prog X.w X.K X.mg X.base CX k f fd ps (aT X.K sp))(hr:bX k X.A)(hb:Binds X.K fd ps dsv)(hd:Vals (dds.map zq) dsv)(hs:∀d∈dds,wG d)(hx:Passes CX X E0)
  {pins:List (Addr×Obj)} {σ:St} {H:Hp} {s:Shared} {W:Own} {ρ:Ro} {us:List Value} {vs:List V} {ds:List D} {Q:D->Prop} (I:Inv X pins σ H s) (rr:Rel X W H σ ρ) (r:Vals vs us) (hds:af X.K W.bad H ds vs)
  (q:sp (aX ds++dds) Q fun _=>False):wpAny (model X.prog X.w) X.A (call (.ref f) us) (DP X pins σ W H Q) X.xe s:=by
 refine thn (ye (Q:=fun v H'=>ar H H'/\∃d,Den X.K W.bad H' d v/\Q d) F hr hb hd hx I r ⟨W.bad false,aX ds++dds,Q,fun _=>False,rr.tab,rr.tracked false,(af.aM (fun _ _=>Own.bad_up) ds vs hds).append (af.tK hs),q,fun d v H' e h1 h2=>⟨e,d,Den.back rr.tracked h1,h2⟩,fun _ _ _ _ z=>z.elim⟩)
  fun u s2 ⟨v,H2,I2,r2,e2,d,h1,h2⟩=>⟨v,H2,d,I2,r2,e2,h1,h2⟩
theorem zf{dds:List D}{dsv:List Value}(F:aS X.prog X.w X.K X.mg X.base CX k f fd ps (aT X.K sp))(hr:bX k X.A)(hg:Gl X x)(hm:X.mg x=some (.ref f))(hk:PySem.W.keepIn X.K (.ref f)=true)(hb:Binds X.K fd ps dsv)(hd:Vals (dds.map zq) dsv)(hs:∀d∈dds,wG d)(hx:Passes CX X E0)
  (ha:PAD X (e::es) t) (hdb:(x==("__debug__" : Str))=false:=by decide) (he:starEach (e::es) X.env=(false,eval e X.env)::starEach es X.env:=by rfl) (hpl:(backTo pos (starEach es X.env)).any (·.1)=false:=by rfl) :
  PED X (.Call (.Name x p) (e::es) [] pos) (qQ sp dds t):=by
 intro pins s σ H W ρ Q I rr h
 refine wpAny_Call_Name_kw (uJ I hg hm ?_ hdb)
 refine PySem.W.callWith_K (h₀:=X.base) I.ok.mod.kin hk (thn (ha pos pins s σ H W ρ _ I rr h) fun us s1 ⟨vs,H1,ds,I1,r,e1,hds,q⟩=>⟨I1.kIn,?_⟩) he hpl
 exact thn (Es F hr hb hd hs hx I1 (rr.same e1) r hds q) fun _ _ z=>z.up e1
def dCB(r:List D->(D->Prop)->Prop)(t:DA):DE:=fun ρ Q=>t ρ fun ds=>r ds Q
def eS(X:Cx)(f:Value)(r:List D->(D->Prop)->Prop):Prop :=
 ∀ (pins:List (Addr×Obj)) (s:Shared) (σ:St) (H:Hp) (W:Own) (ds:List D) (vs:List V) (us:List Value) (Q:D->Prop),Inv X pins σ H s->(∀t a,W.bad t a->∃o,H a=some o)->Vals vs us->af X.K W.bad H ds vs->r ds Q →
  wpAny (model X.prog X.w) X.A (call f us) (DP X pins σ W H Q) X.xe s
theorem eS.of{f:Value}{r:List V->Hp->VK->Prop}{rd:List D->(D->Prop)->Prop}(h:lS X f r)(k:∀P H ds vs Q,(∀t a,P t a->∃o,H a=some o)->af X.K P H ds vs->rd ds Q->r vs H fun v' H'=>ar H H'/\∃d',Den X.K P H' d' v'/\Q d'):eS X f rd:=by
 intro pins s σ H W ds vs us Q I tr r hd q
 exact thn (h pins s σ H vs us _ I r (k _ H ds vs Q tr hd q)) fun _ s2 ⟨w',H2,I2,r2,e2,d,hd,q2⟩=>⟨w',H2,d,I2,r2,e2,hd,q2⟩
variable{id T:String}{r:List D->(D->Prop)->Prop}
theorem aJ (hc:eS X (.builtin id) r) (hg:Gl X x) (hm:X.mg x=none) (hv:bootBuiltins x=some (.builtin id)) (ha:PAD X (e::es) t) (hn:x ≠ "__name__" := by decide) (hdb:(x==("__debug__" : Str))=false:=by decide)
  (hst:starEach (e::es) X.env=(false,eval e X.env)::starEach es X.env:=by rfl) (hpl:(backTo pos (starEach es X.env)).any (·.1)=false:=by rfl) :
  PED X (.Call (.Name x p) (e::es) [] pos) (dCB r t):=by
 intro pins s σ H W ρ Q I rr h
 refine wpAny_Call_Name_kw (eQ I hg hm hv ?_ hn hdb)
 exact PyProof.Rows.callWith_builtin1 (thn (ha pos pins s σ H W ρ _ I rr h) fun us s1 ⟨vs,H1,ds,I1,rv,e1,hd,q⟩=>thn (hc pins s1 σ H1 W ds vs us Q I1 (rr.same e1).tracked rv hd q) fun _ _ z=>z.up e1) hst hpl
end
end PD
namespace PD
open PySem PySem.Spec PyProof.Rows L2 PX
mutual
def pyD:D->PyData
 |.non=>.none
 |.bl b=>.bool b
 |.int i=>.int i
 |.str x=>.str x
 |.tup ds=>.tuple (cq ds)
 |.lst _ ds=>.list (cq ds)
 |.exc _=>.none
 |.obj _ _ _=>.none
 |.dic=>.none
def cq:List D->List PyData
 |[]=>[]
 |d::ds=>pyD d::cq ds
end
mutual
def plD:D->Bool
 |.tup ds=>lA ds
 |.lst _ ds=>lA ds
 |.exc _=>false
 |.obj _ _ _=>false
 |.dic=>false
 |_=>true
def lA:List D->Bool
 |[]=>true
 |d::ds=>plD d && lA ds
end
def eqD(x y:D):Bool:=PyData.eqv (pyD x) (pyD y)
def okD(x:D):Prop:=plD x=true/\SeqAt.shaped (pyD x)=true
section
variable{X:Cx}{pins:List (Addr×Obj)}{σ:St}{H:Hp}{s:Shared}{P:Bool->Addr->Prop}
mutual
theorem dO(I:Inv X pins σ H s):∀(d:D) (v:V) (u:Value),Den X.K P H d v->RelV v u->plD d=true->∃as,Reads s.heap u (pyD d) as
 |.non,_,_,h,r,_=>by have e:=h.non_;subst e;cases r;rw[pyD];exact⟨_,.none⟩
 |.bl b,_,_,h,r,_=>by have e:=h.bl_;subst e;cases r;rw[pyD];exact⟨_,.bool b⟩
 |.int i,_,_,h,r,_=>by have e:=h.int_;subst e;obtain⟨t,rfl⟩:=r;rw[pyD];exact⟨_,.int i t⟩
 |.str x,_,_,h,r,_=>by have e:=h.str_;subst e;obtain⟨t,rfl⟩:=r;rw[pyD];exact⟨_,.str x t⟩
 |.tup ds,_,_,h,r,pl=>by
  rw[plD]at pl
  obtain⟨a,vs,e,hq,hd⟩:=h.tup_
  subst e
  cases r
  obtain⟨its,rv,⟨o,h1,h2,n,h3⟩,_⟩:=I.tuple hq.w
  obtain⟨as,q⟩:=j4 I ds vs its hd rv pl
  rw[pyD]
  exact⟨as,reads_tuple_at h1 h2 h3 (by simpa using q)⟩
 |.lst _ ds,_,_,h,r,pl=>by
  rw[plD]at pl
  obtain⟨a,vs,e,_,hq,hd⟩:=h.lst_
  subst e
  cases r
  obtain⟨its,rv,⟨o,n,h1,h2,_,h3⟩,_⟩:=I.list hq
  obtain⟨as,q⟩:=j4 I ds vs its hd rv pl
  rw[pyD]
  exact⟨_,reads_list_at h1 h2 h3 (by simpa using q)⟩
 |.exc _,_,_,_,_,pl=>by rw[plD]at pl;cases pl
 |.obj _ _ _,_,_,_,_,pl=>by rw[plD]at pl;cases pl
 |.dic,_,_,_,_,pl=>by rw[plD]at pl;cases pl
theorem j4(I:Inv X pins σ H s):∀(ds:List D) (vs:List V) (us:List Value),af X.K P H ds vs->Vals vs us->lA ds=true->∃as,ReadsAll s.heap us (cq ds) as
 |[],_,_,h,r,_=>by simp only[af]at h;subst h;cases r;rw[cq];exact⟨_,.nil⟩
 |d::ds,_,_,h,r,pl=>by
  rw[lA,zBO]at pl
  simp only[af]at h
  obtain⟨v,r',rfl,h1,h2⟩:=h
  cases r with
  |cons ra rb =>
   obtain⟨as,q⟩:=dO I d v _ h1 ra pl.1
   obtain⟨bs,q'⟩:=j4 I ds _ _ h2 rb pl.2
   rw[cq]
   exact⟨_,.cons q q'⟩
end
def Aa:RD2:=fun x y Q=>okD x/\okD y/\Q (.bl (eqD x y))
def Ab:RD2:=fun x y Q=>okD x/\okD y/\Q (.bl (!eqD x y))
theorem wc(hu:X.A.units+64<cLine):OpD X (compareOp .Eq) Aa:=by
 intro pins s σ H W x y v u vv uu Q I _ rv ru hx hy q
 obtain⟨h1,h2,q⟩:=q
 obtain⟨as,ra⟩:=dO I x v vv hx rv h1.1
 obtain⟨bs,rb⟩:=dO I y u uu hy ru h2.1
 exact eq_dataH ra rb h1.2 h2.2 hu ⟨.bl _,H,_,I,rfl,ar.refl H,Den.bl _,q⟩
theorem wg(hu:X.A.units+64<cLine):OpD X (compareOp .NotEq) Ab:=by
 intro pins s σ H W x y v u vv uu Q I _ rv ru hx hy q
 obtain⟨h1,h2,q⟩:=q
 obtain⟨as,ra⟩:=dO I x v vv hx rv h1.1
 obtain⟨bs,rb⟩:=dO I y u uu hy ru h2.1
 exact ne_dataH ra rb h1.2 h2.2 hu ⟨.bl _,H,_,I,rfl,ar.refl H,Den.bl _,q⟩
theorem cf:OpD X (compareOp .Eq) (h8 fun i j=>.bl (decide (i=j))):=OpD.of Ei fun P H x y v u Q hx hy ⟨i,j,e1,e2,q⟩=>by
 subst e1 e2
 have a:=hx.int_
 have b:=hy.int_
 subst a b
 refine⟨rfl,ar.refl H,_,Den.bl _,?_⟩
 rw[show decide (V.int i=V.int j)=decide (i=j)from by rw[lW];rfl]
 exact q
theorem i5:OpD X (compareOp .NotEq) (h8 fun i j=>.bl (!decide (i=j))):=OpD.of En fun P H x y v u Q hx hy ⟨i,j,e1,e2,q⟩=>by
 subst e1 e2
 have a:=hx.int_
 have b:=hy.int_
 subst a b
 refine⟨rfl,ar.refl H,_,Den.bl _,?_⟩
 rw[show decide (V.int i=V.int j)=decide (i=j)from by rw[lW];rfl]
 exact q
def jh:D->Bool
 |.non=>true
 |_=>false
theorem xk{K:PySem.W.Frag}{d:D}{v:V}(h:Den K P H d v):decide (v=.non)=jh d:=by
 cases d with
 |non=>have:=h.non_;subst this;rfl
 |bl b=>have:=h.bl_;subst this;rfl
 |int b=>have:=h.int_;subst this;rfl
 |str b=>have:=h.str_;subst this;rfl
 |tup ds=>obtain⟨a,vs,e,_⟩:=h.tup_;subst e;rfl
 |lst _ ds=>obtain⟨a,vs,e,_⟩:=h.lst_;subst e;rfl
 |exc c=>obtain⟨a,e,_⟩:=h.exc_;subst e;rfl
 |obj C ns ds=>obtain⟨a,dx,vs,e,_⟩:=h.obj_;subst e;rfl
 |dic=>obtain⟨a,e,_⟩:=h.dic_;subst e;rfl
theorem Bw:OpD X (compareOp .IsNot) (fun x y Q=>y=.non/\Q (.bl (!jh x))):=OpD.of BK fun P H x y v u Q hx hy ⟨e,q⟩=>by
 subst e
 refine⟨hy.non_,ar.refl H,_,Den.bl _,?_⟩
 rw[xk hx]
 exact q
end
section
variable{X:Cx}
theorem kS:eS X (.builtin "abs") (fun ds Q=>∃i:Int,ds=[.int i]/\Q (.int (i.natAbs:Int))):=eS.of yR fun P H ds vs Q _ hd ⟨i,e,q⟩=>by
 subst e
 obtain⟨v,r,rfl,h1,h2⟩:∃v r,vs=v::r/\Den X.K P H (.int i) v/\af X.K P H [] r:=by simpa only[af]using hd
 have e1:=h1.int_
 have e2:r=[]:=by simpa only[af]using h2
 subst e1 e2
 refine⟨i,rfl,ar.refl H,_,Den.int _,?_⟩
 have:(if i<0 then -i else i)=(i.natAbs:Int):=by split<;>omega
 rw[this]
 exact q
theorem qV{K:PySem.W.Frag}{P:Bool->Addr->Prop}{H:Hp}{x y:D}{vs:List V}(h:af K P H [x,y] vs):∃v u,vs=[v,u]/\Den K P H x v/\Den K P H y u:=by
 simp only[af]at h
 obtain⟨v,r,e,h1,u,r',e',h2,e''⟩:=h
 subst e' e'' e
 exact⟨v,u,rfl,h1,h2⟩
theorem lX{K:PySem.W.Frag}{P:Bool->Addr->Prop}{H:Hp}{x:D}{vs:List V}(h:af K P H [x] vs):∃v,vs=[v]/\Den K P H x v:=by
 simp only[af]at h
 obtain⟨v,r,e,h1,e'⟩:=h
 subst e' e
 exact⟨v,rfl,h1⟩
theorem Cs (hc:X.calm=true):eS X (.builtin "max") (fun ds Q=>∃i j:Int,ds=[.int i,.int j]/\Q (.int (max i j))):=eS.of (w7 hc) fun P H ds vs Q _ hd ⟨i,j,e,q⟩=>by
 subst e
 obtain⟨v,u,rfl,h1,h2⟩:=qV hd
 have e1:=h1.int_
 have e2:=h2.int_
 subst e1 e2
 refine⟨i,j,rfl,ar.refl H,_,Den.int _,?_⟩
 have:(if j > i then j else i)=max i j:=by split<;>omega
 rw[this]
 exact q
theorem bo:eS X (.builtin "len") (fun ds Q=>∃xs,((∃t,ds=[.lst t xs])∨ds=[.tup xs])/\Q (.int (xs.length:Int))):=eS.of rB fun P H ds vs Q _ hd ⟨xs,e,q⟩=>by
 rcases e with⟨tg,e⟩| e
 ·subst e
  obtain⟨v,rfl,h1⟩:=lX hd
  obtain⟨a,ws,e,_,hq,hw⟩:=h1.lst_
  subst e
  refine⟨a,ws,rfl,.inl hq,ar.refl H,_,Den.int _,?_⟩
  rw[hw.len]
  exact q
 ·subst e
  obtain⟨v,rfl,h1⟩:=lX hd
  obtain⟨a,ws,e,hq,hw⟩:=h1.tup_
  subst e
  refine⟨a,ws,rfl,.inr hq.w,ar.refl H,_,Den.int _,?_⟩
  rw[hw.len]
  exact q
def tyD:D->String
 |.non => "NoneType" | .bl _ => "bool" | .int _ => "int" | .str _ => "str" | .tup _ => "tuple" | .lst _ _ => "list" | .exc _ => "object" | .obj _ _ _ => "object" | .dic => "dict"
def tyV:D->Value
 |.exc c=>.ref c
 |.obj C _ _=>.ref C
 |d=>.type (tyD d)
variable{e:Expr}{te:DE}{p p' pos:Pos}{T:String}{x:Str}
theorem Bn{P:Program}{w:World}{H:Hp}{h:Heap}{a C dx:Addr}{fs:List (Str×V)}(x:cC P w H h a (.ins C dx fs)):∃od,PySem.W.InstAt h a (PySem.W.instObj C dx) C (some od):=by
 obtain⟨d,z,ne,ob,mA,n,r,q⟩:=x
 obtain⟨od,hI,_⟩:=yG.look ⟨ob,n,ne⟩
 exact⟨od,hI⟩
theorem zC{pins:List (Addr×Obj)}{σ:St}{H:Hp}{s:Shared}{P:Bool->Addr->Prop}{A:Around}{E:Value->Shared->Prop}{Q:Value->Shared->Prop}{c:Value}{b:Bool}{d:D}{v:V}{u:Value}(I:Inv X pins σ H s)(h:Den X.K P H d v)(r:RelV v u)
  (e:PySem.W.kitOne X.K (tyV d) c=some b) (q:∀tk,Q (.bool b) {s with toks:=tk}):wpAny (model X.prog X.w) A (call (.builtin "isinstance") [u,c]) Q E s:=by
 cases d with
 |non=>have z:=h.non_;subst z;cases r;exact PySem.W.kia_one PySem.W.kitx_none I.kIn True.intro e (fun z=>nomatch z) q
 |bl y=>have z:=h.bl_;subst z;cases r;exact PySem.W.kia_one PySem.W.kitx_bool I.kIn True.intro e (fun z=>nomatch z) q
 |int i=>have z:=h.int_;subst z;obtain⟨t,rfl⟩:=r;exact PySem.W.kia_one PySem.W.kitx_int I.kIn True.intro e (fun z=>nomatch z) q
 |str y=>have z:=h.str_;subst z;obtain⟨t,rfl⟩:=r;exact PySem.W.kia_one PySem.W.kitx_str I.kIn True.intro e (fun z=>nomatch z) q
 |tup ds =>
  obtain⟨a,vs,z,hq,_⟩:=h.tup_
  subst z
  cases r
  obtain⟨its,rv,⟨o,h1,h2,n,h3⟩,_⟩:=I.tuple hq.w
  exact PySem.W.kia_one PySem.W.kitx_tuple I.kIn ⟨o,h1,h2⟩ e (fun z=>nomatch z) q
 |lst _ ds =>
  obtain⟨a,vs,z,_,hq,_⟩:=h.lst_
  subst z
  cases r
  obtain⟨its,rv,⟨o,n,h1,h2,_,h3⟩,_⟩:=I.list hq
  exact PySem.W.kia_one PySem.W.kitx_list I.kIn ⟨o,h1,h2⟩ e (fun z=>nomatch z) q
 |exc c' =>
  obtain⟨a,z,hq,k⟩:=h.exc_
  subst z
  cases r
  exact PySem.W.kia_one (zE k) I.kIn (I.hok a _ hq).1 e (fun z=>nomatch z) q
 |obj C ns ds =>
  obtain⟨a,dx,vs,z,hq,_,k,_⟩:=h.obj_
  subst z
  cases r
  obtain⟨od,hI⟩:=Bn (I.hok a _ hq)
  exact PySem.W.kia_one (PySem.W.kitx_own k.pg k.hd k.at_ k.get k.takes k.obj) I.kIn hI e (fun z=>nomatch z) q
 |dic =>
  obtain⟨a,z,hq⟩:=h.dic_
  subst z
  cases r
  exact PySem.W.kia_one PySem.W.kitx_dict I.kIn (I.hok a _ hq).1 e (fun z=>nomatch z) q
theorem t8(K:PySem.W.Frag)(S T:String):PySem.W.kitOne K (.type S) (.type T)=if S=T then some true else if PySem.W.kitMeta T=true then(fastBuiltinMro S).map (·.contains (.type T))else none:=by
 unfold PySem.W.kitOne PySem.W.kitCls PySem.W.subIn
 by_cases h:S=T
 ·subst h;simp
 ·have:(Value.type S==Value.type T)=false:=by
   rw[beq_eq_false_iff_ne]
   intro e
   injection e with e
   exact h e
  rw[this,if_neg zAh,if_neg h]
def isT (T:String) (d:D):Bool:=tyD d==T || (tyD d == "bool" && T == "int")
theorem kit_ans (K:PySem.W.Frag) (d:D) (hk:∀c,d=.exc c->jx K c) (ho:∀C ns ds,d=.obj C ns ds->vo K C) (hT:T = "int" ∨ T = "bool" ∨ T = "tuple" ∨ T = "list" ∨ T = "str"):PySem.W.kitOne K (tyV d) (.type T)=some (isT T d):=by
 by_cases hx:∃c,d=.exc c
 ·obtain⟨c,rfl⟩:=hx
  show PySem.W.kitOne K (.ref c) (.type T)=_
  rw[(hk c rfl).not T hT]
  show _=some ("object" == T || ("object" == "bool" && T == "int"))
  rcases hT with e|e|e|e|e<;>subst e<;>decide +kernel
 by_cases hy:∃C ns ds,d=.obj C ns ds
 ·obtain⟨C,ns,ds,rfl⟩:=hy
  show PySem.W.kitOne K (.ref C) (.type T)=_
  rw[(ho C ns ds rfl).not T hT]
  show _=some ("object" == T || ("object" == "bool" && T == "int"))
  rcases hT with e|e|e|e|e<;>subst e<;>decide +kernel
 have hv:tyV d=.type (tyD d):=by cases d<;>first|rfl|exact absurd ⟨_,rfl⟩ hx|exact absurd ⟨_,_,_,rfl⟩ hy
 rw[hv,t8]
 unfold isT
 have hS:tyD d = "NoneType" ∨ tyD d = "bool" ∨ tyD d = "int" ∨ tyD d = "str" ∨ tyD d = "tuple" ∨ tyD d = "list" ∨ tyD d = "dict" := by cases d<;>first|exact absurd ⟨_,rfl⟩ hx|exact absurd ⟨_,_,_,rfl⟩ hy|simp[tyD]
 generalize tyD d=S at hS ⊢
 rcases hT with e|e|e|e|e<;>subst e<;>rcases hS with e|e|e|e|e|e|e<;>subst e<;>decide +kernel
def dIs(T:String)(te:DE):DE:=fun ρ Q=>te ρ fun d=>Q (.bl (isT T d))
theorem dN (hg:Gl X "isinstance") (hm:X.mg "isinstance" = none) (hgT:Gl X x) (hmT:X.mg x=none) (hv:bootBuiltins x=some (.type T)) (hT:T = "int" ∨ T = "bool" ∨ T = "tuple" ∨ T = "list" ∨ T = "str") (he:PED X e te)
  (hn:x ≠ "__name__" := by decide) (hdb:(x==("__debug__" : Str))=false:=by decide)
  (hst:starEach [e,.Name x p'] X.env=(false,eval e X.env)::starEach [.Name x p'] X.env:=by rfl) (hst2:starEach [.Name x p'] X.env=(false,eval (.Name x p') X.env)::starEach [] X.env:=by rfl) (hst3:(backTo pos (starEach [.Name x p'] X.env)).any (·.1)=false:=by rfl) :
  PED X (.Call (.Name "isinstance" p) [e,.Name x p'] [] pos) (dIs T te):=by
 intro pins s σ H W ρ Q I rr h
 have hpa:PA X [e,.Name x p'] (oH (AG X te) (oH (tC (.ty T)) wN)):=fz he.pe (fz (BM hgT hmT hv rfl hn hdb) i6 hst2) hst
 refine wpAny_Call_Name_kw (eQ I hg hm boot_isinstance ?_ (by decide) (by decide))
 refine PyProof.Rows.callWith_builtin1 (thn (hpa pos pins s σ H (fun vs H1=>∃v d,vs=[v,.ty T]/\ar H H1/\Den X.K W.bad H1 d v/\Q (.bl (isT T d))) I ⟨W,ρ,_,rr,h,fun v H1 d e1 hd q1=>⟨v,d,rfl,e1,hd,q1⟩⟩) fun us s1 ⟨vs,H1,I1,rv,v,d,ev,e1,hd,q1⟩=>?_) hst hst3
 subst ev
 cases rv with
 |cons r1 rr =>
  cases rr with
  |cons r2 rr =>
   cases rr
   cases(show _=Value.type T from r2)
   exact zC I1 hd r1 (kit_ans X.K d (fun c z=>by subst z;exact hd.exc_.choose_spec.2.2) (fun C ns ds z=>by subst z;obtain⟨_,_,_,_,_,_,k,_⟩:=hd.obj_;exact k) hT) fun tk=>⟨.bl _,H1,_,I1.tok tk,rfl,e1,Den.bl _,q1⟩
end
section
variable{X:Cx}{pos:Pos}
theorem SPD.up{pins:List (Addr×Obj)}{W0 W:Own}{H0 H:Hp}{E:iB}{f:Flow}{s':Shared}(g:Fwd W0 H0 W H)(h:SPD X pins W H E f s'):SPD X pins W0 H0 E f s':=by
 obtain⟨W',σ',H',I,fw,q⟩:=h
 exact⟨W',σ',H',I,g.trans fw,q⟩
variable{st:Stmt}{rest:List Stmt}{t u:DS}{e:Expr}{te:DE}
def vI:DS:=fun E ρ=>E.nx ρ
def vN(t u:DS):DS:=fun E ρ=>t {E with nx:=u E} ρ
theorem aR:cT X [] vI:=fun _ _ σ H W ρ E I r h=>wpAny_execs_nil ⟨W,σ,H,I,Fwd.refl W H,ρ,r,h⟩
theorem aq(h1:PSD X st t)(h2:cT X rest u):cT X (st::rest) (vN t u):=by
 intro pins s σ H W ρ E I r h
 refine wpAny_execs_cons (thn (h1 pins s σ H W ρ {E with nx:=u E} I r h) fun f s1 ⟨W',σ',H',I',fw,q⟩=>?_)
 cases f with
 |next =>
  obtain⟨ρ',r',q⟩:=q
  exact thn (h2 pins s1 σ' H' W' ρ' E I' r' q) fun _ _ z=>z.up fw
 |ret v=>exact⟨W',σ',H',I',fw,q⟩
 |brk=>exact⟨W',σ',H',I',fw,q⟩
 |cont=>exact⟨W',σ',H',I',fw,q⟩
theorem av(h1:PSD X st t):cT X [st] t:=by
 intro pins s σ H W ρ E I r h
 refine wpAny_execs_cons (thn (h1 pins s σ H W ρ E I r h) fun f s1 q=>?_)
 cases f with
 |next=>exact wpAny_execs_nil q
 |ret v=>exact q
 |brk=>exact q
 |cont=>exact q
def y6(te:DE):DS:=fun E ρ=>te ρ E.rt
theorem aA(he:PED X e te):PSD X (.Return (some e) pos) (y6 te):=by
 intro pins s σ H W ρ E I r h
 exact wpAny_Return_some (thn (he pins s σ H W ρ _ I r h) fun u s1 ⟨v,H1,d,I1,r1,e1,hd,q1⟩=>⟨W,σ,H1,I1,Fwd.same e1,v,d,r1,hd,q1⟩)
def yX(c:DT)(t u:DS):DS:=fun E ρ=>c ρ fun b=>if b=true then t E ρ else u E ρ
theorem bf{c:Expr}{a b:List Stmt}{tc:DT}(hc:PTD X c tc)(ha:cT X a t)(hb:cT X b u):PSD X (.If c a b pos) (yX tc t u):=by
 intro pins s σ H W ρ E I r h
 refine wpAny_If (thn (hc pins s σ H W ρ _ I r h) fun d s1 ⟨H1,I1,e1,q1⟩=>?_)
 cases d with
 |true=>exact thn (ha pins s1 σ H1 W ρ E I1 (r.same e1) q1) fun _ _ z=>z.up (Fwd.same e1)
 |false=>exact thn (hb pins s1 σ H1 W ρ E I1 (r.same e1) q1) fun _ _ z=>z.up (Fwd.same e1)
theorem Rel.put{X:Cx}{W:Own}{H:Hp}{σ:St}{ρ:Ro}{i:Nat}{d:D}{v:V}(r:Rel X W H σ ρ)(hi:i<σ.length)(hd:Den X.K W.bad H d v):Rel X (W.drop i) H (σ.set i (some v)) (ρ.set i (some (.val d))) where
 val:=fun j x h=>by
  by_cases hj:j=i
  ·subst hj
   refine⟨v,by simp[hi],?_⟩
   by_cases hl:j<ρ.length
   ·rw[zAV hl]at h
    cases h
    exact hd.fewer fun _ _=>Own.drop_bad
   ·rw[zAs (by simpa using hl)]at h
    cases h
  ·rw[zAN (Ne.symm hj)]at h
   obtain⟨w,h1,h2⟩:=r.val j x h
   exact⟨w,by rw[zAN (Ne.symm hj)];exact h1,h2.fewer fun _ _=>Own.drop_bad⟩
 own:=fun j x h=>by
  by_cases hj:j=i
  ·subst hj
   by_cases hl:j<ρ.length
   ·rw[zAV hl]at h;cases h
   ·rw[zAs (by simpa using hl)]at h;cases h
  ·rw[zAN (Ne.symm hj)]at h
   obtain⟨a,vs,h1,h2,h3,h4⟩:=r.own j x h
   exact⟨a,vs,by show(if j=i then none else W.O j)=_;rw[if_neg hj];exact h1,by rw[zAN (Ne.symm hj)];exact h2,h3,by rw[zBK];exact h4.fewer (fun _ _=>Own.drop_bad) (Own.drop_sub hi)⟩
 inj:=fun j k a h1 h2=>by
  have h1':(if j=i then none else W.O j)=some a:=h1
  have h2':(if k=i then none else W.O k)=some a:=h2
  by_cases e1:j=i
  ·rw[if_pos e1]at h1';cases h1'
  ·by_cases e2:k=i
   ·rw[if_pos e2]at h2';cases h2'
   ·rw[if_neg e1]at h1'
    rw[if_neg e2]at h2'
    exact r.inj j k a h1' h2'
 kn:=fun j a h1=>by
  have h1':(if j=i then none else W.O j)=some a:=h1
  by_cases e1:j=i
  ·rw[if_pos e1]at h1';cases h1'
  ·rw[if_neg e1]at h1'
   exact r.kn j a h1'
 ke:=fun j a h1=>by
  have h1':(if j=i then none else W.O j)=some a:=h1
  by_cases e1:j=i
  ·rw[if_pos e1]at h1';cases h1'
  ·rw[if_neg e1]at h1'
   exact r.ke j a h1'
 bt:=r.bt
 st:=r.st
 ent:=r.ent
 tab:=r.tab
theorem Fwd.drop(W:Own)(H:Hp)(i:Nat):Fwd W H (W.drop i) H:=⟨rfl,rfl,fun _ _ _ h _=>h,fun j a h=>by
 have h':(if j=i then none else W.O j)=some a:=h
 by_cases e1:j=i
 ·rw[if_pos e1]at h';cases h'
 ·rw[if_neg e1]at h';exact .inl ⟨j,h'⟩,fun _ ps h=>⟨#[],by rw[h];simp⟩,id⟩
theorem Inv.ilt{pins:List (Addr×Obj)}{σ:St}{H:Hp}{s:Shared}{i:Nat}{x:Str}(I:Inv X pins σ H s)(hi:X.N[i]?=some x):i<σ.length:=by
 rw[I.len]
 exact(zAE.mp hi).1
def vP(i:Nat)(te:DE):DS:=fun E ρ=>te ρ fun d=>E.nx (ρ.set i (some (.val d)))
theorem aI{x:Str}{pos':Pos}(i:Nat)(hN:X.N.Nodup)(he:PED X e te)(hi:X.N[i]?=some x:=by rfl)(hx:Loc X.env.scope x:=by first|exact Or.inl rfl|exact Or.inr rfl)(hs:swapsWith e (some (.Name x pos')) pos.line X.env=pure false:=by rfl)
  (hf:X.fn x=true∨X.env.scope.names.lookup x=some .local:=by first|exact .inl rfl|exact .inr rfl|assumption):PSD X (.Assign [.Name x pos'] e pos) (vP i te):=by
 intro pins s σ H W ρ E I r h
 refine wpAny_Assign_Name (thn (he pins s σ H W ρ _ I r h) fun u s1 ⟨v,H1,d,I1,r1,e1,hd,q1⟩=>?_) hs
 exact gD I1 hN hi hx r1 (fun s2 I2=>⟨W.drop i,_,H1,I2,(Fwd.same e1).trans (Fwd.drop W H1 i),_,(r.same e1).put (Inv.ilt I1 hi) hd,q1⟩) hf
theorem PSD.of{ts:TS}{t:DS}(h:PS X st ts)(k:∀σ H W ρ E,Rel X W H σ ρ->σ.length=X.N.length->t E ρ->ts ⟨(fun σ' H'=>∃W' ρ',Fwd W H W' H'/\Rel X W' H' σ' ρ'/\E.nx ρ'),(fun v H'=>∃W' d,Fwd W H W' H'/\Den X.K W'.bad H' d v/\E.rt d),
   (fun σ' H'=>∃W' ρ',Fwd W H W' H'/\Rel X W' H' σ' ρ'/\E.bk ρ'),(fun σ' H'=>∃W' ρ',Fwd W H W' H'/\Rel X W' H' σ' ρ'/\E.ct ρ')⟩ σ H):PSD X st t:=by
 intro pins s σ H W ρ E I r ht
 refine thn (h pins s σ H _ I (k σ H W ρ E r I.len ht)) fun f s1 q=>?_
 cases f with
 |next=>obtain⟨σ',H',I',W',ρ',fw,r',q⟩:=q;exact⟨W',σ',H',I',fw,ρ',r',q⟩
 |brk=>obtain⟨σ',H',I',W',ρ',fw,r',q⟩:=q;exact⟨W',σ',H',I',fw,ρ',r',q⟩
 |cont=>obtain⟨σ',H',I',W',ρ',fw,r',q⟩:=q;exact⟨W',σ',H',I',fw,ρ',r',q⟩
 |ret u=>obtain⟨v,σ',H',I',rv,W',d,fw,hd,q⟩:=q;exact⟨W',σ',H',I',fw,v,d,rv,hd,q⟩
def CA(c:DT)(tb:DS):DS:=fun E ρ=>∃W:Nat->Ro->Prop,(∃m,W m ρ)/\∀m ρ,W m ρ->c ρ fun b=>if b=true then tb {E with nx:=fun ρ'=>∃m',m'<m/\W m' ρ',ct:=fun ρ'=>∃m',m'<m/\W m' ρ',bk:=E.nx} ρ else E.nx ρ
theorem mR{c:Expr}{body:List Stmt}{tc:DT}{tb:DS}(hp:PassesOwn (model X.prog X.w) X.A X.env X.xe)(hc:PTD X c tc)(hb:cT X body tb):PSD X (.While c body [] pos) (CA tc tb):=by
 intro pins s σ H W ρ E I r h
 obtain⟨Wd,⟨m0,w0⟩,turn⟩:=h
 refine wpAny_While (codeAny_whileLoop (fun n s'=>∃W' σ' H' ρ',Inv X pins σ' H' s'/\Fwd W H W' H'/\Rel X W' H' σ' ρ'/\Wd n ρ') ?_ m0 ⟨W,σ,H,ρ,I,Fwd.refl W H,r,w0⟩)
 rintro n s1 ⟨W1,σ1,H1,ρ1,I1,fw1,r1,w1⟩
 refine wpAny_passesOwn hp (thn (hc pins s1 σ1 H1 W1 ρ1 _ I1 r1 (turn n ρ1 w1)) fun b s2 ⟨H2,I2,e2,q2⟩=>?_)
 have fw2:=fw1.trans (Fwd.same (W:=W1) e2)
 cases b with
 |true =>
  rw[if_pos rfl]at q2
  rw[if_pos rfl]
  refine wpAny_passesOwn hp (thn (hb pins s2 σ1 H2 W1 ρ1 _ I2 (r1.same e2) q2) fun f s3 q3=>?_)
  obtain⟨W3,σ3,H3,I3,fw3,q3⟩:=q3
  cases f with
  |next =>
   obtain⟨ρ3,r3,m',hm,w3⟩:=q3
   exact⟨m',hm,W3,σ3,H3,ρ3,I3,fw2.trans fw3,r3,w3⟩
  |cont =>
   obtain⟨ρ3,r3,m',hm,w3⟩:=q3
   exact⟨m',hm,W3,σ3,H3,ρ3,I3,fw2.trans fw3,r3,w3⟩
  |brk=>exact⟨W3,σ3,H3,I3,fw2.trans fw3,q3⟩
  |ret v=>exact⟨W3,σ3,H3,I3,fw2.trans fw3,q3⟩
 |false =>
  rw[if_neg zAh]at q2
  rw[if_neg zAh]
  exact wpAny_execs_nil ⟨W1,σ1,H2,I2,fw2,ρ1,r1.same e2,q2⟩
end
section
variable{X:Cx}{pos:Pos}
theorem CW{X:Cx}{W W':Own}{H H':Hp}{σ:St}{ρ:Ro}(r:Rel X W H σ ρ)(f:Fwd W H W' H')(a:Addr)(o:HO)(n:Sol o)(q:H a=some o):H' a=some o :=
 f.kp a _ (fun i z=>by obtain⟨_,_,o',q',m⟩:=r.kn i a z;rw[q]at q';cases q';exact m.sol n) q n.nt
theorem CV{X:Cx}{W W':Own}{H H':Hp}{σ:St}{ρ:Ro}(r:Rel X W H σ ρ)(f:Fwd W H W' H')(a:Addr)(vs:List V)(q:SqT X.K H a vs):SqT X.K H' a vs:=by
 exact f.keep a _ (fun i e=>by
  obtain⟨_,_,o',q',m⟩:=r.kn i a e
  have q2:H a=some (.tup vs):=q
  rw[q']at q2
  cases q2
  exact m) q
theorem CU{X:Cx}{W W':Own}{H H':Hp}{σ':St}{ρ':Ro}(r':Rel X W' H' σ' ρ')(f:Fwd W H W' H')(t:Bool)(a:Addr)(vs:List V)(p:¬W.bad t a)(q:SqG X.K H t a vs):¬W'.bad t a/\SqG X.K H' t a vs:=by
 have no:∀i,W.O i≠some a:=fun i e=>p (.inr (.inl ⟨i,e⟩))
 refine⟨fun b=>?_,?_,fun z=>⟨f.keep a _ no (q.2 z).1,(q.2 z).2⟩⟩
 ·rcases b with b|⟨i,b⟩| ⟨e,b⟩
  ·rw[f.B]at b;exact p (.inl b)
  ·rcases f.new i a b with⟨j,z⟩| z
   ·exact no j z
   ·rcases q.1 with(q|⟨o,q⟩)|⟨o,its,n,q,_⟩
    ·rw[z]at q;cases q
    ·rw[z]at q;cases q
    ·rw[(r'.kn i a b).1]at q;cases q
  ·rw[f.S]at b;exact p (.inr (.inr ⟨e,b⟩))
 ·rcases q.1 with(q|⟨o,q⟩)|q
  ·exact .inl (.inl (f.keep a _ no q))
  ·exact .inl (.inr ⟨o,f.keep a _ no q⟩)
  ·exact .inr q
theorem Den.fwd{X:Cx}{W W':Own}{H H':Hp}{σ σ':St}{ρ ρ':Ro}{d:D}{v:V}(r:Rel X W H σ ρ)(r':Rel X W' H' σ' ρ')(f:Fwd W H W' H')(h:Den X.K W.bad H d v):Den X.K W'.bad H' d v :=
 Den.map (CV r f) (CU r' f) (CW r f) d v h
abbrev DG:=D->Ro->(Ro->Prop)->Prop
def PGD(X:Cx)(target:Expr)(g:DG):Prop :=
 ∀ (pins:List (Addr×Obj)) (s:Shared) (σ:St) (H:Hp) (W:Own) (ρ:Ro) (d:D) (v:V) (u:Value) (Q:Ro->Prop),Inv X pins σ H s->Rel X W H σ ρ->RelV v u->Den X.K W.bad H d v->g d ρ Q →
  wpAny (model X.prog X.w) X.A (assign target X.env u) (fun _ s'=>∃W' σ' H' ρ',Inv X pins σ' H' s'/\Fwd W H W' H'/\Rel X W' H' σ' ρ'/\Q ρ') X.xe s
abbrev DGs:=List D->Ro->(Ro->Prop)->Prop
def qZ(X:Cx)(ts:List Expr)(t:DGs):Prop :=
 ∀ (pins:List (Addr×Obj)) (s:Shared) (σ:St) (H:Hp) (W:Own) (ρ:Ro) (ds:List D) (vs:List V) (us:List Value) (Q:Ro->Prop),Inv X pins σ H s->Rel X W H σ ρ->Vals vs us->af X.K W.bad H ds vs->t ds ρ Q →
  wpAny (model X.prog X.w) X.A (assignInOrder ((assignEach ts X.env).map (·.2)) us) (fun _ s'=>∃W' σ' H' ρ',Inv X pins σ' H' s'/\Fwd W H W' H'/\Rel X W' H' σ' ρ'/\Q ρ') X.xe s
theorem af.fwd{X:Cx}{W W':Own}{H H':Hp}{σ σ':St}{ρ ρ':Ro}(r:Rel X W H σ ρ)(r':Rel X W' H' σ' ρ')(f:Fwd W H W' H'):∀{ds:List D} {vs:List V},af X.K W.bad H ds vs->af X.K W'.bad H' ds vs
 |[],_,h=>by simpa only[af]using h
 |d::ds,_,h=>by
  simp only[af]at h ⊢
  obtain⟨v,q,e,h1,h2⟩:=h
  exact⟨v,q,e,Den.fwd r r' f h1,af.fwd r r' f h2⟩
def jM(i:Nat):DG:=fun d ρ Q=>Q (ρ.set i (some (.val d)))
theorem br{x:Str}(i:Nat)(hN:X.N.Nodup)(hi:X.N[i]?=some x:=by rfl)(hx:Loc X.env.scope x:=by first|exact Or.inl rfl|exact Or.inr rfl)
  (hf:X.fn x=true∨X.env.scope.names.lookup x=some .local:=by first|exact .inl rfl|exact .inr rfl|assumption):PGD X (.Name x pos) (jM i):=by
 intro pins s σ H W ρ d v u Q I r rv hd h
 exact wpAny_assign_Name (gD I hN hi hx rv (fun s' I'=>⟨W.drop i,_,H,_,I',Fwd.drop W H i,r.put (Inv.ilt I hi) hd,h⟩) hf)
def jg:DGs:=fun ds ρ Q=>ds=[]/\Q ρ
def bH(g:DG)(u:DGs):DGs:=fun ds ρ Q=>∃d r,ds=d::r/\g d ρ fun ρ'=>u r ρ' Q
theorem l9:qZ X [] jg:=by
 intro pins s σ H W ρ ds vs us Q I r rv hd h
 obtain⟨e,h⟩:=h
 subst e
 simp only[af]at hd
 subst hd
 cases rv
 exact assignInOrder_nil ⟨W,σ,H,ρ,I,Fwd.refl W H,r,h⟩
theorem dP{e:Expr}{es:List Expr}{g:DG}{u:DGs}(h1:PGD X e g)(h2:qZ X es u)(hs:(assignEach (e::es) X.env).map (·.2)=assign e X.env::(assignEach es X.env).map (·.2):=by rfl):qZ X (e::es) (bH g u):=by
 intro pins s σ H W ρ ds vs us Q I r rv hd h
 obtain⟨d,dr,e1,h⟩:=h
 subst e1
 simp only[af]at hd
 obtain⟨v,vr,e2,hd1,hd2⟩:=hd
 subst e2
 cases rv with
 |cons ra rb =>
  rw[hs]
  refine assignInOrder_cons (thn (h1 pins s σ H W ρ d v _ _ I r ra hd1 h) fun _ s1 ⟨W1,σ1,H1,ρ1,I1,f1,r1,q1⟩=>?_)
  exact thn (h2 pins s1 σ1 H1 W1 ρ1 dr vr _ Q I1 r1 rb (af.fwd r r1 f1 hd2) q1) fun _ s2 ⟨W2,σ2,H2,ρ2,I2,f2,r2,q2⟩=>⟨W2,σ2,H2,ρ2,I2,f1.trans f2,r2,q2⟩
theorem sD{h h':Heap}{it l:Addr}{items:Array Value}(hl:h.IsList l items)(hs:Heap.SameBut it h h')(hne:l≠it):h'.IsList l items:=by
 obtain⟨o,ho,r⟩:=hl
 exact⟨o,(hs.2 l hne).trans ho,r⟩
theorem qe{prog:Program}{w:World}{A:Around}{E:Value->Shared->Prop}{it l:Addr}{items:Array Value}(hne:l≠it):∀(n i:Nat) (s:Shared) (Q:List Value->Shared->Prop),s.heap.IsListIter it l i->s.heap.IsList l items->i+n<=items.size →
  (∀h',h'.IsListIter it l (i+n)->Heap.SameBut it s.heap h'->Q ((items.toList.drop i).take n) {s with heap:=h'})->wpAny (model prog w) A (draw (.ref it) n) Q E s
 |0,i,s,Q,hit,_,_,hQ=>by
  show wpAny _ _ (pure []) Q E s
  exact wpAny_pure (by simpa using hQ s.heap hit (Heap.SameBut.refl ..))
 |n+1,i,s,Q,hit,hl,hle,hQ=>by
  have hlt:i<items.size:=by omega
  show wpAny _ _ (pyNext (.ref it) >>= _) Q E s
  refine wpAny_bind (wpAny_pyNext_list_item hit hl (x:=items[i]) (by simp[hlt]) fun h₁ hit₁ hs₁=>?_)
  refine wpAny_bind (wpAny_holding (qe hne n (i+1) _ _ hit₁ (sD hl hs₁ hne) (by omega) fun h₂ hit₂ hs₂=>wpAny_pure ?_))
  have hd:items.toList.drop i=items[i]::items.toList.drop (i+1):=by simp[zBQ,hlt]
  have:=hQ h₂ (by rw[show i+(n+1)=i+1+n by omega];exact hit₂) (hs₁.trans hs₂)
  rw[hd,List.take_succ_cons]at this
  exact this
theorem nA{prog:Program}{w:World}{A:Around}{E:Value->Shared->Prop}{s:Shared}{l:Addr}{items:Array Value}{Q:List Value->Shared->Prop}(hh:A.handled=none)(hl:s.heap.IsList l items)
  (hQ:∀h',Heap.ExtBut s.heap.objs.size s.heap h'->Q items.toList {s with heap:=h'}):wpAny (model prog w) A (unpackItems (.ref l) items.size none) Q E s:=by
 have hlt:l≠s.heap.objs.size:=by obtain⟨o,ho,_⟩:=hl;exact zAr (zAJ ho)
 unfold unpackItems
 refine wpAny_bind ?_
 ·unfold notIterableAtAll
  refine wpAny_bind (wpAny_specialOf hl.typeIs F.slot_list_iter.lookup ?_)
  refine wpAny_pure ?_
  simp only[zAa,if_false]
  refine wpAny_bind (wpAny_holding (wpAny_pyIter_list hl ?_))
  have hl0:(s.heap.push {cls:=.type "list_iterator", data:=.fields #[.ref l,rawInt 0]}).IsList l items:=by
   obtain⟨o,ho,r⟩:=hl
   exact⟨o,zAF _ ho,r⟩
  refine wpAny_bind (wpAny_holding (qe hlt items.size 0 _ _ ⟨_,zAU _ rfl,rfl,rfl⟩ hl0 (by omega) fun h₁ hit₁ hs₁=>?_))
  have hall:List.take items.size (List.drop 0 items.toList)=items.toList:=by
   rw[zCy];exact zBp (by simp)
  rw[hall]
  rw[if_neg (by simp)]
  have hl₁:h₁.IsList l items:=sD hl0 hs₁ hlt
  refine wpAny_bind (wpAny_holding (wpAny_pyNext_list_end hh hit₁ hl₁ (by simp) fun h₂ he₂=>?_))
  simp only[Option.isSome_none,zAa,if_false]
  refine wpAny_pure (hQ h₂ fun b o hb e=>he₂ b o hb (hs₁.extBut b o hb (zAF _ e)))
def gF(n:Nat)(t:DGs):DG:=fun d ρ Q=>∃ds,(d=.tup ds∨∃ t,d=.lst t ds)/\ds.length=n/\t ds ρ Q
theorem nR{es:List Expr}{k:Nat}{t:DGs}{n:Nat}(hc:X.calm=true)(h:qZ X es t)(hn:(assignEach es X.env).length=n:=by rfl)(hst:(assignEach es X.env).findIdx? (·.1)=none:=by rfl):PGD X (.Tuple es k pos) (gF n t):=by
 intro pins s σ H W ρ d v u Q I r rv hd hw
 obtain⟨ds,ed,hl,hw⟩:=hw
 rcases ed with ed|⟨tg,ed⟩
 ·subst ed
  obtain⟨a,vs,e1,hq,hds⟩:=hd.tup_
  subst e1
  cases rv
  obtain⟨its,rvs,ht,hz⟩:=I.tuple hq.w
  refine assign_Tuple_tuple (I.ok.hd hc) ht (by simp[hn,<- hl,<- rvs.length,hds.len]) hst fun h' hx=>?_
  have I1:Inv X pins σ H {s with heap:=h'}:=I.kept (t':=s.toks) fun b o e=>hx b o (zAr (zAJ e)) e
  exact h pins _ σ H W ρ ds vs _ Q I1 r (by simpa using rvs) hds hw
 ·subst ed
  obtain⟨a,vs,e1,_,hq,hds⟩:=hd.lst_
  subst e1
  cases rv
  obtain⟨its,rvs,ht,hz⟩:=I.list hq
  rw[assign_Tuple]
  refine wpAny_bind (wpAny_standAt ?_)
  unfold unpack
  rw[hst,show(assignEach es X.env).length=its.toArray.size by simp[hn,<- hl,<- rvs.length,hds.len]]
  refine wpAny_bind (wpAny_holding (nA (I.ok.hd hc) ht.isList fun h' hx=>?_))
  have I1:Inv X pins σ H {s with heap:=h'}:=I.kept (t':=s.toks) fun b o e=>hx b o (zAr (zAJ e)) e
  exact h pins _ σ H W ρ ds vs _ Q I1 r (by simpa using rvs) hds hw
def vD(te:DE)(g:DG):DS:=fun E ρ=>te ρ fun d=>g d ρ E.nx
theorem CH{tg e:Expr}{te:DE}{g:DG}(he:PED X e te)(hg:PGD X tg g)(hs:swapsWithSole [tg] e pos.line X.env=pure false:=by rfl)(hw:swappedStores [tg] e X.env=pure none:=by rfl)
  (h1:(assignEach [tg] X.env).map (·.2)=[assign tg X.env]:=by rfl):PSD X (.Assign [tg] e pos) (vD te g):=by
 intro pins s σ H W ρ E I r h
 refine wpAny_Assign_stores (thn (he pins s σ H W ρ _ I r h) fun u s1 ⟨v,H1,d,I1,r1,e1,hd,q1⟩=>?_) hs hw
 rw[h1]
 exact thn (hg pins s1 σ H1 W ρ d v u _ I1 (r.same e1) r1 hd q1) fun _ s2 ⟨W2,σ2,H2,ρ2,I2,f2,r2,q2⟩=>⟨W2,σ2,H2,I2,(Fwd.same e1).trans f2,ρ2,r2,q2⟩
def YD(K:PySem.W.Frag)(W:Own)(H:Hp)(J:It)(ds:List D):Prop:=∀(P':Bool->Addr->Prop) (H':Hp),(∀a vs,SqT K H a vs->SqT K H' a vs)->(∀t a vs,¬W.bad t a->SqG K H t a vs->¬P' t a/\SqG K H' t a vs)->(∀a o,Sol o->H a=some o->H' a=some o)->∀i,(i<ds.length->J.go i H')/\(∀x H3,J.yld i H' x H3->i<ds.length->ar H' H3/\∃d,ds[i]?=some d/\Den K P' H3 d x)/\(ds.length<=i->J.stop i H')
def PID(X:Cx)(tg iter:Expr)(wi:DA):Prop :=
 ∀ (pins:List (Addr×Obj)) (s:Shared) (σ:St) (H:Hp) (W:Own) (ρ:Ro) (R:List D->Prop),Inv X pins σ H s->Rel X W H σ ρ->wi ρ R →
  wpAny (model X.prog X.w) X.A (eval iter X.env) (fun v s1=>wpAny (model X.prog X.w) X.A (pyIter v) (fun itv s2=>∃(it:Addr) (fp:List Addr) (tn:Nat->Heap->Prop) (J:It) (H':Hp) (ds:List D),itv=.ref it/\Inv X pins σ H' s2/\ar H H' ∧
   Turn X.prog X.w X.K tg J fp it tn/\tn 0 s2.heap/\(∀b∈fp,dI X pins H' b)/\YD X.K W H' J ds/\R ds) X.xe s1) X.xe s
theorem PID.of{tg iter:Expr}{wi:TI}{wd:DA}(h:PI X tg iter wi)(k:∀σ H W ρ R,Rel X W H σ ρ->wd ρ R->wi σ H fun J H'=>ar H H'/\∃ds,YD X.K W H' J ds/\R ds):PID X tg iter wd:=by
 intro pins s σ H W ρ R I r hw
 refine thn (h pins s σ H _ I (k σ H W ρ R r hw)) fun v s1 h1=>thn h1 fun itv s2 h2=>?_
 obtain⟨it,fp,tn,J,H',e,I2,T,st,f2,e2,ds,y,q⟩:=h2
 exact⟨it,fp,tn,J,H',ds,e,I2,e2,T,st,f2,y,q⟩
def qR(ti:DE):DA:=fun ρ R=>ti ρ fun d=>∃t ds,d=.lst t ds/\R ds
theorem bO{tg iter:Expr}{ti:DE}(h:PED X iter ti):PID X tg iter (qR ti):=by
 refine PID.of (BN h.pe) fun σ H W ρ R r hw=>⟨W,ρ,_,r,hw,fun v H1 d e1 hd q=>?_⟩
 obtain⟨tg',ds,rfl,q⟩:=q
 obtain⟨a,vs,rfl,na,hq,hds⟩:=hd.lstG_
 refine⟨a,rfl,⟨vs,hq.1⟩,e1,ds,?_,q⟩
 intro P' H' hT hL hX i
 have hq':SqL X.K H' a vs:=(hL _ a vs na hq).2.1
 have hl:=hds.len
 refine⟨fun hi=>?_,fun x H3 y hi=>?_,fun hi=>⟨vs,hq',by omega⟩⟩
 ·obtain⟨v,hv,_⟩:=hds.get (i:=i) (d:=ds[i]) (by simp[hi])
  exact⟨vs,v,hq',hv⟩
 ·obtain⟨e3,y⟩:=y
  subst e3
  obtain⟨d,h1,h2⟩:=hds.bg (y vs hq')
  exact⟨ar.refl _,d,h1,Den.map hT hL hX d _ h2⟩
def gg(lo step:Int)(n:Nat):List D:=(List.range n).map fun(i:Nat)=>D.int (lo+i*step)
theorem m6(lo step:Int)(n:Nat):(gg lo step n).length=n:=by simp[gg]
theorem tD{lo step:Int}{n i:Nat}(h:i<n):(gg lo step n)[i]?=some (D.int (lo+i*step)):=by simp[gg,h]
def Ci(lo c:Int)(n:Nat):It:=⟨fun i _=>i<n,fun i H x H'=>H'=H/\x=.int (lo+i*c),fun i _=>n<=i⟩
theorem Au(K:PySem.W.Frag)(W:Own)(H:Hp)(lo c:Int)(n:Nat):YD K W H (Ci lo c n) (gg lo c n):=fun P' H' _ _ _ i=>by
 rw[m6]
 refine⟨fun h=>h,fun x H3 y hi=>?_,fun h=>h⟩
 obtain⟨e,ex⟩:=y
 subst e ex
 exact⟨ar.refl _,_,tD hi,Den.int _⟩
theorem uh{P:Program}{w:World}{K:PySem.W.Frag}{tg:Expr}(it:Addr)(lo c:Int)(n:Nat):Turn P w K tg (Ci lo c n) [it] it (fun i h=>IsRangeIter h it (lo+(i:Nat)*c) ((n:Int) - (i:Nat)) c) where
 mem:=by simp
 obj:=fun i h st b hb=>by
  have e:b=it:=by simpa using hb
  subst e
  exact⟨_,st,fun v z=>by
   have z':Data.fields _=Data.cell v:=z
   cases z'⟩
 keep:=fun i h h' st k=>k it (by simp) _ st
 item:=by
  intro X hP hw hK hc i pins s σ H E I hf st hg
  subst hP hw hK
  obtain⟨f0,f1,f2,f3,f4,f5⟩:=hf it (by simp)
  have W:=Walks.range (prog:=X.prog) (w:=X.w) (I.ok.hd hc) it lo c n
  refine W.item i s _ _ hg st fun v h' tk hv st' kk=>?_
  obtain⟨t,rfl⟩:=hv
  have I1:Inv X pins σ H {s with heap:=h',toks:=tk}:=I.turned (fun b o hb e=>kk b o (by simpa using hb) e) f0 f1 f3 f4 f5
  exact⟨_,rfl,vW (s:={s with heap:=h',toks:=tk}) (n := "range_iterator") st' rfl rfl (by decide) ⟨.int (lo+i*c),H,I1,⟨t,rfl⟩,⟨rfl,rfl⟩,st',fun b hb=>(hf b hb).1⟩⟩
 done:=by
  intro X hP hw hK hc i pins s σ H E I hf st hg
  subst hP hw hK
  obtain⟨f0,f1,f2,f3,f4,f5⟩:=hf it (by simp)
  exact wpAny_pyNext_range_end (I.ok.hd hc) st (by have:n<=i:=hg;omega) fun h' eb=>⟨rfl,I.turned (t':=s.toks) (fun b o hb e=>eb b o hb e) f0 f1 f3 f4 f5⟩
 self:=fun _ _ _ _ _ st h=>wpAny_pyIter_rangeiter st h
def fJ(lo hi c:Int):Nat:=(Builtin.Range.rangeSize lo hi c).toNat
theorem yp{a b c:Int}(ha:-(2 ^ 40)<=a)(ha':a<2 ^ 40)(hb:-(2 ^ 40)<=b)(hb':b<2 ^ 40)(hc:0<c)(hc':c<2 ^ 20):Builtin.Range.small a b c=true/\0<=Builtin.Range.rangeSize a b c:=by
 have hd:a<b->0<=(b - a - 1) / c/\(b - a - 1) / c<=b - a - 1:=fun h=>⟨Int.ediv_nonneg (by omega) (by omega),Int.ediv_le_self _ (by omega)⟩
 have hm:a<b->(b - a - 1) / c*c<=b - a - 1:=fun h=>Int.ediv_mul_le _ (by omega)
 unfold Builtin.Range.small Builtin.Range.rangeSize
 rw[if_pos (show c > 0 from hc)]
 by_cases h:a<b
 ·obtain⟨h1,h2⟩:=hd h
  have h3:=hm h
  rw[if_pos h]
  generalize (b - a - 1) / c=q at h1 h2 h3 ⊢
  have h4:0<=q*c:=zAc h1 (by omega)
  simp only[Builtin.Range.rangeFitsLong,zBO,Bool.or_eq_true,decide_eq_true_eq,beq_iff_eq]
  have e:(q+1 - 1)*c=q*c:=by rw[Int.add_sub_cancel]
  have e':(q+1)*c=q*c+c:=by rw[Int.add_mul,zA9]
  constructor
  ·rw[if_pos (show c > 0 from hc)]
   simp only[zBO,decide_eq_true_eq]
   omega
  ·omega
 ·rw[if_neg h]
  simp only[Builtin.Range.rangeFitsLong,zBO,Bool.or_eq_true,decide_eq_true_eq,beq_iff_eq]
  constructor
  ·simp;omega
  ·exact zA2 _
theorem qF {pins : List (Addr × Obj)} {σ : St} {H : Hp} {s : Shared} {W : Own} {R : List D -> Prop} {E : Value -> Shared -> Prop} {tg : Expr} {lo hi c : Int} {t u v : Tok} {tk : Nat} (I : Inv X pins σ H s) (h1 : -(2 ^ 40) <= lo) (h2 : lo < 2 ^ 40) (h3 : -(2 ^ 40) <= hi) (h4 : hi < 2 ^ 40) (h5 : 0 < c) (h6 : c < 2 ^ 20)
  (q : R (gg lo c (fJ lo hi c))) : wpAny (model X.prog X.w) X.A (pyIter (.ref s.heap.objs.size)) (fun itv s2 => ∃ (it : Addr) (fp : List Addr) (tn : Nat -> Heap -> Prop) (J : It) (H' : Hp) (ds : List D), itv = .ref it /\ Inv X pins σ H' s2 /\ ar H H' ∧
   Turn X.prog X.w X.K tg J fp it tn /\ tn 0 s2.heap /\ (∀ b ∈ fp, dI X pins H' b) /\ YD X.K W H' J ds /\ R ds) E { s with heap := s.heap.push { cls := .type "range", data := .fields #[.int lo t, .int hi u, .int c v] }, toks := tk } := by
 obtain ⟨sm, nn⟩ := yp h1 h2 h3 h4 h5 h6
 refine wpAny_pyIter_range (IsRange.new ..) sm ?_
 have I1 : Inv X pins σ H { s with heap := s.heap.push { cls := .type "range", data := .fields #[.int lo t, .int hi u, .int c v] }, toks := tk } := I.kept fun b o e => zAF _ e
 refine ⟨(s.heap.push { cls := .type "range", data := .fields #[.int lo t, .int hi u, .int c v] }).objs.size, [(s.heap.push { cls := .type "range", data := .fields #[.int lo t, .int hi u, .int c v] }).objs.size], _, _, H, _, rfl,
  I1.kept (t' := tk) fun b o e => zAF _ e, ar.refl H, uh _ lo c (fJ lo hi c), ?_, fun b hb => ?_, Au _ _ _ _ _ _, q⟩
 ·have e1 : lo + ((0 : Nat) : Int) * c = lo := by simp
  have e2 : ((fJ lo hi c : Nat) : Int) - ((0 : Nat) : Int) = Builtin.Range.rangeSize lo hi c := by unfold fJ; omega
  show IsRangeIter _ _ (lo + ((0 : Nat) : Int) * c) (((fJ lo hi c : Nat) : Int) - ((0 : Nat) : Int)) c
  rw [e1, e2]
  exact zAU _ rfl
 ·have e : b = (s.heap.push { cls := .type "range", data := .fields #[.int lo t, .int hi u, .int c v] }).objs.size := by simpa using hb
  subst e
  exact I1.fpOk (zAM _) (I1.hok.fresh (zAM _))
def CR3(i:Int):Prop:=-(2 ^ 40)<=i/\i<2 ^ 40
def qU(ta:DA):DA:=fun ρ R=>ta ρ fun ds=>∃i j:Int,ds=[.int i,.int j]/\CR3 i/\CR3 j/\R (gg i 1 (fJ i j 1))
def vM(ta:DA):DA:=fun ρ R=>ta ρ fun ds=>∃j:Int,ds=[.int j]/\CR3 j/\R (gg 0 1 (fJ 0 j 1))
theorem qn {tg a b:Expr} {ta:DA} {p pos:Pos} (hg:Gl X "range") (hm:X.mg "range" = none) (ha:PAD X [a,b] ta) (hs:starEach [a,b] X.env=(false,eval a X.env)::starEach [b] X.env:=by rfl) (hs2:(backTo pos (starEach [b] X.env)).any (·.1)=false:=by rfl) :
  PID X tg (.Call (.Name "range" p) [a,b] [] pos) (qU ta):=by
 intro pins s σ H W ρ R I r h
 refine Call_ (eQ I hg hm boot_range (PyProof.Rows.callWith_type1 (thn (ha pos pins s σ H W ρ _ I r h) fun us s1 ⟨vs,H1,ds,I1,r1,e1,hd,q1⟩=>?_) hs hs2))
 obtain⟨i,j,e,⟨a1,a2⟩,⟨b1,b2⟩,q⟩:=q1
 subst e
 obtain⟨v1,u1,rfl,d1,d2⟩:=qV hd
 have z1:=d1.int_
 have z2:=d2.int_
 subst z1 z2
 cases r1 with
 |cons ra rr =>
  cases rr with
  |cons rb rr =>
   cases rr
   obtain⟨t,rfl⟩:=ra
   obtain⟨t',rfl⟩:=rb
   refine call_range_2 ?_
   exact thn (qF (W:=W) (R:=R) I1 a1 a2 b1 b2 (by decide) (by decide) q) fun itv s2 ⟨it,fp,tn,J,H',ds,x1,x2,x3,x4,x5,x6,x7,x8⟩=>⟨it,fp,tn,J,H',ds,x1,x2,e1.trans x3,x4,x5,x6,x7,x8⟩
theorem dR {tg a:Expr} {ta:DA} {p pos:Pos} (hg:Gl X "range") (hm:X.mg "range" = none) (ha:PAD X [a] ta) (hs:starEach [a] X.env=(false,eval a X.env)::starEach [] X.env:=by rfl) (hs2:(backTo pos (starEach [] X.env)).any (·.1)=false:=by rfl) :
  PID X tg (.Call (.Name "range" p) [a] [] pos) (vM ta):=by
 intro pins s σ H W ρ R I r h
 refine Call_ (eQ I hg hm boot_range (PyProof.Rows.callWith_type1 (thn (ha pos pins s σ H W ρ _ I r h) fun us s1 ⟨vs,H1,ds,I1,r1,e1,hd,q1⟩=>?_) hs hs2))
 obtain⟨j,e,⟨b1,b2⟩,q⟩:=q1
 subst e
 obtain⟨v1,rfl,d1⟩:=lX hd
 have z1:=d1.int_
 subst z1
 cases r1 with
 |cons ra rr =>
  cases rr
  obtain⟨t,rfl⟩:=ra
  refine call_range_1 ?_
  exact thn (qF (W:=W) (R:=R) I1 (by decide) (by decide) b1 b2 (by decide) (by decide) q) fun itv s2 ⟨it,fp,tn,J,H',ds,x1,x2,x3,x4,x5,x6,x7,x8⟩=>⟨it,fp,tn,J,H',ds,x1,x2,e1.trans x3,x4,x5,x6,x7,x8⟩
def vF(wi:DA)(g:DG)(tb:DS):DS:=fun E ρ=>wi ρ fun ds=>∃Pv:Nat->Ro->Prop,Pv 0 ρ ∧
 (∀j x ρ',ds[j]?=some x->Pv j ρ'->g x ρ' fun ρ2=>tb {E with nx:=Pv (j+1),ct:=Pv (j+1),bk:=E.nx} ρ2)/\∀ρ',Pv ds.length ρ'->E.nx ρ'
theorem cA{tg iter:Expr}{body:List Stmt}{wi:DA}{g:DG}{tb:DS}(hp:PassesOwn (model X.prog X.w) X.A X.env X.xe)(hc:X.calm=true)(hi:PID X tg iter wi)(hg:PGD X tg g)(hb:cT X body tb)
  (hs:∀x,foldedSetIterable iter X.env x=pure x:=by intro _;rfl):PSD X (.For tg iter body [] pos) (vF wi g tb):=by
 intro pins s σ H W ρ E I r h
 refine wpAny_For (thn (hi pins s σ H W ρ _ I r h) fun v s1 h1=>thn h1 fun itv s2 h2=>?_) hs
 obtain⟨it,fp,tn,J,H2,ds,e,I2,e2,T,st2,f2,yd,Pv,p0,turn,pd⟩:=h2
 subst e
 have r2:=r.same e2
 have stat:∀{H':Hp},(∀b∈fp,H' b=none)->∀b∈fp,dI X pins H' b:=fun hn b hb=>⟨hn b hb,(f2 b hb).2⟩
 refine codeAny_forLoop_any (fun n s'=>∃i W' σ' H' ρ',n=ds.length - i/\i<=ds.length/\Inv X pins σ' H' s'/\tn i s'.heap/\(∀b∈fp,H' b=none)/\Fwd W H2 W' H'/\Rel X W' H' σ' ρ'/\Pv i ρ') ?_ ds.length ⟨0,W,σ,H2,ρ,by simp,zAk _,I2,st2,fun b hb=>(f2 b hb).1,Fwd.refl W H2,r2,p0⟩
 rintro n s3 ⟨i,W3,σ3,H3,ρ3,en,hle,I3,st3,fr3,fw3,r3,p3⟩
 obtain⟨yg,yy,ys⟩:=yd W3.bad H3 (CV r2 fw3) (CU r3 fw3) (CW r2 fw3) i
 by_cases hlt:i<ds.length
 ·refine wpAny_passesOwn hp (thn (T.item X rfl rfl rfl hc i pins s3 σ3 H3 X.xe I3 (stat fr3) st3 (yg hlt)) fun rr s4 ⟨u,hr,h4⟩=>?_)
  subst hr
  refine wpAny_passesOwn hp (thn h4 fun _ s5 ⟨x,H5,I5,r5,y5,st5,fr5⟩=>?_)
  obtain⟨e5,d,hd,hden⟩:=yy x H5 y5 hlt
  have I5':=I5.pinned (stat fr5) (T.obj _ _ st5)
  have rl5:=r3.same e5
  refine wpAny_passesOwn hp (thn (hg _ s5 σ3 H5 W3 ρ3 d x u _ I5' rl5 r5 hden (turn i d ρ3 hd p3)) fun _ s6 ⟨W6,σ6,H6,ρ6,I6,f6,r6,q6⟩=>?_)
  refine wpAny_passesOwn hp (thn (hb _ s6 σ6 H6 W6 ρ6 _ I6 r6 q6) fun f s7 q7=>?_)
  obtain⟨W7,σ7,H7,I7,f7,q7⟩:=q7
  have fw7:Fwd W H2 W7 H7:=fw3.trans ((Fwd.same e5).trans (f6.trans f7))
  have fw70:Fwd W H W7 H7:=(Fwd.same e2).trans fw7
  have again:∀{ρ7:Ro},Rel X W7 H7 σ7 ρ7->Pv (i+1) ρ7->∃m,m<n/\∃i W' σ' H' ρ',m=ds.length - i/\i<=ds.length/\Inv X pins σ' H' s7/\tn i s7.heap/\(∀b∈fp,H' b=none)/\Fwd W H2 W' H'/\Rel X W' H' σ' ρ'/\Pv i ρ':=fun {ρ7} r7 p7=>by
   refine⟨ds.length - (i+1),by omega,i+1,W7,σ7,H7,ρ7,rfl,hlt,I7.unpinned,T.keep _ _ _ st5 fun b hb o e=>(I7.pin (b,o) (zAR _ (zAR _ (eG hb e)))).1,fun b hb=>?_,fw7,r7,p7⟩
   obtain⟨o,e,d⟩:=T.obj _ _ st5 b hb
   exact(I7.pin (b,o) (zAR _ (zAR _ (eG hb e)))).2.1
  cases f with
  |next=>obtain⟨ρ7,r7,n7⟩:=q7;exact again r7 n7
  |cont=>obtain⟨ρ7,r7,n7⟩:=q7;exact again r7 n7
  |brk=>obtain⟨ρ7,r7,q7⟩:=q7;exact⟨W7,σ7,H7,I7.unpinned,fw70,ρ7,r7,q7⟩
  |ret v=>obtain⟨x7,d7,r7,h7,q7⟩:=q7;exact⟨W7,σ7,H7,I7.unpinned,fw70,x7,d7,r7,h7,q7⟩
 ·have e:i=ds.length:=by omega
  refine wpAny_passesOwn hp (thn (T.done X rfl rfl rfl hc i pins s3 σ3 H3 X.xe I3 (stat fr3) st3 (ys (by omega))) fun rr s4 ⟨hr,I4⟩=>?_)
  subst hr
  subst e
  exact wpAny_execs_nil ⟨W3,σ3,H3,I4,(Fwd.same e2).trans fw3,ρ3,r3,pd ρ3 p3⟩
def y4(i j:Nat)(ta:DA):DS:=fun E ρ=>ta ρ fun ds=>∃d e,ds=[d,e]/\E.nx ((ρ.set i (some (.val d))).set j (some (.val e)))
theorem CI{x y:Str}{a b:Expr}{ta:DA}{px py pt:Pos}{kt k2 pt2}(i j:Nat)(hc:X.calm=true)(hN:X.N.Nodup)(hij:i≠j)(ha:PAD X [a,b] ta)(hi:X.N[i]?=some x:=by rfl)(hj:X.N[j]?=some y:=by rfl)
  (hx:X.env.scope.names.lookup x=some .local:=by rfl) (hy:X.env.scope.names.lookup y=some .local:=by rfl)
  (hw:swappedStores [.Tuple [.Name x px,.Name y py] kt pt] (.Tuple [a,b] k2 pt2) X.env=pure (some [x,y]):=by rfl)
  (hs:swapsWithSole [.Tuple [.Name x px,.Name y py] kt pt] (.Tuple [a,b] k2 pt2) pos.line X.env=pure false:=by rfl) :
  PSD X (.Assign [.Tuple [.Name x px,.Name y py] kt pt] (.Tuple [a,b] k2 pt2) pos) (y4 i j ta):=by
 have hpa:PA X [a,b] (fun σ H Q=>∃W ρ Qd,Rel X W H σ ρ/\ta ρ Qd/\∀vs H' ds,ar H H'->af X.K W.bad H' ds vs->Qd ds->Q vs H'):=by
  intro pos pins s σ H Q I q
  obtain⟨W,ρ,Qd,r,ht,k⟩:=q
  exact thn (ha pos pins s σ H W ρ Qd I r ht) fun us s1 ⟨vs,H',ds,I1,rv,e1,hd,qd⟩=>⟨vs,H',I1,rv,k vs H' ds e1 hd qd⟩
 refine PSD.of (DC hc hN hi hj hij hx hy hpa hw hs) fun σ H W ρ E r hl h=>?_
 refine⟨W,ρ,_,r,h,fun vs H' ds e1 hd q=>?_⟩
 obtain⟨d,e,rfl,q⟩:=q
 obtain⟨v,u,rfl,h1,h2⟩:=qV hd
 have ilt:i<σ.length:=by rw[hl];exact(zAE.mp hi).1
 have jlt:j<(σ.set i (some v)).length:=by rw[zBK,hl];exact(zAE.mp hj).1
 have r1:=(r.same e1).put ilt h1
 exact⟨v,u,rfl,_,_,(Fwd.same e1).trans ((Fwd.drop W H' i).trans (Fwd.drop _ H' j)),r1.put jlt (h2.fewer fun _ _=>Own.drop_bad),q⟩
end
def aF(N:List Str)(ds:List D):Ro:=ds.map (fun d=>some (.val d))++List.replicate (N.length - ds.length) none
theorem Rel.start{X:Cx}{P:Addr->Prop}{H:Hp}{N:List Str}{ds:List D}{vs:List V}(hP:∀a,P a->∃o,H a=some o)(h:af X.K (fun t a=>t=true∨P a) H ds vs)(hH:X.H₀=H)(hT:fD X.K H):Rel X ⟨P,fun _=>none,fun a=>∃o,H a=some o⟩ H (start N vs) (aF N ds) where
 val:=fun i d e=>by
  unfold aF at e
  have hl:=h.len
  by_cases hi:i<ds.length
  ·rw[zAq (by simpa using hi),zAH]at e
   cases q:ds[i]? with
   |none=>rw[q]at e;cases e
   |some d' =>
    rw[q]at e
    have e':d'=d:=by simpa using e
    subst e'
    obtain⟨v,h1,h2⟩:=h.get q
    refine⟨v,?_,h2.fewer fun tg a z=>?_⟩
    ·unfold L2.start
     rw[zAq (by simpa [hl]using hi),zAH,h1]
     rfl
    ·rcases z with z|⟨j,z⟩| ⟨z,_⟩
     ·exact .inr z
     ·cases z
     ·exact .inl z
  ·rw[zAf (by simpa using hi),zBW]at e
   split at e<;>cases e
 own:=fun i d e=>by
  unfold aF at e
  by_cases hi:i<ds.length
  ·rw[zAq (by simpa using hi),zAH]at e
   cases q:ds[i]? with
   |none=>rw[q]at e;cases e
   |some d'=>rw[q]at e;cases e
  ·rw[zAf (by simpa using hi),zBW]at e
   split at e<;>cases e
 inj:=fun i j a h _=>by cases h
 kn:=fun i a h=>by cases h
 ke:=fun i a h=>by cases h
 bt:=hP
 st:=fun _ z=>z
 ent:=by rw[hH];exact ar.refl H
 tab:=hT
end PD
namespace PD
open PySem PySem.Spec PyProof.Rows L2 PX
theorem cC.there{P:Program}{w:World}{H:Hp}{h:Heap}{a:Addr}{o:HO}(x:cC P w H h a o):∃u,h.get? a=some u:=by
 cases o with
 |lst xs=>obtain⟨_,_,_,_,e⟩:=x;exact⟨_,e⟩
 |tup xs=>obtain⟨_,_,_,ob,e,_⟩:=x;exact⟨ob,e⟩
 |dK kvs=>obtain⟨_,_,_,_,ob,_,_,e,_⟩:=x;exact⟨ob,e⟩
 |dT kvs=>obtain⟨_,_,_,_,ob,_,_,e,_⟩:=x;exact⟨ob,e⟩
 |set S n=>obtain⟨ob,_,_,_,e,_⟩:=x;exact⟨ob,e⟩
 |ins C dx fs=>obtain⟨_,_,_,e,_⟩:=x;exact⟨_,e⟩
 |own y=>exact x
 |xd fs=>obtain⟨_,⟨ob,_,_,e,_⟩,_⟩:=x;exact⟨ob,e⟩
 |rng lo hi=>obtain⟨_,_,_,e⟩:=x;exact⟨_,e⟩
 |frz ob u=>obtain⟨e,_⟩:=x;exact⟨ob,e⟩
 |tbl ps=>exact⟨_,x⟩
 |met f y=>exact⟨_,x⟩
 |ext φ=>obtain⟨_,e,_⟩:=x;exact e
theorem HOk.keptT {P : Program} {w : World} {H : Hp} {h h' : Heap} (x : HOk P w H h) (k : ∀ b u, (∃ o, H b = some o) -> h.get? b = some u -> h'.get? b = some u) : HOk P w H h' := fun a o e =>
 (x a o e).stay (fun b u hb q => k b u (by
  rcases hb with z | z
  ·subst z; exact ⟨o, e⟩
  ·exact ⟨_, z⟩) q) (fun _ q => q) fun _ _ q => q
structure Fl(P:Program)(w:World)(l:List Env)(h₀:Heap)(H₀ H:Hp)(B h:Heap):Prop where
 un:Un (frs l) [] H₀ H h₀ h
 hok:HOk P w H h
 fr:∀b∈frs l,H₀ b=none/\∃o,h₀.get? b=some o/\∀vs,o.data ≠ .fields vs
 cov:∀b o,h.get? b=some o->((∃u,H b=some u)∨∃ o',h₀.get? b=some o')->b∉frs l->B.get? b=some o
section
variable{P:Program}{w:World}{l:List Env}{h₀:Heap}{H₀ H:Hp}{B h h':Heap}
theorem Fl.free(F:Fl P w l h₀ H₀ H B h){b:Addr}(hb:b∈frs l):H b=none:=by
 obtain⟨n,o,e,_⟩:=F.fr b hb
 exact F.un.free b o e n (by simp)
theorem Fl.step(F:Fl P w l h₀ H₀ H B h)(st:B.StaysIn h')(sl:h.UpToSlots h'):Fl P w l h₀ H₀ H B h':=by
 have fr1:∀b o,b∈frs l->h₀.get? b=some o->∃s',h'.get? b=some {o with slots:=s'}:=fun b o hb e=>by
  obtain⟨n,o',e',hd⟩:=F.fr b hb
  rw[e]at e'
  cases e'
  obtain⟨s1,e1⟩:=F.un.slot b o e n hb (by simp)
  obtain⟨s2,e2⟩:=sl b _ e1 hd
  exact⟨s2,e2⟩
 have kp:∀b o,h.get? b=some o->((∃u,H b=some u)∨∃ o',h₀.get? b=some o')->b∉frs l->h'.get? b=some o:=fun b o e c n=>st b o (F.cov b o e c n)
 refine⟨⟨fun b o e n hb hx=>kp b o (F.un.keep b o e n hb hx) (.inr ⟨o,e⟩) hb,fun b o e n hb hx=>fr1 b o hb e,F.un.free,fun b o e hx=>?_,F.un.tups,F.un.frzs,F.un.tbls⟩,PD.HOk.keptT F.hok (fun b u hu e=>kp b u e (.inl hu) fun z=>?_),F.fr,fun b o e c n=>?_⟩
 ·by_cases hb:b∈frs l
  ·obtain⟨s2,e2⟩:=fr1 b o hb e
   exact⟨_,e2⟩
  ·obtain⟨o',e1⟩:=F.un.there b o e hx
   exact⟨o',kp b o' e1 (.inr ⟨o,e⟩) hb⟩
 ·obtain⟨o,q⟩:=hu
  rw[F.free z]at q
  cases q
 ·have:∃o1,h.get? b=some o1:=by
   rcases c with⟨u,c⟩| ⟨o',c⟩
   ·exact PD.cC.there (F.hok b u c)
   ·exact F.un.there b o' c (by simp)
  obtain⟨o1,e1⟩:=this
  have q:=kp b o1 e1 c n
  rw[e]at q
  cases q
  exact F.cov b o e1 c n
end
def CX1(P:Program)(w:World):CXT:=fun outer H s E e s'=>∃(ea c:Addr) (H':Hp) (B:Heap) (a0:Value),e=.ref ea/\s'.os=s.os/\AllBare s'.gens/\Fl P w outer s.heap H H' B s'.heap/\ar H H'/\H' ea=none/\s.heap.get? ea=none ∧
 Heap.FlyingW B outer ea (.ref c) a0 s'.heap/\E (.ref c) none H'
theorem AJ{P:Program}{w:World}{X:Cx}:Passes (CX1 P w) X E0:=fun _ _ _ _ _ _ _ h=>by
 obtain⟨_,_,_,_,_,_,_,_,_,_,_,_,_,z⟩:=h
 exact z.elim
def MadeX(X:Cx)(Ed:Value->Prop):Prop:=∀(pins:List (Addr×Obj)) (σ:St) (H:Hp) (W:Own) (ρ:Ro) (s:Shared) (e c:Addr) (vs:List Value) (h':Heap),Inv X pins σ H s->Rel X W H σ ρ->Heap.MadeExcOf s.heap h' e (.ref c) vs->Ed (.ref c)->X.xe (.ref e) {s with heap:=h'}
def cU(X:Cx)(Ed:Value->Prop):Prop:=∀(pins:List (Addr×Obj)) (σ:St) (H:Hp) (W:Own) (ρ:Ro) (s:Shared) (e:Value) (s':Shared),Inv X pins σ H s->Rel X W H σ ρ->CX1 X.prog X.w X.stack H s (fun c _ _=>Ed c) e s'->X.xe e s'
section
variable{P:Program}{w:World}{K:PySem.W.Frag}{mg:Str->Option Value}{base:Heap}{N:List Str}{qual:Str}{sc:Scope}{f:Addr}{cd:Value}{A:Around}{outer:List Env}{s₀:Shared}{H₀:Hp}{E:XK}
theorem rF{pins:List (Addr×Obj)}{σ:St}{H:Hp}{s:Shared}{B h':Heap}{e c:Addr}{a0:Value}(I:Inv (cW (CX1 P w) P w K mg base N qual sc f cd A outer s₀ H₀ E) pins σ H s)(hS:ar H₀ H)(hn:H e=none)(hn0:s₀.heap.get? e=none)
  (cov:∀b o,s.heap.get? b=some o->((∃u,H b=some u)∨∃ o',s₀.heap.get? b=some o')->b∉frs (envOfC qual sc s₀.heap.objs.size f cd::outer)->B.get? b=some o)
  (fl:Heap.FlyingW B outer e (.ref c) a0 h') (sl:s.heap.UpToSlots h') (hE:E (.ref c) none H):CX1 P w outer H₀ s₀ E (.ref e) {s with heap:=h'}:=by
 have nf:∀b,((∃u,H b=some u)∨∃ o',s₀.heap.get? b=some o')->b∉frs outer->b∉frs (envOfC qual sc s₀.heap.objs.size f cd::outer):=fun b c n z=>by
  rcases c with⟨u,c⟩| ⟨o',c⟩
  ·have:=I.stkFree b z
   rw[c]at this
   cases this
  ·rcases zAC.mp (I.stkSub b z)with q|q
   ·have h1:=zAJ c
    have h2:s₀.heap.objs.size<=b:=by rw[q];exact I.ok.above
    exact absurd (zAW h1 h2) (zBG _)
   ·exact n q
 have F:Fl P w outer s₀.heap H₀ H B s.heap:=⟨I.base,I.hok,fun b hb=>⟨I.ok.frf b hb,by
  obtain⟨_,o,e,d⟩:=I.ok.funs.mem hb
  exact⟨o,e,d⟩⟩,fun b o e c n=>cov b o e c (nf b c n)⟩
 exact⟨e,c,H,B,a0,rfl,I.os,I.bare,F.step fl.1 sl,hS,hn,hn0,fl,hE⟩
theorem Eh{Ed:Value->Prop}(hE:∀c a H',ar H₀ H'->Ed c->E c a H'):MadeX (cW (CX1 P w) P w K mg base N qual sc f cd A outer s₀ H₀ E) Ed:=by
 intro pins σ H W ρ s e c vs h' I r hx hd
 show wpAny (model P w) (A.deeper (envOfC qual sc s₀.heap.objs.size f cd)) (leaving (envOfC qual sc s₀.heap.objs.size f cd) (.ref e)) _ _ _
 refine wpAny_leaves_madeW (base:=PySem.W.hideAll s.heap (frs (envOfC qual sc s₀.heap.objs.size f cd::outer))) (h:=s.heap) (outer:=outer) I.ok.frames rfl (fun b o q=>PySem.W.of_hideAll _ q)
  (PySem.W.funFrames_hide I.stack fun env he b hb=>zCU.mpr ⟨env,he,hb⟩) hx fun h'' t x1 _ _ x4=>?_
 have ne:∀{h1:Heap},(∀b o,h1.get? b=some o->∃o',s.heap.get? b=some o')->h1.get? e=none:=fun {h1} k=>by
  cases q:h1.get? e with
  |none=>rfl
  |some o =>
   obtain⟨o',q'⟩:=k e o q
   rw[hx.new]at q'
   cases q'
 refine rF (s:=s) (h':=h'') I r.ent ?_ (ne fun b o q=>I.base.there b o q (by intro z;cases z)) (fun b o q _ n=>PySem.W.hideAll_get _ q n) x1 (fun b o q d=>?_) (hE _ _ _ r.ent hd)
 ·cases q:H e with
  |none=>rfl
  |some u =>
   obtain⟨o,z⟩:=PD.cC.there (I.hok e u q)
   rw[hx.new]at z
   cases z
 ·exact x4 b o (hx.keeps b o q) d
theorem BL{Ed:Value->Prop}(hE:∀c a H',ar H₀ H'->Ed c->E c a H'):cU (cW (CX1 P w) P w K mg base N qual sc f cd A outer s₀ H₀ E) Ed:=by
 intro pins σ H W ρ s e s' I r hx
 obtain⟨ea,c,H',B,a0,rfl,os,bare,F,sm,hn,hn0,fl,hd⟩:=hx
 show wpAny (model P w) (A.deeper (envOfC qual sc s₀.heap.objs.size f cd)) (leaving (envOfC qual sc s₀.heap.objs.size f cd) (.ref ea)) _ _ _
 refine wpAny_leaves_onW (outer:=outer) I.ok.frames rfl fl fun h'' x1 x2=>?_
 have I':=I.call' os F.un F.hok bare (by intro b z;cases z)
 refine rF (s:=s') (h':=h'') I' (r.ent.trans sm) hn ?_ (fun b o q z n=>F.cov b o q (z.elim .inl fun⟨o',z⟩=>.inr (I.base.there b o' z (by intro q;cases q))) n) x1 x2 (hE _ _ _ (r.ent.trans sm) hd)
 cases q:s₀.heap.get? ea with
 |none=>rfl
 |some o =>
  obtain⟨o',q'⟩:=I.base.there ea o q (by intro z;cases z)
  rw[hn0]at q'
  cases q'
end
section
variable{X:Cx}{k:Nat}{f:Addr}{fd:FuncData}{ps:List Str}{sp:DSp}{x:Str}{p pos:Pos}{e:Expr}{es:List Expr}{t:DA}
end
section
variable{X:Cx}{pos:Pos}
theorem j5{st:Stmt}:PSD X st (fun _ _=>False):=fun _ _ _ _ _ _ _ _ _ h=>h.elim
theorem Rel.wish{W:Own}{H:Hp}{σ:St}{ρ:Ro}(r:Rel X W H σ ρ)(E:Value->Shared->Prop):Rel (X.wish E) W H σ ρ:=⟨r.val,r.own,r.inj,r.kn,r.ke,r.bt,r.st,r.ent,r.tab⟩
theorem Rel.unwish{W:Own}{H:Hp}{σ:St}{ρ:Ro}{E:Value->Shared->Prop}(r:Rel (X.wish E) W H σ ρ):Rel X W H σ ρ:=⟨r.val,r.own,r.inj,r.kn,r.ke,r.bt,r.st,r.ent,r.tab⟩
theorem SPD.unwish{pins:List (Addr×Obj)}{W:Own}{H:Hp}{E:iB}{f:Flow}{s':Shared}{XE:Value->Shared->Prop}(h:SPD (X.wish XE) pins W H E f s'):SPD X pins W H E f s':=by
 obtain⟨W',σ',H',I,fw,q⟩:=h
 refine⟨W',σ',H',I.unwish,fw,?_⟩
 cases f with
 |next=>obtain⟨ρ',r,q⟩:=q;exact⟨ρ',r.unwish,q⟩
 |brk=>obtain⟨ρ',r,q⟩:=q;exact⟨ρ',r.unwish,q⟩
 |cont=>obtain⟨ρ',r,q⟩:=q;exact⟨ρ',r.unwish,q⟩
 |ret u=>exact q
theorem cT.nox{st:List Stmt}{t:DS}(h:cT X.nox st t):cT X st t:=fun pins s σ H W ρ E I r hw =>
 wpAny_mono (h pins s σ H W ρ E (I.wish _) (r.wish _) hw) (fun _ _ q=>q.unwish) fun _ _ z=>False.elim z
end
def vg(base:Heap)(l:List Env)(e:Addr)(cls a0:Value)(h:Heap):Prop:=base.StaysIn h/\base.get? e=none/\h.FunFrames base l/\∃fl,h.TracedAtW base e cls a0 fl
section
variable{M:Model}{A:Around}{E:Value->Shared->Prop}{s:Shared}{base:Heap}{l outer:List Env}{env:Env}{e L:Addr}{cls a0:Value}
theorem Bu{Q:Unit->Shared->Prop}(hfr:A.frames=some (env::outer))(hf:env.frame=some L)(R:vg base (env::outer) e cls a0 s.heap)
  (h:∀h',vg base (env::outer) e cls a0 h'->s.heap.UpToSlots h'->Q () {s with heap:=h'}):wpAny M A (noteFrame (.ref e) env) Q E s:=by
 obtain⟨k1,k2,k3,fl,oe,vs,T,oT,ts,g1,g2,g3,g4,g5,g6,g7,g8,g9⟩:=id R
 by_cases hfl:(fl==rawInt L)=true
 ·have efl:fl=rawInt L:=by simpa using hfl
  subst efl
  exact wpAny_noteFrame_againW (base:=base) (cls:=cls) (a0:=a0) hf ⟨oe,vs,T,oT,ts,g1,g2,g3,g4,g5,g6,g7,g8,g9⟩ (h _ R (Heap.UpToSlots.refl _))
 ·obtain⟨ec,g0⟩:=g2
  subst ec
  unfold noteFrame
  simp only[hf]
  refine wpAny_bind (wpAny_field g1 g3 g4 ?_)
  rw[if_pos (by simp)]
  refine wpAny_bind (wpAny_field g7 g8 g9 ?_)
  rw[if_neg hfl]
  refine wpAny_bind (wpAny_setField g7 g8 (zBE.mp g9).1 ?_)
  have oth:∀b,b≠T->(s.heap.update T (Obj.mapFields (·.setIfInBounds 3 Value.none))).get? b=s.heap.get? b:=fun b hb=>zBo _ _ (Ne.symm hb)
  have nrec:∀b o,s.heap.get? b=some o->(∀vs,o.data ≠ .fields vs)->b≠T:=fun b o hb hn q=>by
   rw[q,g7]at hb
   cases hb
   exact hn ts g8
  refine wpAny_entryW (base:=base) hfr (k3.of_keeps fun b o hb hn=>⟨o,(oth b (nrec b o hb hn)).trans hb,rfl⟩) hf ((oth e (Ne.symm g6)).trans g1) (fun b o hb=>(oth b fun q=>by rw[q,g5]at hb;cases hb).trans (k1 b o hb)) k2 g3 (zBE.mp g4).1 g0 fun h' hN=>?_
  obtain⟨n1,n2,n3,n4⟩:=hN
  exact h h' ⟨n1,k2,n2,_,n3⟩ fun b o hb hn=>n4 b o ((oth b (nrec b o hb hn)).trans hb) hn
theorem zG{Q:Unit->Shared->Prop}(hfr:A.frames=some (env::outer))(hf:env.frame=some L)(R:vg base (env::outer) e cls a0 s.heap)
  (h:∀h',Heap.FlyingW base outer e cls a0 h'->s.heap.UpToSlots h'->Q () {s with heap:=h'}):wpAny M A (leaving env (.ref e)) Q E s:=by
 unfold leaving
 refine wpAny_bind (Bu hfr hf R fun h1 R1 s1=>?_)
 obtain⟨k1,k2,k3,fl,k4⟩:=R1
 refine wpAny_setFlight_noneW (base:=base) k1 k3 k4 fun h2 m1 m2 m3 m4=>?_
 obtain⟨_,_,m2⟩:=m2
 exact h h2 ⟨m1,k2,m2,m3⟩ (s1.trans fun b o hb hn=>⟨o.slots,m4 b o hb hn⟩)
end
def vj(X:Cx)(Ed:Value->Prop):Prop:=∀(pins:List (Addr×Obj)) (σ:St) (H:Hp) (W:Own) (ρ:Ro) (s s':Shared) (ea c:Addr) (H':Hp) (B:Heap) (a0:Value),Inv X pins σ H s->Rel X W H σ ρ->s'.os=s.os->AllBare s'.gens->Fl X.prog X.w X.stack s.heap H H' B s'.heap->ar H H'->H' ea=none->s.heap.get? ea=none →
 vg B X.stack ea (.ref c) a0 s'.heap->Ed (.ref c)->X.xe (.ref ea) s'
section
variable{P:Program}{w:World}{K:PySem.W.Frag}{mg:Str->Option Value}{base:Heap}{N:List Str}{qual:Str}{sc:Scope}{f:Addr}{cd:Value}{A:Around}{outer:List Env}{s₀:Shared}{H₀:Hp}{E:XK}
theorem Eb{Ed:Value->Prop}(hE:∀c a H',ar H₀ H'->Ed c->E c a H'):vj (cW (CX1 P w) P w K mg base N qual sc f cd A outer s₀ H₀ E) Ed:=by
 intro pins σ H W ρ s s' ea c H' B a0 I r os bare F sm hn hn0 R hd
 show wpAny (model P w) (A.deeper (envOfC qual sc s₀.heap.objs.size f cd)) (leaving (envOfC qual sc s₀.heap.objs.size f cd) (.ref ea)) _ _ _
 refine zG (outer:=outer) I.ok.frames rfl R fun h'' x1 x2=>?_
 have I':=I.call' os F.un F.hok bare (by intro b z;cases z)
 refine rF (s:=s') (h':=h'') I' (r.ent.trans sm) hn ?_ (fun b o q z n=>F.cov b o q (z.elim .inl fun⟨o',z⟩=>.inr (I.base.there b o' z (by intro q;cases q))) n) x1 x2 (hE _ _ _ (r.ent.trans sm) hd)
 cases q:s₀.heap.get? ea with
 |none=>rfl
 |some o =>
  obtain⟨o',q'⟩:=I.base.there ea o q (by intro z;cases z)
  rw[hn0]at q'
  cases q'
end
section
variable{P:Program}{w:World}{K:PySem.W.Frag}{mg:Str->Option Value}{base:Heap}
structure aB(K:PySem.W.Frag)(x qual:Str)(st:Stmt)(f:Addr)(fd:FuncData):Prop where
 ex:∃(oc:Value) (od:Option Addr) (dV kV doc pm:Value) (an:Option Addr) (cdv ct:Value) (osl:Array (Option Value)),
  fd=PySem.W.fnOf x qual (eB st) (cu st) (au st) dV kV doc pm an cdv ct/\K.lookup f=some ⟨oc,od,.func fd,osl⟩/\PySem.W.codeIn K cdv qual=true
 kp:PySem.W.keepIn K (.ref f)=true
theorem aB.okC {x qual : Str} {st : Stmt} {f : Addr} {fd : FuncData} {N ps : List Str} {k : Nat} {sp : DSp} (F : aB K x qual st f fd) (S : aC N ps (au st)) (len : ∀ ds Q E, sp ds Q E -> ds.length = ps.length)
  (hbody : ∀ (cdv : Value), fd.code = cdv -> ∀ (A : Around) (outer : List Env) (s : Shared) (H : Hp) (E : XK) (Ed : Value -> Prop), bX k (A.deeper (envOfC qual (au st) s.heap.objs.size f cdv)) -> MadeX (cW (CX1 P w) P w K mg base N qual (au st) f cdv A outer s H E) Ed -> cU (cW (CX1 P w) P w K mg base N qual (au st) f cdv A outer s H E) Ed -> vj (cW (CX1 P w) P w K mg base N qual (au st) f cdv A outer s H E) Ed →
   ∃ t, cT (cW (CX1 P w) P w K mg base N qual (au st) f cdv A outer s H E) (cu st) t /\ ∀ ds Q, sp ds Q Ed -> t { nx := fun _ => Q .non, rt := Q } (aF N ds)) : aS P w K mg base (CX1 P w) (k + 1) f fd ps (aT K sp) := by
 obtain ⟨oc, od, dV, kV, doc, pm, an, cdv, ct, osl, rfl, lk, hcd⟩ := F.ex
 refine AD lk hcd S (fun vs H Q E h => ?_) fun A outer s H vs Q E hr h => ?_
 ·obtain ⟨_, ds, _, _, _, _, hd, hs, _⟩ := h
  rw [hd.len]
  exact len ds _ _ hs
 ·obtain ⟨Pb, ds, Qd, Ed, hT, hP, hd, hs, kq, ke⟩ := h
  obtain ⟨t, ht, k⟩ := hbody cdv rfl A outer s H E Ed hr (Eh ke) (BL ke) (Eb ke)
  refine ⟨_, ht.ps, ⟨Pb, fun _ => none, fun a => ∃ o, H a = some o⟩, _, _, Rel.start hP hd rfl hT, k ds Qd hs, fun W' σ' H' ρ' f r q => ?_, fun W' H' v d f hd' q => ?_, fun _ _ _ _ _ _ q => q, fun _ _ _ _ _ _ q => q⟩
  ·exact kq .non .non H' ⟨fun b o e n => f.kp b o (fun i z => by cases z) e n, f.tb, f.ok⟩ Den.non q
  ·refine kq d v H' ⟨fun b o e n => f.kp b o (fun i z => by cases z) e n, f.tb, f.ok⟩ (hd'.fewer fun t a z => ?_) q
   rcases z with z | z
   ·exact .inl (by rw [f.B]; exact z)
   ·exact .inr (.inr ⟨z.1, by rw [f.S]; exact z.2⟩)
theorem aB.okX {x qual : Str} {st : Stmt} {f : Addr} {fd : FuncData} {N ps : List Str} {k : Nat} {sp : DSp} (F : aB K x qual st f fd) (S : aC N ps (au st)) (len : ∀ ds Q E, sp ds Q E -> ds.length = ps.length)
  (hbody : ∀ (cdv : Value) (A : Around) (outer : List Env) (s : Shared) (H : Hp) (E : XK) (Ed : Value -> Prop), bX k (A.deeper (envOfC qual (au st) s.heap.objs.size f cdv)) -> MadeX (cW (CX1 P w) P w K mg base N qual (au st) f cdv A outer s H E) Ed -> cU (cW (CX1 P w) P w K mg base N qual (au st) f cdv A outer s H E) Ed -> vj (cW (CX1 P w) P w K mg base N qual (au st) f cdv A outer s H E) Ed →
   ∃ t, cT (cW (CX1 P w) P w K mg base N qual (au st) f cdv A outer s H E) (cu st) t /\ ∀ ds Q, sp ds Q Ed -> t { nx := fun _ => Q .non, rt := Q } (aF N ds)) : aS P w K mg base (CX1 P w) (k + 1) f fd ps (aT K sp) := aB.okC F S len fun cdv _ => hbody cdv
theorem aB.okN {x qual : Str} {st : Stmt} {f : Addr} {fd : FuncData} {N ps : List Str} {k : Nat} {sp : DSp} (F : aB K x qual st f fd) (S : aC N ps (au st)) (len : ∀ ds Q E, sp ds Q E -> ds.length = ps.length)
  (hbody : ∀ (cdv : Value) (A : Around) (outer : List Env) (s : Shared) (H : Hp) (E : XK), bX k (A.deeper (envOfC qual (au st) s.heap.objs.size f cdv)) →
   ∃ t, cT (cW (CX1 P w) P w K mg base N qual (au st) f cdv A outer s H E).nox (cu st) t /\ ∀ ds Q Ed, sp ds Q Ed -> t { nx := fun _ => Q .non, rt := Q } (aF N ds)) : aS P w K mg base (CX1 P w) (k + 1) f fd ps (aT K sp) :=
 aB.okX F S len fun cdv A outer s H E Ed hr _ _ _ => by
  obtain ⟨t, ht, k⟩ := hbody cdv A outer s H E hr
  exact ⟨t, ht.nox, fun ds Q h => k ds Q Ed h⟩
theorem uC{x qual:Str}{st:Stmt}{f:Addr}{oc:Value}{od an:Option Addr}{osl:Array (Option Value)}{dV kV doc pm cdv ct:Value}(l:K.lookup f=some ⟨oc,od,.func (PySem.W.fnOf x qual (eB st) (cu st) (au st) dV kV doc pm an cdv ct),osl⟩)
  (c:PySem.W.codeIn K cdv qual=true) (k:PySem.W.keepIn K (.ref f)=true):aB K x qual st f (PySem.W.fnOf x qual (eB st) (cu st) (au st) dV kV doc pm an cdv ct):=⟨⟨oc,od,dV,kV,doc,pm,an,cdv,ct,osl,rfl,l,c⟩,k⟩
end
end PD
namespace PD
open PySem PySem.Spec PyProof.Rows L2
def Has(P:Program)(w:World)(K:PySem.W.Frag)(mg:Str->Option Value)(base:Heap)(x:Str)(k:Nat)(ps:List Str)(sp:DSp):Prop :=
 ∃ f fd,aS P w K mg base (CX1 P w) k f fd ps (aT K sp)/\mg x=some (.ref f)/\PySem.W.keepIn K (.ref f)=true/\Binds K fd ps []
section
variable{X:Cx}{k:Nat}{ps:List Str}{sp:DSp}{x:Str}{p pos:Pos}{e:Expr}{es:List Expr}{t:DA}
theorem aw (h:Has X.prog X.w X.K X.mg X.base x k ps sp) (hr:bX k X.A) (ha:PAD X (e::es) t) (hg:Gl X x:=by rfl) (hdb:(x==("__debug__" : Str))=false:=by decide)
  (he:starEach (e::es) X.env=(false,eval e X.env)::starEach es X.env:=by rfl) (hpl:(backTo pos (starEach es X.env)).any (·.1)=false:=by rfl):PED X (.Call (.Name x p) (e::es) [] pos) (qQ sp [] t):=by
 obtain⟨f,fd,F,hm,hk,hb⟩:=h
 exact zf (dds:=[]) (dsv:=[]) F hr hg hm hk hb .nil (by simp) AJ ha hdb he hpl
end
def sp1(R:D->(D->Prop)->Prop):DSp:=fun ds Q _=>∃a,ds=[a]/\R a Q
def oC:DSp:=fun ds Q _=>∃ns:List Int,ds=[.lst false (ns.map .int)]/\ns.length<=63/\Q (.bl true)
theorem qa{K:PySem.W.Frag}{P:Bool->Addr->Prop}{H:Hp}:∀ns:List Int,af K P H (ns.map D.int) (ns.map V.int)
 |[]=>af.nil
 |n::r=>af.cons (Den.int n) (qa r)
theorem Df{K:PySem.W.Frag}{H:Hp}{a:Addr}{ns:List Int}(hl:ns.length<=63)(hS:SqL K H a (ns.map V.int))(hT:fD K H):aT K oC [.ref a] H (fun v _=>v=.bl true) fun _ _ _=>False :=
 ⟨fun _=>False,[.lst false (ns.map D.int)],fun d=>d=.bl true,fun _=>False,hT,fun _ z=>z.elim,af.one (Den.lst (fun z=>z.elim (fun z=>by cases z) id) (.any hS) (qa ns)),⟨ns,rfl,hl,rfl⟩,fun d v H' _ hd e=>by subst e;exact hd.bl_,fun _ _ _ _ z=>z.elim⟩
theorem walk {l : PySem.W.OpenLaw} {q : Program} {loose : List Str} {XP : (Str -> Option Value) -> Heap -> Prop} {YP : World -> Heap -> Prop} {d : DefRec} {K : Params -> PySem.W.Frag} {k : Nat} {x : Str} (hn : l.most = some 63) (hdf : d.params.defaults = []) (hr : bX k callerA)
  (hY : ∀ (w : World) (h : Heap), YP w h -> (K w.params).In h) (hT : ∀ w : World, tabOf (K w.params) = none)
  (F : ∀ (w : World) (mg : Str -> Option Value) (fa : Addr) (h : Heap), (K w.params).In h -> h.Ns mainGlobals mg -> mg d.name = some (.ref fa) →
   ∃ fd : FuncData, (∀ (s : Shared) (u : Value), BindsTo s fd ⟨[u], []⟩ [(x, u)]) /\ ∀ base : Heap, (K w.params).In base -> base.Ns mainGlobals mg -> aS l.prog w (K w.params) mg base (CX1 l.prog w) k fa fd [x] (aT (K w.params) oC)) :
  PySem.W.WalkO q loose XP YP l.row.toRowW d [] (fun f vs => PySem.call f vs) :=
 L2.Cb (n := 63) (k := k) (x := x) (CX := fun w => CX1 l.prog w) (sp := fun w => aT (K w.params) oC) hn (by decide) hdf hr hY F (fun w _ a ns hl hO hS => Df hl hS ⟨fun P ps e => (by rcases hO P with z | ⟨o, xs, z⟩ <;> rw [z] at e <;> cases e), fun P e => (by rw [hT w] at e; cases e)⟩) fun _ _ _ _ _ z => by obtain ⟨_, _, _, _, _, _, _, _, _, _, _, _, _, q⟩ := z; exact q.elim
theorem at0{α:Type}(a:α)(r:List α):atI (a::r) 0=some a:=bA (j:=0) rfl
theorem at1{α:Type}(a b:α)(r:List α):atI (a::b::r) 1=some b:=bA (j:=1) rfl
theorem at2{α:Type}(a b c:α)(r:List α):atI (a::b::c::r) 2=some c:=bA (j:=2) rfl
theorem at3{α:Type}(a b c d:α)(r:List α):atI (a::b::c::d::r) 3=some d:=bA (j:=3) rfl
theorem tB(ds:List D)(i:Int)(Q:D->Prop):tw (.tup ds) (.int i) Q=∃d,atI ds i=some d/\Q d:=by
 apply propext
 constructor
 ·rintro⟨ds',i',d,e1,e2,h,q⟩
  rcases e1 with e1|⟨_,e1⟩
  ·cases e1;cases e2;exact⟨d,h,q⟩
  ·cases e1
 ·rintro⟨d,h,q⟩
  exact⟨ds,i,d,.inl rfl,rfl,h,q⟩
theorem kj(t:Bool)(ds:List D)(i:Int)(Q:D->Prop):tw (.lst t ds) (.int i) Q=∃d,atI ds i=some d/\Q d:=by
 apply propext
 constructor
 ·rintro⟨ds',i',d,e1,e2,h,q⟩
  rcases e1 with e1|⟨_,e1⟩
  ·cases e1
  ·cases e1;cases e2;exact⟨d,h,q⟩
 ·rintro⟨d,h,q⟩
  exact⟨ds,i,d,.inr ⟨t,rfl⟩,rfl,h,q⟩
theorem dY(i:Int):aM (.int i)=.int i:=by rw[aM]
theorem tM(b:Bool):aM (.bl b)=.bl b:=by rw[aM]
theorem qH:aM .non=.non:=by rw[aM]
theorem lP(x:Str):aM (.str x)=.str x:=by rw[aM]
theorem cL(ds:List D):aM (.tup ds)=.tup (aX ds):=by rw[aM]
theorem bP(t:Bool)(ds:List D):aM (.lst t ds)=.lst false (aX ds):=by rw[aM]
theorem bN:aX []=[]:=by rw[aX]
theorem bF(d:D)(ds:List D):aX (d::ds)=aM d::aX ds:=by rw[aX]
theorem da{α:Type}(f:α->D)(h:∀x,aM (f x)=f x):∀xs:List α,aX (xs.map f)=xs.map f
 |[]=>by rw[zBZ,aX]
 |x::r=>by rw[zAK,aX,h,da f h r]
theorem gL(ns:List Int):aX (ns.map D.int)=ns.map D.int:=da _ dY ns
theorem pG(C:Int->Int->Prop)(g:Int->Int->D)(i j:Int)(Q:D->Prop):rdI C g (.int i) (.int j) Q=(C i j/\Q (g i j)):=by
 apply propext
 constructor
 ·rintro⟨i',j',e1,e2,h,q⟩
  cases e1;cases e2;exact⟨h,q⟩
 ·rintro⟨h,q⟩
  exact⟨i,j,rfl,rfl,h,q⟩
theorem dS(g:Int->Int->D)(i j:Int)(Q:D->Prop):h8 g (.int i) (.int j) Q=Q (g i j):=by
 apply propext
 constructor
 ·rintro⟨i',j',e1,e2,q⟩
  cases e1;cases e2;exact q
 ·intro q
  exact⟨i,j,rfl,rfl,q⟩
theorem xg(d:D)(r:Ro)(Q:D->Prop):jz 0 (some (.val d)::r) Q=Q d:=by
 apply propext
 constructor
 ·rintro⟨d',e,q⟩
  cases e;exact q
 ·intro q;exact⟨d,rfl,q⟩
theorem xh(n:Nat)(x:Option Sl)(r:Ro)(Q:D->Prop):jz (n+1) (x::r) Q=jz n r Q:=rfl
theorem AL(x y:Option Sl)(r:Ro):List.set (x::r) 0 y=y::r:=rfl
theorem AM(n:Nat)(x y:Option Sl)(r:Ro):List.set (x::r) (n+1) y=x::List.set r n y:=rfl
theorem AA(k:Bool)(R:Bool->Prop):(∃c,(D.bl k)=.bl c/\R c)=R k:=by
 apply propext
 constructor
 ·rintro⟨c,e,q⟩;cases e;exact q
 ·intro q;exact⟨k,rfl,q⟩
theorem xn(k:Int)(R:Int->Prop):(∃c,(D.int k)=.int c/\R c)=R k:=by
 apply propext
 constructor
 ·rintro⟨c,e,q⟩;cases e;exact q
 ·intro q;exact⟨k,rfl,q⟩
theorem uy{α:Type}(k:α)(R:α->Prop):(∃c,some k=some c/\R c)=R k:=by
 apply propext
 constructor
 ·rintro⟨c,e,q⟩;cases e;exact q
 ·intro q;exact⟨k,rfl,q⟩
theorem sz3(a b c:D):([a,b,c]:List D).length<=sizeLine:=by rw[sizeLine_eq];show 3<=16777216;decide
theorem sz2(a b:D):([a,b]:List D).length<=sizeLine:=by rw[sizeLine_eq];show 2<=16777216;decide
theorem sz1(a:D):([a]:List D).length<=sizeLine:=by rw[sizeLine_eq];show 1<=16777216;decide
theorem sz4(a b c d:D):([a,b,c,d]:List D).length<=sizeLine:=by rw[sizeLine_eq];show 4<=16777216;decide
theorem uK(t:Bool)(xs:List D)(R:List D->Prop):(∃ys,((∃t',[D.lst t xs]=[.lst t' ys]) ∨ [D.lst t xs]=[.tup ys])/\R ys)=R xs:=by
 apply propext
 constructor
 ·rintro⟨c,e,q⟩
  rcases e with⟨_,e⟩| e
  ·cases e;exact q
  ·cases e
 ·intro q;exact⟨xs,.inl ⟨t,rfl⟩,q⟩
theorem uL(xs:List D)(R:List D->Prop):(∃ys,((∃t',[D.tup xs]=[.lst t' ys]) ∨ [D.tup xs]=[.tup ys])/\R ys)=R xs:=by
 apply propext
 constructor
 ·rintro⟨c,e,q⟩
  rcases e with⟨_,e⟩| e
  ·cases e
  ·cases e;exact q
 ·intro q;exact⟨xs,.inr rfl,q⟩
theorem xT(a b:D)(R:D->D->Prop):(∃d e,[a,b]=[d,e]/\R d e)=R a b:=by
 apply propext
 constructor
 ·rintro⟨_,_,e,q⟩;cases e;exact q
 ·intro q;exact⟨a,b,rfl,q⟩
theorem uH (ds:List D):isT "tuple" (.tup ds)=true:=by
 show(("tuple" : String) == "tuple" || (("tuple" : String) == "bool" && ("tuple" : String) == "int"))=true
 decide
theorem uG (t:Bool) (ds:List D):isT "list" (.lst t ds)=true:=by
 show(("list" : String) == "list" || (("list" : String) == "bool" && ("list" : String) == "int"))=true
 decide
theorem qv (ds:List D):isT "list" (.tup ds)=false:=by
 show(("tuple" : String) == "list" || (("tuple" : String) == "bool" && ("list" : String) == "int"))=false
 decide
theorem uF (i:Int):isT "int" (.int i)=true:=by
 show(("int" : String) == "int" || (("int" : String) == "bool" && ("int" : String) == "int"))=true
 decide
theorem nW (i:Int):isT "bool" (.int i)=false:=by
 show(("int" : String) == "bool" || (("int" : String) == "bool" && ("bool" : String) == "int"))=false
 decide
theorem qr:jh .non=true:=rfl
theorem qu(ds:List D):jh (.tup ds)=false:=rfl
theorem qq(t:Bool)(ds:List D):jh (.lst t ds)=false:=rfl
theorem qp(i:Int):jh (.int i)=false:=rfl
theorem Bz(i:Int):okD (.int i):=by unfold okD;rw[pyD,plD]<;>first|exact⟨rfl,rfl⟩| (intros;contradiction)
theorem BA:okD .non:=by unfold okD;rw[pyD,plD]<;>first|exact⟨rfl,rfl⟩| (intros;contradiction)
theorem si(a b c x y z:Int):eqD (.tup [.int a,.int b,.int c]) (.tup [.int x,.int y,.int z])=(decide (a=x) && (decide (b=y) && decide (c=z))):=by
 unfold eqD
 simp only[pyD,cq,PyData.eqv,PyData.eqvAll,Bool.and_true]
 rfl
abbrev T3(a b c:Int):D:=.tup [.int a,.int b,.int c]
theorem CD.lit{i n:Int}(h:n≠0/\n.natAbs<2 ^ 64:=by decide):CD i n:=⟨h.1,zAW h.2 (zB3 (by decide) (by decide))⟩
theorem uY(a b:Int)(R:Int->Int->Prop):(∃i j:Int,[D.int a,D.int b]=[.int i,.int j]/\R i j)=R a b:=by
 apply propext
 constructor
 ·rintro⟨_,_,e,q⟩;cases e;exact q
 ·intro q;exact⟨a,b,rfl,q⟩
theorem uX(a:Int)(R:Int->Prop):(∃i:Int,[D.int a]=[.int i]/\R i)=R a:=by
 apply propext
 constructor
 ·rintro⟨_,e,q⟩;cases e;exact q
 ·intro q;exact⟨a,rfl,q⟩
theorem yc{lo c:Int}{n j:Nat}{x:D}(h:(gg lo c n)[j]?=some x):j<n/\x=.int (lo+j*c):=by
 by_cases hj:j<n
 ·rw[tD hj]at h
  exact⟨hj,(zAi h).symm⟩
 ·rw[zAs (by rw[m6];omega)]at h
  cases h
theorem BS{lo hi c:Int}{j:Nat}(hc:0<c)(h:j<fJ lo hi c):lo+j*c<hi:=by
 unfold fJ Builtin.Range.rangeSize at h
 rw[if_pos (show c > 0 from hc)]at h
 by_cases hl:lo<hi
 ·rw[if_pos hl]at h
  have h1:(j:Int)<=(hi - lo - 1) / c:=by omega
  have h2:=(Int.le_ediv_iff_mul_le hc).mp h1
  omega
 ·rw[if_neg hl]at h
  simp at h
theorem yL{ns:List Int}{k:Int}(h0:0<=k)(h1:k<ns.length):atI (ns.map D.int) k=some (.int (ns.getD k.toNat 0)):=by
 have e:k=((k.toNat:Nat):Int):=by omega
 have hl:k.toNat<ns.length:=by omega
 have q:atI (ns.map D.int) ((k.toNat:Nat):Int)=some (.int (ns.getD k.toNat 0)):=bA (by simp[zAH,zAB hl,zAG])
 rw[<- e]at q
 exact q
theorem gG{xs ys:List Int}(h:xs.map D.int=ys.map D.int):xs=ys:=by
 induction xs generalizing ys with
 |nil=>cases ys with
  |nil=>rfl
  |cons y r=>simp at h
 |cons x r ih=>cases ys with
  |nil=>simp at h
  |cons y q =>
   simp only[zAK,zAL,D.int.injEq]at h
   rw[h.1,ih h.2]
theorem gdN(n:Nat)(t:DGs)(tg:Bool)(ds:List D)(h:ds.length=n)(ρ:Ro)(Q:Ro->Prop):gF n t (.lst tg ds) ρ Q=t ds ρ Q:=by
 apply propext
 unfold gF
 constructor
 ·rintro⟨ds',e,_,h⟩
  rcases e with e|⟨_,e⟩
  ·cases e
  ·cases e;exact h
 ·intro q;exact⟨ds,.inr ⟨tg,rfl⟩,h,q⟩
theorem o7(n:Nat)(t:DGs)(ds:List D)(h:ds.length=n)(ρ:Ro)(Q:Ro->Prop):gF n t (.tup ds) ρ Q=t ds ρ Q:=by
 apply propext
 unfold gF
 constructor
 ·rintro⟨ds',e,_,h⟩
  rcases e with e|⟨_,e⟩
  ·cases e;exact h
  ·cases e
 ·intro q;exact⟨ds,.inl rfl,h,q⟩
theorem gdc(g:DG)(u:DGs)(x:D)(r:List D)(ρ:Ro)(Q:Ro->Prop):bH g u (x::r) ρ Q=g x ρ fun ρ'=>u r ρ' Q:=by
 apply propext
 unfold bH
 constructor
 ·rintro⟨d,r',e,h⟩;cases e;exact h
 ·intro h;exact⟨x,r,rfl,h⟩
theorem gdn(ρ:Ro)(Q:Ro->Prop):jg [] ρ Q=Q ρ:=by apply propext;unfold jg;simp
theorem gd2(g1 g2:DG)(tg:Bool)(a b:D)(ρ:Ro)(Q:Ro->Prop):gF 2 (bH g1 (bH g2 jg)) (.lst tg [a,b]) ρ Q=g1 a ρ fun ρ1=>g2 b ρ1 Q:=by
 (first|rw[gdN 2 _ _ _ rfl]|rw[gdN 3 _ _ _ rfl]);simp only[gdc,gdn]
theorem CY(g1 g2:DG)(a b:D)(ρ:Ro)(Q:Ro->Prop):gF 2 (bH g1 (bH g2 jg)) (.tup [a,b]) ρ Q=g1 a ρ fun ρ1=>g2 b ρ1 Q:=by
 (first|rw[o7 2 _ _ rfl]|rw[o7 4 _ _ rfl]);simp only[gdc,gdn]
theorem C2(g1 g2 g3 g4:DG)(a b c d:D)(ρ:Ro)(Q:Ro->Prop):gF 4 (bH g1 (bH g2 (bH g3 (bH g4 jg)))) (.tup [a,b,c,d]) ρ Q=g1 a ρ fun ρ1=>g2 b ρ1 fun ρ2=>g3 c ρ2 fun ρ3=>g4 d ρ3 Q:=by
 (first|rw[o7 2 _ _ rfl]|rw[o7 4 _ _ rfl]);simp only[gdc,gdn]
end PD
namespace PD
open PySem PySem.Spec PyProof.Rows L2
section
variable{X:Cx}{pos:Pos}
theorem Rel.putG{W:Own}{H H':Hp}{σ:St}{ρ:Ro}{i:Nat}{p:Addr}{x:OS}{o:HO}(r:Rel X W H σ ρ)(hi:i<σ.length)(sm:ar H H')(hp:H p=none)(hk:X.K.lookup p=none)(h':H' p=some o)(hd:cQ X.K (fun t b=>W.bad t b∨b=p) H' (W.sub σ.length i) x o) :
  Rel X ((W.drop i).put i p) H' (σ.set i (some (.ref p))) (ρ.set i (some (.ob x)))/\Fwd W H ((W.drop i).put i p) H':=by
 have hO:∀j a,((W.drop i).put i p).O j=some a->(j=i/\a=p)∨(j≠i/\W.O j=some a):=fun j a h=>by
  have h1:(if j=i then some p else(if j=i then none else W.O j))=some a:=h
  by_cases e:j=i
  ·rw[if_pos e]at h1;cases h1;exact .inl ⟨e,rfl⟩
  ·rw[if_neg e,if_neg e]at h1;exact .inr ⟨e,h1⟩
 have hOi:((W.drop i).put i p).O i=some p:=by show(if i=i then some p else _)=_;rw[if_pos rfl]
 have hOj:∀j,j≠i->((W.drop i).put i p).O j=W.O j:=fun j n=>by show(if j=i then some p else(if j=i then none else W.O j))=_;rw[if_neg n,if_neg n]
 have hS:∀j k b,W.sub σ.length j k=some b->((W.drop i).put i p).sub σ.length j k=some b:=fun j k b e=>(hOj _ (gY hi)).trans e
 have bad':∀t a,((W.drop i).put i p).bad t a->W.bad t a∨a=p:=fun t a z=>by
  rcases z with z|⟨j,z⟩| z
  ·exact .inl (.inl z)
  ·rcases hO j a z with⟨_,q⟩| ⟨_,q⟩
   ·exact .inr q
   ·exact .inl (.inr (.inl ⟨j,q⟩))
  ·exact .inl (.inr (.inr z))
 have nb:∀{t:Bool} {a:Addr} {ws:List V},SqG X.K H t a ws->a≠p:=fun {t a ws} q z=>by
  subst z
  rcases q.1 with(q|⟨o,q⟩)|⟨o,its,n,q,_⟩
  ·rw[hp]at q;cases q
  ·rw[hp]at q;cases q
  ·rw[hk]at q;cases q
 have up:∀(d:D) (v:V),Den X.K W.bad H d v->Den X.K ((W.drop i).put i p).bad H' d v:=Den.map (fun _ _ q=>SqT.same sm q) (fun t a ws n q=>⟨fun z=>(bad' t a z).elim n (nb q),q.same sm⟩) (fun a _ n q=>sm.kp a _ q n.nt)
 have ups:∀(ds:List D) (vs':List V),af X.K W.bad H ds vs'->af X.K ((W.drop i).put i p).bad H' ds vs':=af.map (fun _ _ q=>SqT.same sm q) (fun t a ws n q=>⟨fun z=>(bad' t a z).elim n (nb q),q.same sm⟩) (fun a _ n q=>sm.kp a _ q n.nt)
 refine⟨⟨fun j d h=>?_,fun j x h=>?_,fun j k a h1 h2=>?_,fun j a h1=>?_,fun j a h1=>?_,fun a h=>let ⟨_,q⟩:=r.bt a h;sm.ex q,fun a h=>let ⟨_,q⟩:=r.st a h;sm.ex q,r.ent.trans sm,r.tab.same sm⟩,rfl,rfl,fun b o _ q n=>sm.kp b o q n,fun j a h=>?_,sm.tb,sm.ok⟩
 ·by_cases hj:j=i
  ·subst hj
   rw[List.getElem?_set]at h
   split at h
   ·split at h<;>cases h
   ·omega
  ·rw[zAN (Ne.symm hj)]at h
   obtain⟨w,h1,h2⟩:=r.val j d h
   exact⟨w,by rw[zAN (Ne.symm hj)];exact h1,up d w h2⟩
 ·by_cases hj:j=i
  ·subst hj
   rw[List.getElem?_set]at h
   split at h
   ·split at h
    ·cases h
     exact⟨p,_,hOi,by simp[hi],h',by rw[zBK];exact hd.fewer (fun t a z=>bad' t a z) (hS _)⟩
    ·cases h
   ·omega
  ·rw[zAN (Ne.symm hj)]at h
   obtain⟨a,ws,h1,h2,h3,h4⟩:=r.own j x h
   exact⟨a,ws,(hOj j hj).trans h1,by rw[zAN (Ne.symm hj)];exact h2,sm.kp _ _ h3 h4.mut.nt,by rw[zBK];exact h4.map ups fun k b q=>⟨hS j k b q,fun _ z=>sm _ _ z⟩⟩
 ·rcases hO j a h1 with⟨e1,q1⟩| ⟨e1,q1⟩<;>rcases hO k a h2 with⟨e2,q2⟩| ⟨e2,q2⟩
  ·rw[e1,e2]
  ·subst q1
   obtain⟨_,_,ws,q,_⟩:=r.kn k _ q2
   rw[hp]at q;cases q
  ·subst q2
   obtain⟨_,_,ws,q,_⟩:=r.kn j _ q1
   rw[hp]at q;cases q
  ·exact r.inj j k a q1 q2
 ·rcases hO j a h1 with⟨e1,q1⟩| ⟨e1,q1⟩
  ·subst q1
   exact⟨hk,⟨fun z=>(by obtain⟨o,q⟩:=r.bt _ z;rw[hp]at q;cases q),fun z=>(by obtain⟨o,q⟩:=r.st _ z;rw[hp]at q;cases q)⟩,_,h',hd.mut⟩
  ·obtain⟨a1,a2,ws,a3,a4⟩:=r.kn j a q1
   exact⟨a1,a2,ws,sm.kp _ _ a3 a4.nt,a4⟩
 ·rcases hO j a h1 with⟨e1,q1⟩| ⟨e1,q1⟩
  ·subst q1;exact r.ent.free hp
  ·exact r.ke j a q1
 ·rcases hO j a h with⟨e1,q1⟩| ⟨e1,q1⟩
  ·subst q1;exact .inr hp
  ·exact .inl ⟨j,q1⟩
theorem Rel.putOwn2{W:Own}{H H':Hp}{σ:St}{ρ:Ro}{i:Nat}{p:Addr}{ds:List D}{vs:List V}(r:Rel X W H σ ρ)(hi:i<σ.length)(sm:ar H H')(hp:H p=none)(hk:X.K.lookup p=none)(h':H' p=some (.lst vs))(hd:af X.K (fun t b=>W.bad t b∨b=p) H' ds vs) :
  Rel X ((W.drop i).put i p) H' (σ.set i (some (.ref p))) (ρ.set i (some (.own ds)))/\Fwd W H ((W.drop i).put i p) H':=r.putG hi sm hp hk h' (.lst hd)
theorem af.apart{K:PySem.W.Frag}{P:Bool->Addr->Prop}{H:Hp}{a:Addr}{o:HO}{ds:List D}{us:List V}(n:H a=none)(k:K.lookup a=none)(h:af K P H ds us)(nt:NT o:=by exact True.intro):af K (fun t b=>P t b∨b=a) (L2.upd H a o) ds us :=
 af.map (fun _ _ q=>SqT.same (ar.upd n nt) q) (fun t b ws p q=>⟨(fun z=>z.elim p fun z=>by
  subst z
  rcases q.1 with(q|⟨o,q⟩)|⟨o,its,m,q,_⟩
  ·rw[n]at q;cases q
  ·rw[n]at q;cases q
  ·rw[k]at q;cases q),q.same (ar.upd n nt)⟩) (fun b _ m q=>(ar.upd n nt).kp b _ q m.nt) ds us h
theorem Rel.mutG{W:Own}{H:Hp}{σ:St}{ρ:Ro}{i:Nat}{a:Addr}{x x':OS}{o o':HO}(r:Rel X W H σ ρ)(eo:ρ[i]?=some (some (.ob x)))(oa:W.O i=some a)(sa:σ[i]?=some (some (.ref a)))(ha:H a=some o)(hm:iS o)(hd:cQ X.K W.bad H (W.sub σ.length i) x' o') :
  Rel X W (L2.upd H a o') σ (ρ.set i (some (.ob x')))/\Fwd W H W (L2.upd H a o'):=by
 have badA:∀t,W.bad t a:=fun _=>.inr (.inl ⟨i,oa⟩)
 have noT:∀b ws,SqT X.K H b ws->SqT X.K (L2.upd H a o') b ws:=fun b ws q=>by
  show L2.upd _ _ _ _=_
  rw[ay (mi q ha (by intro z;subst z;exact hm))]
  exact q
 have noL:∀t b ws,¬W.bad t b->SqG X.K H t b ws->¬W.bad t b/\SqG X.K (L2.upd H a o') t b ws:=fun t b ws n q=>by
  have hne:b≠a:=fun e=>n (e ▸ badA t)
  refine⟨n,?_,fun z=>⟨by rw[ay hne];exact(q.2 z).1,(q.2 z).2⟩⟩
  rcases q.1 with(q|⟨u,q⟩)|q
  ·exact .inl (.inl (by rw[ay hne];exact q))
  ·exact .inl (.inr ⟨u,by rw[ay hne];exact q⟩)
  ·exact .inr q
 have noX:∀b u,Sol u->H b=some u->L2.upd H a o' b=some u:=fun b u n q=>by rw[ay (mi q ha (by intro z;subst z;exact hm.sol n))];exact q
 have hl':i<ρ.length:=(zAE.mp eo).1
 have il:i<σ.length:=(zAE.mp sa).1
 have hSb:∀j k b,W.sub σ.length j k=some b->W.sub σ.length j k=some b/\∀us,H b=some (.lst us)->L2.upd H a o' b=some (.lst us):=fun j k b q=>⟨q,fun us z=>by rw[ay (fun e=>gY il (r.inj _ _ a (by rw[<- e];exact q) oa))];exact z⟩
 have tr:∀b u,H b=some u->∃u',L2.upd H a o' b=some u':=fun b u q=>by
  by_cases hba:b=a
  ·subst hba;exact⟨_,aG⟩
  ·exact⟨u,by rw[ay hba];exact q⟩
 refine⟨⟨fun j d h=>?_,fun j y h=>?_,r.inj,fun j b hb=>?_,r.ke,fun b hb=>let ⟨u,q⟩:=r.bt b hb;tr b u q,fun b hb=>let ⟨u,q⟩:=r.st b hb;tr b u q,r.ent.ins (r.ke i a oa) ha hm hd.mut.nt,r.tab.upd hd.mut.nt (.inr ⟨o,ha,hm.ne,hm.nt⟩)⟩,Fwd.upd oa ha hm hd.mut.nt⟩
 ·by_cases hj:j=i
  ·subst hj
   rw[zAV hl']at h;cases h
  ·rw[zAN (Ne.symm hj)]at h
   obtain⟨w,h1,h2⟩:=r.val j d h
   exact⟨w,h1,Den.map noT noL noX d w h2⟩
 ·by_cases hj:j=i
  ·subst hj
   rw[zAV hl']at h
   cases h
   exact⟨a,o',oa,sa,aG,hd.map (af.map noT noL noX) (hSb _)⟩
  ·rw[zAN (Ne.symm hj)]at h
   obtain⟨b,ws,h1,h2,h3,h4⟩:=r.own j y h
   have hne:b≠a:=fun e=>hj (r.inj j i a (by rw[<- e];exact h1) oa)
   exact⟨b,ws,h1,h2,by rw[ay hne];exact h3,h4.map (af.map noT noL noX) (hSb _)⟩
 ·obtain⟨k1,k2,ws,k3,k4⟩:=r.kn j b hb
  refine⟨k1,k2,?_⟩
  by_cases hba:b=a
  ·subst hba;exact⟨_,aG,hd.mut⟩
  ·exact⟨ws,by rw[ay hba];exact k3,k4⟩
theorem Rel.mut{W:Own}{H:Hp}{σ:St}{ρ:Ro}{i:Nat}{a:Addr}{ds ds':List D}{vs vs':List V}(r:Rel X W H σ ρ)(eo:ρ[i]?=some (some (.own ds)))(oa:W.O i=some a)(sa:σ[i]?=some (some (.ref a)))(ha:H a=some (.lst vs))(hd:af X.K W.bad H ds' vs') :
  Rel X W (L2.upd H a (.lst vs')) σ (ρ.set i (some (.own ds')))/\Fwd W H W (L2.upd H a (.lst vs')):=r.mutG eo oa sa ha True.intro (.lst hd)
variable{es:List Expr}{t:DA}
def y3(i:Nat)(t:DA):DS:=fun E ρ=>t ρ fun ds=>ds.length<=sizeLine/\E.nx (ρ.set i (some (.own ds)))
theorem jL{x:Str}{pos' lpos:Pos}(i:Nat)(hN:X.N.Nodup)(h:PAD X es t)(hi:X.N[i]?=some x:=by rfl)(hx:Loc X.env.scope x:=by first|exact Or.inl rfl|exact Or.inr rfl)
  (hs:swapsWith (.List es lpos) (some (.Name x pos')) pos.line X.env=pure false:=by rfl) (hf:X.fn x=true∨X.env.scope.names.lookup x=some .local:=by first|exact .inl rfl|exact .inr rfl|assumption) :
  PSD X (.Assign [.Name x pos'] (.List es lpos) pos) (y3 i t):=by
 intro pins s σ H W ρ E I r hq
 refine wpAny_Assign_Name (wpAny_List_spliced (thn (h lpos pins s σ H W ρ _ I r hq) fun us s1 ⟨vs,H1,ds,I1,rv,e1,hd,z,q⟩=>?_)) hs
 rw[<- hd.len]at z
 refine⟨by rw[<- rv.length];exact z,?_⟩
 have hf1:H1 s1.heap.objs.size=none:=I1.hok.fresh (zAM _)
 have I2:=I1.laid (o:=.lst vs) (t':=s1.toks) (fun b u e=>zAF _ e) (zAM _) ⟨z,us,0,rv,zAU _ rfl⟩
 have rp:=(r.same e1).putOwn2 (Inv.ilt I1 hi) (ar.upd (o:=.lst vs) hf1) hf1 (Inv.kfresh I1) aG (af.apart hf1 (Inv.kfresh I1) hd)
 exact gD (v:=.ref s1.heap.objs.size) I2 hN hi hx rfl (fun s2 I3=>⟨_,_,_,I3,(Fwd.same e1).trans rp.2,_,rp.1,q⟩) hf
def oR(i:Nat)(te:DE):DS:=fun E ρ=>∃ds,ρ[i]?=some (some (.own ds))/\te ρ fun d=>ds.length<sizeLine/\E.nx (ρ.set i (some (.own (ds++[d]))))
theorem fv{x:Str}{e:Expr}{te:DE}{px apos cpos:Pos}(i:Nat)(he:PED X e te)(hi:X.N[i]?=some x:=by rfl)(hv:Vis X.env.scope x:=by first|exact Or.inl rfl|exact Or.inr (Or.inl rfl)|exact Or.inr (Or.inr rfl))
  (hd:(x==("__debug__" : Str))=false:=by decide) (hcd:(x==("__classdict__" : Str))=false:=by decide)
  (hbase:attributeBase (.Name x px) "append" X.env (eval (.Name x px) X.env)=eval (.Name x px) X.env:=by rfl)
  (hfew:((backTo cpos (starEach [e] X.env)).all (fun x=>!x.1) && (backToKw cpos (keywordEach [] X.env)).all (fun x=>x.1.isSome) && decide ([e].length+([]:List Keyword).length+(if([]:List Keyword).isEmpty then 0 else 1)<30))=true:=by rfl)
  (hline:(apos.endLine==cpos.line)=true:=by rfl) (hst:starEach [e] X.env=(false,eval e X.env)::starEach [] X.env:=by rfl) (hplain:(backTo cpos (starEach [] X.env)).any (·.1)=false:=by rfl)
  (hs:swapsWith (.Call (.Attribute (.Name x px) "append" apos) [e] [] cpos) none pos.line X.env=pure false:=by rfl) :
  PSD X (.Expr (.Call (.Attribute (.Name x px) "append" apos) [e] [] cpos) pos) (oR i te):=by
 have P0:=iQ (pos:=pos) (og PySem.F.plainAttrs_list PySem.F.slot_list_append PySem.F.type_list_append fy (gQ hi hv hd hcd) (fz he.pe i6 hst) hbase hfew hline hst hplain) hs
 refine PSD.of P0 fun σ H W ρ E r hl h=>?_
 obtain⟨ds,eo,h⟩:=h
 obtain⟨a,vs,oa,sa,ha,hds⟩:=r.ownL i ds eo
 refine⟨.ref a,sa,.inl ⟨rfl,_,SqL.of ha⟩,W,ρ,_,r,h,fun v H' d e1 hd' q=>?_⟩
 obtain⟨z,q⟩:=q
 have ha':=e1 _ _ ha
 have r':=r.same e1
 have hds':=hds.same e1
 refine⟨a,vs,v,rfl,rfl,ha',by rw[hds'.len];exact z,?_⟩
 obtain⟨r2,f2⟩:=r'.mut (vs':=vs++[v]) eo oa sa ha' (hds'.append (af.one hd'))
 exact⟨W,_,(Fwd.same e1).trans f2,r2,q⟩
theorem Rel.freeze{X:Cx}{W:Own}{H:Hp}{σ:St}{ρ:Ro}{i:Nat}{ds:List D}(r:Rel X W H σ ρ)(e:ρ[i]?=some (some (.own ds))):Rel X (W.drop i) H σ (ρ.set i (some (.val (.lst true ds)))):=by
 obtain⟨a,vs,oa,sa,ha,hds⟩:=r.ownL i ds e
 have il:i<σ.length:=(zAE.mp sa).1
 have hl':i<ρ.length:=(zAE.mp e).1
 have nb:¬(W.drop i).bad true a:=fun z=>by
  rcases z with z|⟨j,z⟩| ⟨_,z⟩
  rotate_right
  ·exact(r.kn i a oa).2.1.2 z
  ·exact(r.kn i a oa).2.1.1 z
  ·have z':(if j=i then none else W.O j)=some a:=z
   by_cases ej:j=i
   ·rw[if_pos ej]at z';cases z'
   ·rw[if_neg ej]at z';exact ej (r.inj j i a z' oa)
 have hd:Den X.K (W.drop i).bad H (.lst true ds) (.ref a):=Den.lst nb (.new ha (r.kn i a oa).1) (hds.fewer fun _ _=>Own.drop_bad)
 refine⟨fun j x h=>?_,fun j x h=>?_,fun j k b h1 h2=>?_,fun j b h1=>?_,fun j b h1=>?_,r.bt,r.st,r.ent,r.tab⟩
 ·by_cases hj:j=i
  ·subst hj
   rw[zAV hl']at h
   cases h
   exact⟨.ref a,sa,hd⟩
  ·rw[zAN (Ne.symm hj)]at h
   obtain⟨w,h1,h2⟩:=r.val j x h
   exact⟨w,h1,h2.fewer fun _ _=>Own.drop_bad⟩
 ·by_cases hj:j=i
  ·subst hj
   rw[zAV hl']at h;cases h
  ·rw[zAN (Ne.symm hj)]at h
   obtain⟨b,ws,h1,h2,h3,h4⟩:=r.own j x h
   exact⟨b,ws,by show(if j=i then none else W.O j)=_;rw[if_neg hj];exact h1,h2,h3,h4.fewer (fun _ _=>Own.drop_bad) (Own.drop_sub il)⟩
 ·have h1':(if j=i then none else W.O j)=some b:=h1
  have h2':(if k=i then none else W.O k)=some b:=h2
  by_cases e1:j=i
  ·rw[if_pos e1]at h1';cases h1'
  ·by_cases e2:k=i
   ·rw[if_pos e2]at h2';cases h2'
   ·rw[if_neg e1]at h1'
    rw[if_neg e2]at h2'
    exact r.inj j k b h1' h2'
 ·have h1':(if j=i then none else W.O j)=some b:=h1
  by_cases e1:j=i
  ·rw[if_pos e1]at h1';cases h1'
  ·rw[if_neg e1]at h1'
   exact r.kn j b h1'
 ·have h1':(if j=i then none else W.O j)=some b:=h1
  by_cases e1:j=i
  ·rw[if_pos e1]at h1';cases h1'
  ·rw[if_neg e1]at h1'
   exact r.ke j b h1'
def oU(i:Nat)(t:DS):DS:=fun E ρ=>∃ds,ρ[i]?=some (some (.own ds))/\t E (ρ.set i (some (.val (.lst true ds))))
theorem cX{sts:List Stmt}{t:DS}(i:Nat)(h:cT X sts t):cT X sts (oU i t):=by
 intro pins s σ H W ρ E I r hq
 obtain⟨ds,e,hq⟩:=hq
 exact thn (h pins s σ H (W.drop i) _ E I (r.freeze e) hq) fun _ _ z=>z.up (Fwd.drop W H i)
end
def cV(env:Env)(ns:List Str):List (Str×Addr):=ns.filterMap fun n=>(env.cells.lookup n).map fun c=>(n,c)
theorem iX{env:Env}:∀{ns:List Str} {x:Str} {c:Addr},(cV env ns).lookup x=some c->env.cells.lookup x=some c
 |[],_,_,h=>by cases h
 |n::r,x,c,h=>by
  unfold cV at h
  rw[zCM]at h
  cases e:env.cells.lookup n with
  |none =>
   rw[e]at h
   exact iX (ns:=r) h
  |some c' =>
   rw[e]at h
   have h':List.lookup x ((n,c')::cV env r)=some c:=h
   rw[zBP]at h'
   cases q:x==n with
   |true =>
    rw[q]at h'
    have ex:x=n:=by simpa using q
    subst ex
    rw[e]
    exact h'
   |false =>
    rw[q]at h'
    exact iX (ns:=r) h'
theorem mO{env:Env}:∀{ns:List Str} {x:Str} {c:Addr},x∈ns->env.cells.lookup x=some c->(cV env ns).lookup x=some c
 |[],_,_,h,_=>by cases h
 |n::r,x,c,h,e=>by
  unfold cV
  rw[zCM]
  by_cases ex:x=n
  ·subst ex
   rw[e]
   show List.lookup x ((x,c)::_)=some c
   simp[zBP]
  ·have h':x∈r:=by
    rcases zAC.mp h with z|z
    ·exact absurd z ex
    ·exact z
   have ih:=mO (ns:=r) h' e
   cases q:env.cells.lookup n with
   |none=>exact ih
   |some c' =>
    show List.lookup x ((n,c')::cV env r)=some c
    rw[zBP]
    have:(x==n)=false:=by simpa using ex
    rw[this]
    exact ih
structure CSc(osc sc:Scope)(xs ns:List Str):Prop where
 kind:sc.kind=.function
 nocell:∀y∈sc.names,y.2 ≠ .cell
 names:∀y∈sc.names,y.2=.local->sc.names.lookup y.1=some .local
 tgt:∀x∈xs,sc.names.lookup x=some .local
 free:∀y∈sc.names,y.2=.free->y.1∈ns/\osc.names.lookup y.1=some .cell
 cells:∀n∈ns,sc.names.lookup n=some .free/\osc.names.lookup n=some .cell
 nd:(xs++ns).Nodup
def aN(X:Cx)(sc:Scope)(ns xs:List Str)(C:Addr)(s₂:Shared)(H₂:Hp)(fp:List Addr)(XE:Value->Shared->Prop):Cx :=
 {X with N:=xs++ns,s₀:=s₂,H₀:=H₂,env:=compEnvC sc (cV X.env ns) C X.env,outer:=X.stack,stack:=X.stack,ex:=fp,fn:=fun _=>false,pn:=[],xe:=XE}
theorem jP{env:Env}(hk:env.scope.kind=.function):∀{names:List (Str×NameKind)} {n:Str},names.lookup n=some .free->env.kindOf n=some .cell →
  (names.map fun(n,k)=>if(k==NameKind.free && env.scope.kind==.function && env.kindOf n==some .cell)then(n,NameKind.cell)else(n,k)).lookup n=some .cell
 |[],_,h,_=>by simp at h
 |(m,k)::r,n,h,hc=>by
  have ih:=@jP env hk r n
  show List.lookup n ((if(k==NameKind.free && env.scope.kind==.function && env.kindOf m==some .cell)=true then(m,NameKind.cell)else(m,k))::_)=_
  cases hx:n==m with
  |true =>
   simp only[zBP,hx]at h
   cases h
   have e:n=m:=by simpa using hx
   subst e
   rw[hk,hc]
   simp[zBP]
  |false =>
   simp only[zBP,hx]at h
   by_cases hcc:(k==NameKind.free && env.scope.kind==.function && env.kindOf m==some .cell)=true
   ·rw[if_pos hcc];simp only[zBP,hx];exact ih h hc
   ·rw[if_neg hcc];simp only[zBP,hx];exact ih h hc
theorem jB{env:Env}:∀{names:List (Str×NameKind)} {n:Str} {k:NameKind},
  (names.map fun(n,k)=>if(k==NameKind.free && env.scope.kind==.function && env.kindOf n==some .cell)then(n,NameKind.cell)else(n,k)).lookup n=some k->(k=.cell∨k=.free) →
  (∃y∈names,y.1=n/\y.2=.free)∨∃ y∈names,y.1=n/\y.2=.cell
 |[],_,_,h,_=>by simp at h
 |(m,j)::r,n,k,h,hk=>by
  have h':List.lookup n ((if(j==NameKind.free && env.scope.kind==.function && env.kindOf m==some .cell)=true then(m,NameKind.cell)else(m,j))::(r.map fun(n,k)=>if(k==NameKind.free && env.scope.kind==.function && env.kindOf n==some .cell)then(n,NameKind.cell)else(n,k)))=some k:=h
  have up:((∃y∈r,y.1=n/\y.2=.free)∨∃ y∈r,y.1=n/\y.2=.cell)->((∃y∈(m,j)::r,y.1=n/\y.2=.free)∨∃ y∈(m,j)::r,y.1=n/\y.2=.cell):=fun z=>by
   rcases z with⟨y,hy,q⟩| ⟨y,hy,q⟩
   ·exact .inl ⟨y,zAD _ hy,q⟩
   ·exact .inr ⟨y,zAD _ hy,q⟩
  cases hx:n==m with
  |true =>
   have e:n=m:=by simpa using hx
   subst e
   by_cases hcc:(j==NameKind.free && env.scope.kind==.function && env.kindOf n==some .cell)=true
   ·have:j=.free:=by
     simp only[zBO]at hcc
     exact beq_iff_eq.mp hcc.1.1
    exact .inl ⟨(n,j),zAY,rfl,this⟩
   ·rw[if_neg hcc]at h'
    simp only[zBP,hx]at h'
    cases h'
    rcases hk with hk|hk
    ·exact .inr ⟨(n,j),zAY,rfl,hk⟩
    ·exact .inl ⟨(n,j),zAY,rfl,hk⟩
  |false =>
   by_cases hcc:(j==NameKind.free && env.scope.kind==.function && env.kindOf m==some .cell)=true
   ·rw[if_pos hcc]at h';simp only[zBP,hx]at h'
    exact up (jB h' hk)
   ·rw[if_neg hcc]at h';simp only[zBP,hx]at h'
    exact up (jB h' hk)
end PD
namespace PD
open PySem PySem.Spec PyProof.Rows L2
def bg(ρ:Ro)(j:Nat):Option Sl:=match ρ[j]? with
 |some (some (.val d))=>some (.val d)
 |_=>none
def fb(σ:St)(j:Nat):Option V:=match σ[j]? with
 |some (some v)=>some v
 |_=>none
section
variable{X:Cx}{pins:List (Addr×Obj)}{σ:St}{H:Hp}{s:Shared}{sc:Scope}{ns:List Str}{js:List Nat}{xs:List Str}{fp:List Addr}
theorem Inv.comp{XE:Value->Shared->Prop}{s₁:Shared}{H₁:Hp}{C:Addr}(I:Inv X pins σ H s)(S:CSc X.env.scope sc xs ns)(hj:js.length=ns.length/\∀(i:Nat) (j:Nat) (n:Str),js[i]?=some j->ns[i]?=some n->X.N[j]?=some n)(hfp:∀b∈fp,dI X pins H b)(hfo:∀b∈fp,∃o,s.heap.get? b=some o)(hC:s.heap.objs.size<=C)
  (hos:s₁.os=s.os) (hg:AllBare s₁.gens) (hk:∀b o,s.heap.get? b=some o->s₁.heap.get? b=some o) (hns:s₁.heap.Ns C fun _=>none) (hCn:H₁ C=none) (hs:ar H H₁) (hnew:∀b o,s.heap.get? b=some o->H b=none->H₁ b=none) (hok:HOk X.prog X.w H₁ s₁.heap) :
  Inv (aN X sc ns xs C s H fp XE) [] (List.replicate xs.length none++js.map (fb σ)) H₁ s₁:=by
 have kd:X.env.scope.kind=.function:=I.ok.kind
 have cab:∀y c,(cV X.env ns).lookup y=some c->X.env.cells.lookup y=some c:=fun y c e=>iX e
 have cold:∀y c,(cV X.env ns).lookup y=some c->∃v,s.heap.IsCell c v:=fun y c e=>I.cell y c (cab y c e)
 refine⟨⟨I.ok.mod,S.kind,I.ok.glob,I.ok.blt,hC,fun y z c h1 h2=>I.ok.inj y z c (cab y c h1) (cab z c h2),fun y hy=>?_,fun y c h _=>(by cases h),I.ok.hd,I.ok.frames,.inl rfl,fun b hb=>?_,I.bs,zAw I.ok.bsz I.sz,fun b o e hb=>?_,fun b hb z=>?_,I.stack,I.stkFree⟩,
  hos,hg,⟨fun b o e n _ _=>hk b o e,fun b o e n _ _=>⟨o.slots,hk b o e⟩,fun b o e n _=>hnew b o e n,fun b o e _=>⟨o,hk b o e⟩,fun b xs e=>hs b _ e,fun b o u e=>hs b _ e,fun b ps e=>hs.tb b ps e⟩,⟨_,hns,fun i y v h1 h2 h3=>?_⟩,fun y c e=>?_,hCn,fun y c e=>?_,fun p hp=>absurd (show p∈([]:List (Addr×Obj))from hp) (by simp),hok,?_⟩
 ·-- every cell of the block is one of the body's
  have hy':∃k,((relabel sc X.env).names.lookup y=some k)/\(k=.cell∨k=.free):=by
   rcases hy with hy|hy
   ·exact⟨_,hy,.inl rfl⟩
   ·exact⟨_,hy,.inr rfl⟩
  obtain⟨k,h1,h2⟩:=hy'
  rcases jB (env:=X.env) h1 h2 with⟨z,hz,e1,e2⟩| ⟨z,hz,e1,e2⟩
  ·obtain⟨m1,m2⟩:=S.free z hz e2
   subst e1
   obtain⟨c,hc⟩:=I.ok.has z.1 (.inl m2)
   exact⟨c,mO m1 hc⟩
  ·exact absurd e2 (S.nocell z hz)
 ·refine⟨fun z=>?_,fun y c e z=>?_⟩
  ·have z':b=C:=z
   obtain⟨o,ho⟩:=hfo b hb
   have hlt:=zAJ ho
   rw[z']at hlt
   exact absurd (zAW hlt hC) (zBG _)
  ·exact(hfp b hb).2.2.2.2.1 y c (cab y c e) z
 ·obtain⟨f0,f1,f2,f3,f4,f5⟩:=hfp b hb
  rcases f3 with f3|f3
  ·exact I.ok.noex b o e f3
  ·exact absurd (zAW (zAJ (I.ok.bs b o e).1) f3) (zBG _)
 ·obtain⟨f0,f1,f2,f3,f4,f5⟩:=hfp b hb
  rcases zAC.mp (I.stkSub b z)with e|e
  ·exact f1 e
  ·exact f2 e
 ·by_cases hi:i<xs.length
  ·rw[zAq (by simpa using hi),zBW,if_pos hi]at h2
   cases h2
  ·have h1':ns[i - xs.length]?=some y:=by
    have h1:(xs++ns)[i]?=some y:=h1
    rw[zAf (by omega)]at h1
    exact h1
   have h2':(js.map (fb σ))[i - xs.length]?=some (some v):=by
    rw[zAf (by simpa using hi)]at h2
    simpa using h2
   generalize i - xs.length=i at h1' h2'
   rw[zAH]at h2'
   cases e:js[i]? with
   |none=>rw[e]at h2';cases h2'
   |some j =>
    rw[e]at h2'
    have h4:fb σ j=some v:=zAi h2'
    have h5:σ[j]?=some (some v):=by
     unfold fb at h4
     split at h4
     ·rename_i u q
      cases h4
      exact q
     ·cases h4
    have hN:=hj.2 i j y e h1'
    have mem:y∈ns:=zAT h1'
    obtain⟨c1,c2⟩:=S.cells y mem
    obtain⟨m,hm,hl⟩:=I.loc
    obtain⟨u,ru,lk⟩:=hl j y v hN h5 (.inr (.inl c2))
    refine⟨u,ru,?_⟩
    rcases lk with⟨k1,_⟩| ⟨_,c,e1,o,ho,hd⟩
    ·have k1':X.env.scope.names.lookup y=some .local:=k1
     rw[c2]at k1';cases k1'
    ·exact .inr ⟨.inl (jP kd c1 c2),c,mO mem e1,o,hk c o ho,hd⟩
 ·obtain⟨v,z⟩:=cold y c e
  obtain⟨o,ho,hd⟩:=z
  exact⟨v,o,hk c o ho,hd⟩
 ·obtain⟨v,o,ho,hd⟩:=cold y c e
  exact hnew c o ho (I.freeC y c (cab y c e))
 ·show(List.replicate xs.length none++js.map (fb σ)).length=(xs++ns).length
  simp[hj.1]
def TsD(X:Cx)(ifs:List Expr)(t:DT):Prop :=
 ∀ (pins:List (Addr×Obj)) (s:Shared) (σ:St) (H:Hp) (W:Own) (ρ:Ro) (Q:Bool->Prop),Inv X pins σ H s->Rel X W H σ ρ->t ρ Q →
  wpAny (model X.prog X.w) X.A (forIn ifs true fun c r=>if r=true then do let ok←isTrue c X.env (eval c X.env);pure (ForInStep.yield ok)else pure (ForInStep.yield r)) (DTP X pins σ H Q) X.xe s
def kU:DT:=fun _ Q=>Q true
theorem di{X:Cx}:TsD X [] kU:=fun _ s σ H W ρ Q I r h=>wpAny_tests_nil ⟨H,I,ar.refl H,h⟩
theorem yv{X:Cx}{c:Expr}{t:DT}(h:PTD X c t):TsD X [c] t:=fun pins s σ H W ρ Q I r q=>wpAny_tests_one (h pins s σ H W ρ Q I r q)
def jw(n:Nat)(cap ρ:Ro):Prop:=∃r0:Ro,r0.length=n/\ρ=r0++cap
theorem p6 {prog : Program} {w : World} {A : Around} {s : Shared} {R : Result -> Shared -> Prop} {elt target iter : Expr} {ifs : List Expr} {scope : Scope} {pos : Pos} {it acc : Value} {env : Env} (I : Nat -> Shared -> Prop)
  (turn : ∀ n s, I n s -> wpAny (model prog w) A (pyNext it) (fun r s₁ => match r with
   | none => R (.ok .next) s₁
   | some v => wpAny (model prog w) A (letOwnedTupleGo target it v) (fun _ z₁ => wpAny (model prog w) A (assign target env v) (fun _ s₂ =>
     wpAny (model prog w) A (forIn ifs true fun c r => if r = true then do let ok ← isTrue c env (eval c env); pure (ForInStep.yield ok) else pure (ForInStep.yield r)) (fun ok s₃ => if ok = true then wpAny (model prog w) A (eval elt env) (fun x s₄ =>
       wpAny (model prog w) A (call (.builtin "list.append") [acc, x]) (fun _ s₅ => ∃ m, m < n /\ I m s₅) (notedBy (model prog w) A env fun e z => R (.error e) z) s₄) (notedBy (model prog w) A env fun e z => R (.error e) z) s₃
      else ∃ m, m < n /\ I m s₃) (notedBy (model prog w) A env fun e z => R (.error e) z) s₂) (notedBy (model prog w) A env fun e z => R (.error e) z) z₁) (notedBy (model prog w) A env fun e z => R (.error e) z) s₁) (notedBy (model prog w) A env fun e z => R (.error e) z) s)
  (n : Nat) (h : I n s) : codeAny (model prog w) A (.compLoop (.ListComp elt [⟨target, iter, ifs, 0⟩] scope pos) 0 it acc env) R s := by
 refine codeAny_loop rfl I (fun m z hI => ?_) n h
 show wpAny _ A ((compTurn (.ListComp elt [⟨target, iter, ifs, 0⟩] scope pos) 0 it acc env).onRaise (fun e => do noteFrame e env; theTreesLotGoes e)) _ _ z
 refine wpAny_noted ?_
 rw [compTurn_list]
 refine wpAny_bind (wpAny_standAt (wpAny_bind (wpAny_mono (turn m z hI) (fun r z1 g1 => ?_) fun _ _ q => q)))
 cases r with
 | none => exact wpAny_pure g1
 | some v =>
  refine wpAny_bind (wpAny_mono g1 (fun _ z2 g2 => ?_) fun _ _ q => q)
  refine wpAny_bind (wpAny_mono g2 (fun _ z3 g3 => wpAny_bind (wpAny_mono g3 (fun ok z4 g4 => ?_) fun _ _ q => q)) fun _ _ q => q)
  cases ok with
  | false => exact wpAny_pure ⟨rfl, g4⟩
  | true => exact wpAny_bind (wpAny_bind (wpAny_mono g4 (fun y z5 g5 => wpAny_bind (wpAny_mono g5 (fun _ z6 g6 => wpAny_pure (wpAny_pure ⟨rfl, g6⟩)) fun _ _ q => q)) fun _ _ q => q))
theorem Rel.mutB{X:Cx}{W:Own}{H:Hp}{σ:St}{ρ:Ro}{a:Addr}{vs vs':List V}(r:Rel X W H σ ρ)(hB:W.B a)(ha:H a=some (.lst vs))(h0:X.H₀ a=none) :
  Rel X W (L2.upd H a (.lst vs')) σ ρ/\∀ds us,af X.K W.bad H ds us->af X.K W.bad (L2.upd H a (.lst vs')) ds us:=by
 have noT:∀b ws,SqT X.K H b ws->SqT X.K (L2.upd H a (.lst vs')) b ws:=fun b ws q=>by
  show L2.upd _ _ _ _=_
  rw[ay (mi q ha (by intro z;cases z))]
  exact q
 have noL:∀t b ws,¬W.bad t b->SqG X.K H t b ws->¬W.bad t b/\SqG X.K (L2.upd H a (.lst vs')) t b ws:=fun t b ws n q=>by
  have hne:b≠a:=fun e=>n (.inl (e ▸ hB))
  refine⟨n,?_,fun z=>⟨by rw[ay hne];exact(q.2 z).1,(q.2 z).2⟩⟩
  rcases q.1 with(q|⟨o,q⟩)|q
  ·exact .inl (.inl (by rw[ay hne];exact q))
  ·exact .inl (.inr ⟨o,by rw[ay hne];exact q⟩)
  ·exact .inr q
 have noX:∀b u,Sol u->H b=some u->L2.upd H a (.lst vs') b=some u:=fun b u n q=>by rw[ay (mi q ha (by intro z;subst z;exact n))];exact q
 have tr:∀b o,H b=some o->∃o',L2.upd H a (.lst vs') b=some o':=fun b o q=>by
  by_cases hba:b=a
  ·subst hba;exact⟨_,aG⟩
  ·exact⟨o,by rw[ay hba];exact q⟩
 refine⟨⟨fun j d h=>?_,fun j y h=>?_,r.inj,fun j b hb=>?_,r.ke,fun b hb=>let ⟨o,q⟩:=r.bt b hb;tr b o q,fun b hb=>let ⟨o,q⟩:=r.st b hb;tr b o q,r.ent.ins h0 ha True.intro True.intro,r.tab.upd True.intro (.inr ⟨_,ha,(fun _ z=>by cases z),True.intro⟩)⟩,af.map noT noL noX⟩
 ·obtain⟨v,h1,h2⟩:=r.val j d h
  exact⟨v,h1,Den.map noT noL noX d v h2⟩
 ·obtain⟨b,o,h1,h2,h3,h4⟩:=r.own j y h
  exact⟨b,o,h1,h2,by rw[ay (fun e=>(r.kn j b h1).2.1.1 (by rw[e];exact hB))];exact h3,h4.map (af.map noT noL noX) fun k c q=>⟨q,fun us z=>by rw[ay (fun e=>(r.kn _ c q).2.1.1 (by rw[e];exact hB))];exact z⟩⟩
 ·obtain⟨k1,k2,o,k3,k4⟩:=r.kn j b hb
  exact⟨k1,k2,o,by rw[ay (fun e=>k2.1 (by rw[e];exact hB))];exact k3,k4⟩
def bL(X:Cx)(sc:Scope)(ns:List Str)(RR:Value->Addr->Result->Shared->Prop)(D C:Addr):Value->Shared->Prop:=notedBy (model X.prog X.w) X.A (compEnvC sc (cV X.env ns) C X.env) fun e s''=>RR (.ref D) C (.error e) s''
theorem cU.no{X:Cx}:cU X fun _=>False:=fun _ _ _ _ _ _ _ _ _ _ h=>by
 obtain⟨_,_,_,_,_,_,_,_,_,_,_,_,_,z⟩:=h
 exact z.elim
theorem jZ {elt iter tg : Expr} {ifs : List Expr} {pos : Pos} {g : DG} {te : DE} {tc : DT} {W : Own} {ρ : Ro} {J : It} {it : Addr} {tn : Nat -> Heap -> Prop} {ds : List D} {E : Value -> Shared -> Prop} {RR : Value -> Addr -> Result -> Shared -> Prop} (hc : X.calm = true) (S : CSc X.env.scope sc xs ns)
  (hj : js.length = ns.length /\ ∀ (i : Nat) (j : Nat) (n : Str), js[i]? = some j -> ns[i]? = some n -> X.N[j]? = some n)
  {Ed : Value -> Prop} (he : ∀ (C : Addr) (s₂ : Shared) (H₂ : Hp) (fp : List Addr) (XE : Value -> Shared -> Prop), cU (aN X sc ns xs C s₂ H₂ fp XE) Ed -> PED (aN X sc ns xs C s₂ H₂ fp XE) elt te) (ht : ∀ (C : Addr) (s₂ : Shared) (H₂ : Hp) (fp : List Addr) (XE : Value -> Shared -> Prop), cU (aN X sc ns xs C s₂ H₂ fp XE) Ed -> TsD (aN X sc ns xs C s₂ H₂ fp XE) ifs tc)
  (hx : ∀ D C : Addr, cU (aN X sc ns xs C s H fp (bL X sc ns RR D C)) Ed) (I : Inv X pins σ H s) (r : Rel X W H σ ρ) (hg : ∀ (C : Addr) (s₂ : Shared) (H₂ : Hp) (fp : List Addr) (XE : Value -> Shared -> Prop), PGD (aN X sc ns xs C s₂ H₂ fp XE) tg g) (T : Turn X.prog X.w X.K tg J fp it tn) (st : tn 0 s.heap) (hfp : ∀ b ∈ fp, dI X pins H b) (yd : YD X.K W H J ds) (hz : ds.length <= sizeLine)
  (Pv : Nat -> List D -> Prop) (p0 : Pv 0 []) (step : ∀ j d out ρ1, ds[j]? = some d -> Pv j out -> jw xs.length (js.map (bg ρ)) ρ1 -> g d ρ1 fun ρ2 => jw xs.length (js.map (bg ρ)) ρ2 /\ tc ρ2 fun b => if b = true then te ρ2 (fun e => Pv (j + 1) (out ++ [e])) else Pv (j + 1) out)
  (hRR : ∀ (D C : Addr) (s' : Shared) (H' : Hp) (m' : Str -> Option Value) (out : List PD.D), Inv X pins σ H' s' -> ar H H' -> s'.heap.Ns C m' -> H' C = none -> C ≠ X.env.locals -> X.s₀.heap.objs.size <= C -> (∀ y c, X.env.cells.lookup y = some c -> c ≠ C) -> (∀ p ∈ X.pn ++ pins, p.1 ≠ C) →
   (H D = none /\ X.K.lookup D = none /\ ∃ vs, H' D = some (.lst vs) /\ af X.K (fun t b => W.bad t b ∨ b = D) H' out vs) -> Pv ds.length out -> RR (.ref D) C (.ok .next) s') :
  wpAny (model X.prog X.w) X.A (newList []) (fun acc s₃ => wpAny (model X.prog X.w) X.A (newFunctionEnv sc X.env.globals (cV X.env ns) [] X.env.qual none .none (some X.env)) (fun cenv s₄ =>
   codeAny (model X.prog X.w) X.A (.compStart (.ListComp elt [⟨tg, iter, ifs, 0⟩] sc pos) 0 (.ref it) acc { cenv with scope := relabel sc X.env }) (RR acc cenv.locals) s₄) E s₃) E s := by
 refine wpAny_newObj_type (wpAny_newFunctionEnv S.nocell (by intro y hy; simp at hy) (fun h₁ hns₁ hsb₁ => ?_) S.kind)
 dsimp only at hns₁ hsb₁ ⊢
 generalize hH2 : s.heap.push { cls := .type "list", dict := none, data := .seq ([] : List Value).toArray } = HP at hns₁ hsb₁ ⊢
 have hC : HP.objs.size = s.heap.objs.size + 1 := by rw [<- hH2, zB6]
 have hDC : s.heap.objs.size ≠ HP.objs.size := by rw [hC]; exact zAr (zAx _)
 have hCle : s.heap.objs.size <= HP.objs.size := by rw [hC]; exact Nat.le_succ _
 have below : ∀ b, b < s.heap.objs.size -> b ≠ HP.objs.size := fun b hb => by rw [hC]; exact zAr (zBm hb)
 have old : ∀ b o, s.heap.get? b = some o -> h₁.get? b = some o := fun b o e => hsb₁.extBut b o (below b (zAJ e)) (zAF _ (hH2 ▸ zAF _ e))
 have hacc : h₁.get? s.heap.objs.size = some { cls := .type "list", data := .seq ([] : List Value).toArray } := hsb₁.extBut _ _ hDC (zAF _ (hH2 ▸ zAU _ rfl))
 generalize eD : s.heap.objs.size = D at hDC hacc
 generalize eC : HP.objs.size = C at *
 have hDf : H D = none := by rw [<- eD]; exact I.hok.fresh (zAM _)
 have hKD : X.K.lookup D = none := by rw [<- eD]; exact Inv.kfresh I
 have hCf : H C = none := I.hok.fresh hCle
 have hfo : ∀ b ∈ fp, ∃ o, s.heap.get? b = some o := fun b hb => let ⟨o, e, _⟩ := T.obj 0 s.heap st b hb; ⟨o, e⟩
 have leD : s.heap.objs.size <= D := Nat.le_of_eq eD
 have okk : HOk X.prog X.w (L2.upd H D (.lst [])) h₁ := I.hok.laid old leD ⟨zAk _, [], 0, .nil, hacc⟩
 have upCD : ∀ o, L2.upd H D o C = none := fun o => by rw [ay (Ne.symm hDC)]; exact hCf
 have I1 : Inv (aN X sc ns xs C s H fp (bL X sc ns RR D C)) [] (List.replicate xs.length none ++ js.map (fb σ)) (L2.upd H D (.lst [])) { s with heap := h₁, toks := s.toks + ([] : List (Str × Value)).length } :=
  Inv.comp I S hj hfp hfo hCle rfl I.bare old hns₁ (upCD _) (ar.upd hDf) (fun b o e n => by rw [ay (fun z => absurd (zAJ e) (by rw [z]; exact zB2.mpr leD))]; exact n) okk
 have nl : ∀ {a : Addr} {ws : List V}, SqL X.K H a ws -> a ≠ D := fun {a ws} q z => by
  subst z
  rcases q with (q | ⟨o, q⟩) | ⟨o, its, n, q, _⟩
  ·rw [hDf] at q; cases q
  ·rw [hDf] at q; cases q
  ·rw [hKD] at q; cases q
 let W' : Own := ⟨fun a => W.bad false a ∨ a = D, fun _ => none, W.S⟩
 have bad' : ∀ t a, W'.bad t a ↔ (W.bad t a ∨ a = D) := fun t a => ⟨fun z => by
  rcases z with (z | z) | ⟨_, q⟩ | ⟨z1, z2⟩
  ·exact .inl (Own.bad_up z)
  ·exact .inr z
  ·cases q
  ·exact .inl (.inr (.inr ⟨z1, z2⟩)), fun z => by
  rcases z with z | z
  ·rcases z with z | z | z
   ·exact .inl (.inl (.inl z))
   ·exact .inl (.inl (.inr (.inl z)))
   ·exact .inr (.inr z)
  ·exact .inl (.inr z)⟩
 have hT : ∀ {H' : Hp}, ar H H' -> ∀ a vs, SqT X.K H a vs -> SqT X.K H' a vs := fun sm a vs q => SqT.same sm q
 have hL : ∀ {H' : Hp}, ar H H' -> ∀ t a vs, ¬ W.bad t a -> SqG X.K H t a vs -> ¬ W'.bad t a /\ SqG X.K H' t a vs := fun sm t a vs n q => ⟨fun z => ((bad' t a).mp z).elim n (nl q.1), q.same sm⟩
 have relC : Rel (aN X sc ns xs C s H fp (bL X sc ns RR D C)) W' (L2.upd H D (.lst [])) (List.replicate xs.length none ++ js.map (fb σ)) (List.replicate xs.length none ++ js.map (bg ρ)) := by
  have sm : ar H (L2.upd H D (.lst [])) := ar.upd hDf
  have at_ : ∀ {i : Nat} {z : Sl}, (List.replicate xs.length none ++ js.map (bg ρ))[i]? = some (some z) -> ¬ i < xs.length /\ (js.map (bg ρ))[i - xs.length]? = some (some z) := fun {i z} h => by
   by_cases hi : i < xs.length
   ·rw [zAq (by simpa using hi), zBW, if_pos hi] at h
    cases h
   ·rw [zAf (by simpa using hi)] at h
    exact ⟨hi, by simpa using h⟩
  refine ⟨fun i d h => ?_, fun i x h => ?_, fun i j a h _ => (by cases h), fun i a h => (by cases h), fun i a h => (by cases h), fun a h => ?_, fun a h => ?_, sm, r.tab.same sm⟩
  ·obtain ⟨hi, h'⟩ := at_ h
   rw [zAH] at h'
   cases e : js[i - xs.length]? with
   | none => rw [e] at h'; cases h'
   | some j =>
    rw [e] at h'
    have h4 : bg ρ j = some (.val d) := zAi h'
    have h5 : ρ[j]? = some (some (.val d)) := by
     unfold bg at h4
     split at h4
     ·rename_i u q
      cases h4
      exact q
     ·cases h4
    obtain ⟨v, e1, e2⟩ := r.val j d h5
    refine ⟨v, ?_, Den.map (hT sm) (hL sm) (fun a _ n q => sm.kp a _ q n.nt) d v e2⟩
    rw [zAf (by simpa using hi)]
    show (js.map (fb σ))[i - (List.replicate xs.length (none : Option V)).length]? = some (some v)
    rw [List.length_replicate, zAH, e]
    show some (fb σ j) = some (some v)
    unfold fb
    rw [e1]
  ·obtain ⟨hi, h'⟩ := at_ h
   rw [zAH] at h'
   cases e : js[i - xs.length]? with
   | none => rw [e] at h'; cases h'
   | some j =>
    rw [e] at h'
    have h4 : bg ρ j = some (.ob x) := zAi h'
    unfold bg at h4
    split at h4 <;> cases h4
  ·rcases h with h | h
   ·obtain ⟨o, q⟩ := r.tracked false a h
    exact sm.ex q
   ·rw [h]; exact ⟨_, aG⟩
  ·obtain ⟨o, q⟩ := r.st a h
   exact sm.ex q
 have statC : ∀ {H' : Hp}, (∀ b ∈ fp, H' b = none) -> ∀ b ∈ fp, dI (aN X sc ns xs C s H fp (bL X sc ns RR D C)) [] H' b := fun hn b hb => by
  obtain ⟨f0, f1, f2, f3, f4, f5⟩ := hfp b hb
  obtain ⟨o, ho⟩ := hfo b hb
  refine ⟨hn b hb, fun z => ?_, fun z => ?_, .inl hb, fun y c e z => f4 y c (iX e) z, fun p hp => absurd (show p ∈ ([] : List (Addr × Obj)) from hp) (by simp)⟩
  ·have z' : b = C := z
   have hlt := zAJ ho
   rw [z'] at hlt
   exact absurd (zAW hlt hCle) (zBG _)
  ·rcases zAC.mp (I.stkSub b z) with e | e
   ·exact f1 e
   ·exact f2 e
 have hch : ∀ b ∈ fp, (b ∈ X.ex ∨ X.s₀.heap.objs.size <= b) /\ b ≠ X.env.locals /\ (∀ x c, X.env.cells.lookup x = some c -> c ≠ b) /\ ∀ p ∈ X.pn ++ pins, p.1 ≠ b := fun b hb => by
  obtain ⟨f0, f1, f2, f3, f4, f5⟩ := hfp b hb
  exact ⟨f3, f1, f4, f5⟩
 have loop : ∀ s₃ : Shared, s₃ = { s with heap := h₁, toks := s.toks + ([] : List (Str × Value)).length } →
   codeAny (model X.prog X.w) X.A (.compLoop (.ListComp elt [⟨tg, iter, ifs, 0⟩] sc pos) 0 (.ref it) (.ref D) (compEnvC sc (cV X.env ns) C X.env)) (RR (.ref D) C) s₃ := by
  rintro s₃ rfl
  refine p6 (fun n s' => ∃ (i : Nat) (W2 : Own) (σ2 : St) (ρ2 : Ro) (H' : Hp) (out : List PD.D) (vs : List V), n = ds.length - i /\ i <= ds.length /\ Inv (aN X sc ns xs C s H fp (bL X sc ns RR D C)) [] σ2 H' s' /\ tn i s'.heap /\ (∀ b ∈ fp, H' b = none) ∧
   H' D = some (.lst vs) /\ (W2.B = W'.B /\ W2.S = W'.S) /\ af X.K W2.bad H' out vs /\ ar H H' /\ Rel (aN X sc ns xs C s H fp (bL X sc ns RR D C)) W2 H' σ2 ρ2 /\ jw xs.length (js.map (bg ρ)) ρ2 /\ Pv i out /\ out.length <= i) ?_ ds.length
   ⟨0, W', _, _, _, [], [], by simp, zAk _, I1, T.keep 0 s.heap h₁ st (fun b hb o e => old b o e), fun b hb => ?_, aG, ⟨rfl, rfl⟩, af.nil, ar.upd hDf, relC, ⟨_, by simp, rfl⟩, p0, zAM _⟩
  rotate_left
  ·obtain ⟨o, ho⟩ := hfo b hb
   rw [ay (fun z => absurd (zAJ ho) (by rw [z]; exact zB2.mpr leD))]
   exact (hfp b hb).1
  rintro n s3 ⟨i, W2, σ2, ρ2, H3, out, vs, en, hle, I3, st3, fr3, hD3, hW2, hds3, sm3, rl3, cap3, p3, ol⟩
  have nb2 : ∀ {W3 : Own} {H' : Hp} {σ3 : St} {ρ3 : Ro}, (W3.B = W'.B /\ W3.S = W'.S) -> Rel (aN X sc ns xs C s H fp (bL X sc ns RR D C)) W3 H' σ3 ρ3 -> ar H H' -> ∀ t a vs, ¬ W.bad t a -> SqG X.K H t a vs -> ¬ W3.bad t a /\ SqG X.K H' t a vs := fun {W3 H' σ3 ρ3} hw rl sm t a vs n q => by
   refine ⟨fun z => ?_, q.same sm⟩
   rcases z with z | ⟨k, z⟩ | ⟨z1, z2⟩
   ·rw [hw.1] at z
    exact (hL sm t a vs n q).1 (.inl z)
   ·have h0 : H a = none := rl.ke k a z
    rcases q.1 with (q1 | ⟨o, q1⟩) | ⟨o, its, m, q1, _⟩
    ·rw [h0] at q1; cases q1
    ·rw [h0] at q1; cases q1
    ·have kk : X.K.lookup a = none := (rl.kn k a z).1
     rw [kk] at q1; cases q1
   ·rw [hw.2] at z2
    exact (hL sm t a vs n q).1 (.inr (.inr ⟨z1, z2⟩))
  obtain ⟨yg, yy, ys⟩ := yd W2.bad H3 (hT sm3) (nb2 hW2 rl3 sm3) (fun a _ n q => sm3.kp a _ q n.nt) i
  by_cases hlt : i < ds.length
  ·refine thn (T.item (aN X sc ns xs C s H fp (bL X sc ns RR D C)) rfl rfl rfl hc i [] s3 _ H3 _ I3 (statC fr3) st3 (yg hlt)) fun rr s4 ⟨u, hr, h4⟩ => ?_
   subst hr
   refine thn h4 fun _ s5 ⟨x5, H5, I5, r5, y5, st5, fr5⟩ => ?_
   obtain ⟨e5, d, hd, hden⟩ := yy x5 H5 y5 hlt
   have I5' := I5.pinned (statC fr5) (T.obj _ _ st5)
   have rl5 := rl3.same e5
   have sm5 : ar H H5 := sm3.trans e5
   refine wpAny_mono (hg C s H fp _ _ s5 σ2 H5 W2 ρ2 d x5 u _ I5' rl5 r5 hden (step i d out ρ2 hd p3 cap3)) (fun _ s6 ⟨W6, σ6, H6, ρ6, I6, f6, rl6, cap6, q6⟩ => ?_) (fun _ _ z => z)
   have hW6 : W6.B = W'.B /\ W6.S = W'.S := ⟨f6.B.trans hW2.1, f6.S.trans hW2.2⟩
   have sm6 : ar H H6 := ⟨fun b o e n => f6.kp b o (fun k z => by have h0 : H b = none := rl5.ke k b z; rw [e] at h0; cases h0) (sm5.kp b o e n) n, (fun b ps e => by obtain ⟨m1, e1⟩ := sm5.tb b ps e; obtain ⟨m2, e2⟩ := f6.tb b _ e1; exact ⟨m1 ++ m2, by rw [e2, zCA]⟩), fun h => f6.ok (sm5.ok h)⟩
   have BD : W'.B D := .inr rfl
   have hD6 : H6 D = some (.lst vs) := f6.keep D _ (fun k z => (rl5.kn k D z).2.1.1 (by rw [hW2.1]; exact BD)) (e5 _ _ hD3)
   have hds6 := af.fwd rl5 rl6 f6 (hds3.same e5)
   have keepT : ∀ {σ7 : St} {H7 : Hp} {s7 : Shared}, Inv (aN X sc ns xs C s H fp (bL X sc ns RR D C)) ([] ++ lx fp s5.heap) σ7 H7 s7 -> tn (i + 1) s7.heap /\ ∀ b ∈ fp, H7 b = none := fun {σ7 H7 s7} I7 => by
    refine ⟨T.keep _ _ _ st5 fun b hb o e => (I7.pin (b, o) (zAR _ (zAR _ (eG hb e)))).1, fun b hb => ?_⟩
    obtain ⟨o, e, _⟩ := T.obj _ _ st5 b hb
    exact (I7.pin (b, o) (zAR _ (zAR _ (eG hb e)))).2.1
   refine wpAny_mono (ht C s H fp _ (hx D C) _ s6 _ H6 W6 _ _ I6 rl6 q6) (fun b s7 ⟨H7, I7, e7, q7⟩ => ?_) (fun _ _ z => z)
   cases b with
   | false =>
    rw [if_neg zAh] at q7
    rw [if_neg zAh]
    obtain ⟨t7, f7⟩ := keepT I7
    exact ⟨ds.length - (i + 1), by omega, i + 1, W6, σ6, ρ6, H7, out, vs, rfl, hlt, I7.unpinned, t7, f7, e7 _ _ hD6, hW6, hds6.same e7, sm6.trans e7, rl6.same e7, cap6, q7, by omega⟩
   | true =>
    rw [if_pos rfl] at q7
    rw [if_pos rfl]
    refine wpAny_mono (he C s H fp _ (hx D C) _ s7 _ H7 W6 _ _ I7 (rl6.same e7) q7) (fun u8 s8 ⟨v8, H8, e8, I8, r8, sm8, hd8, q8⟩ => ?_) (fun _ _ z => z)
    have sm78 := e7.trans sm8
    have hD8 := sm78 _ _ hD6
    have hds8 := hds6.same sm78
    have rl8 := (rl6.same e7).same sm8
    have BD6 : W6.B D := by rw [hW6.1]; exact BD
    refine wpAny_mono (fy (X := aN X sc ns xs C s H fp (bL X sc ns RR D C)) _ s8 _ H8 (.ref D) [v8] (.ref D) [u8] (fun _ H' => H' = L2.upd H8 D (.lst (vs ++ [v8]))) I8 rfl (.cons r8 .nil) ⟨D, vs, v8, rfl, rfl, hD8, by rw [hds8.len]; omega, rfl⟩) (fun _ s9 ⟨v9, H9, I9, _, eH⟩ => ?_) (fun _ _ z => z)
    subst eH
    obtain ⟨t9, f9⟩ := keepT I9
    obtain ⟨rl9, dn9⟩ := rl8.mutB (vs' := vs ++ [v8]) BD6 hD8 hDf
    exact ⟨ds.length - (i + 1), by omega, i + 1, W6, σ6, ρ6, _, out ++ [e8], vs ++ [v8], rfl, hlt, I9.unpinned, t9, f9, aG, hW6, dn9 _ _ (hds8.append (af.one hd8)), (sm6.trans sm78).ins hDf hD8 True.intro True.intro, rl9, cap6, q8, by rw [zAO, zCF]; omega⟩
  ·have e : i = ds.length := by omega
   refine thn (T.done (aN X sc ns xs C s H fp (bL X sc ns RR D C)) rfl rfl rfl hc i [] s3 _ H3 _ I3 (statC fr3) st3 (ys (by omega))) fun rr s4 ⟨hr, I4⟩ => ?_
   subst hr
   subst e
   have Io : Inv X pins σ H3 s4 := I.call' I4.os I4.base I4.hok I4.bare hch
   obtain ⟨m, hm, _⟩ := I4.loc
   exact hRR D C s4 H3 m out Io sm3 hm I4.free (fun z => absurd I.lt (by rw [<- z]; exact zB2.mpr hCle)) (zAw I.sz hCle) (fun y c e z => by
    obtain ⟨v, q⟩ := I.cell y c e
    exact absurd q.lt (by rw [z]; exact zB2.mpr hCle)) (fun p hp z => absurd (zAJ (I.pin p hp).1) (by rw [z]; exact zB2.mpr hCle))
    ⟨hDf, hKD, _, hD3, hds3.fewer fun t a z => (by
     rcases (bad' t a).mpr z with q | ⟨k, q⟩ | q
     ·exact .inl (by rw [hW2.1]; exact q)
     ·cases q
     ·exact .inr (.inr ⟨q.1, by rw [hW2.2]; exact q.2⟩))⟩ p3
 exact codeAny_compStart_list (loop _ rfl) (T.self _ 0 _ _ _ (T.keep 0 s.heap h₁ st (fun b hb o e => old b o e)) (loop _ rfl))
theorem kf{X:Cx}{sc:Scope}{ns:List Str}{x:Str}{px:Pos}{C:Addr}{s₂:Shared}{H₂:Hp}{fp:List Addr}{XE:Value->Shared->Prop}(S:CSc X.env.scope sc [x] ns):PGD (aN X sc ns [x] C s₂ H₂ fp XE) (.Name x px) (jM 0) :=
 have tl:(compEnvC sc (cV X.env ns) C X.env).scope.names.lookup x=some .local:=lookup_relabel_local (S.tgt x (by simp))
 br (X:=aN X sc ns [x] C s₂ H₂ fp XE) 0 S.nd rfl (.inl tl) (.inr tl)
theorem wK{ds:List D}{Pv:Nat->List D->Prop}{tc:DT}{te:DE}{cap:Ro}(step:∀j d out,ds[j]?=some d->Pv j out->tc (some (.val d)::cap) fun b=>if b=true then te (some (.val d)::cap) (fun e=>Pv (j+1) (out++[e]))else Pv (j+1) out) :
  ∀ j d out ρ1,ds[j]?=some d->Pv j out->jw 1 cap ρ1->jM 0 d ρ1 fun ρ2=>jw 1 cap ρ2/\tc ρ2 fun b=>if b=true then te ρ2 (fun e=>Pv (j+1) (out++[e]))else Pv (j+1) out:=by
 rintro j d out ρ1 hd hp ⟨r0,hl,rfl⟩
 match r0,hl with
 |[a],_=>exact⟨⟨[some (.val d)],rfl,rfl⟩,step j d out hd hp⟩
def jd(wi:DA)(js:List Nat)(tc:DT)(te:DE):DE:=fun ρ Q=>wi ρ fun ds=>ds.length<=sizeLine/\∃Pv:Nat->List D->Prop,Pv 0 [] ∧
 (∀j d out,ds[j]?=some d->Pv j out->tc (some (.val d)::js.map (bg ρ)) fun b=>if b=true then te (some (.val d)::js.map (bg ρ)) (fun e=>Pv (j+1) (out++[e]))else Pv (j+1) out)/\∀out,Pv ds.length out->Q (.lst true out)
def bG(N:List Str)(ns:List Str)(js:List Nat):Prop:=js.length=ns.length/\∀(i:Nat) (j:Nat) (n:Str),js[i]?=some j->ns[i]?=some n->N[j]?=some n
theorem bG.nil{N:List Str}:bG N [] []:=⟨rfl,fun i j n h=>by simp at h⟩
theorem bG.cons{N ns:List Str}{js:List Nat}{n:Str}(j:Nat)(h:bG N ns js)(e:N[j]?=some n:=by rfl):bG N (n::ns) (j::js):=⟨by simp[h.1],fun i j' m h1 h2=>by
 cases i with
 |zero=>simp at h1 h2;subst h1 h2;exact e
 |succ i=>exact h.2 i j' m (by simpa using h1) (by simpa using h2)⟩
variable{elt iter:Expr}{ifs:List Expr}{px pos:Pos}{te:DE}{tc:DT}{wi:DA}{x:Str}
theorem eA(hc:X.calm=true)(S:CSc X.env.scope sc [x] ns)(hj:bG X.N ns js)(hi:PID X (.Name x px) iter wi)(ht:∀(C:Addr) (s₂:Shared) (H₂:Hp) (fp:List Addr) (XE:Value->Shared->Prop),TsD (aN X sc ns [x] C s₂ H₂ fp XE) ifs tc)
  (he:∀(C:Addr) (s₂:Shared) (H₂:Hp) (fp:List Addr) (XE:Value->Shared->Prop),PED (aN X sc ns [x] C s₂ H₂ fp XE) elt te) (hclos:closureFor sc X.env=pure (cV X.env ns):=by rfl) (hs:∀x,foldedSetIterable iter X.env x=pure x:=by intro _;rfl) :
  PED X (.ListComp elt [⟨.Name x px,iter,ifs,0⟩] sc pos) (jd wi js tc te):=by
 intro pins s σ H W ρ Q I r h
 rw[eval_ListComp]
 refine wpAny_comprehension_free (use:=none) rfl hs hclos S.kind S.names (thn (hi pins s σ H W ρ _ I r h) fun v s1 h1=>thn h1 fun itv s2 h2=>?_)
 obtain⟨it,fp,tn,J,H2,ds,e,I2,e2,T,st2,f2,yd,hz,Pv,p0,step,fin⟩:=h2
 subst e
 refine jZ (RR:=fun acc C=>compPost (model X.prog X.w) X.A X.xe none (DP X pins σ W H Q) acc C) hc S hj (Ed:=fun _=>False) (fun C s₂ H₂ fp XE _=>he C s₂ H₂ fp XE) (fun C s₂ H₂ fp XE _=>ht C s₂ H₂ fp XE) (fun _ _=>cU.no) I2 (r.same e2) (fun C s₂ H₂ fp XE=>kf S) T st2 f2 yd hz Pv p0 (wK step) ?_
 intro D C s' H' m' out I' sm hns hCn hC1 hC2 hC3 hC4 ⟨hn,hk,vs,hD,hds⟩ pv
 have hden:Den X.K W.bad H' (.lst true out) (.ref D):=Den.lst ((r.same e2).fresh hn) (.new hD hk) (hds.fewer fun _ _ z=>.inl z)
 refine⟨m',hns,fun h' hsb=>?_⟩
 exact⟨.ref D,H',_,I'.turned (t':=s'.toks) (fun b o hb e=>(hsb.2 b hb).trans e) hCn hC1 (.inr hC2) hC3 hC4,rfl,e2.trans sm,hden,fin out pv⟩
theorem j6{y:Str}{py spos:Pos}(i:Nat)(hN:X.N.Nodup)(hc:X.calm=true)(S:CSc X.env.scope sc [x] ns)(hj:bG X.N ns js)(hi:PID X (.Name x px) iter wi)(ht:∀(C:Addr) (s₂:Shared) (H₂:Hp) (fp:List Addr) (XE:Value->Shared->Prop),TsD (aN X sc ns [x] C s₂ H₂ fp XE) ifs tc)
  (he:∀(C:Addr) (s₂:Shared) (H₂:Hp) (fp:List Addr) (XE:Value->Shared->Prop),PED (aN X sc ns [x] C s₂ H₂ fp XE) elt te) (hy:X.N[i]?=some y:=by rfl) (hly:X.env.scope.names.lookup y=some .local:=by rfl) (hclos:closureFor sc X.env=pure (cV X.env ns):=by rfl) (hs:∀x,foldedSetIterable iter X.env x=pure x:=by intro _;rfl)
  (hsw:swapsWith (.ListComp elt [⟨.Name x px,iter,ifs,0⟩] sc pos) (some (.Name y py)) spos.line X.env=pure true:=by rfl) :
  PSD X (.Assign [.Name y py] (.ListComp elt [⟨.Name x px,iter,ifs,0⟩] sc pos) spos) (vP i (jd wi js tc te)):=by
 intro pins s σ H W ρ E I r h
 rw[exec_Assign_Name_used _ _ _ _ hsw]
 refine wpAny_bind (wpAny_standAt (wpAny_bind ?_))
 show wpAny _ X.A (do let _←comprehension (.ListComp elt [⟨.Name x px,iter,ifs,0⟩] sc pos) sc X.env _ (newList []) false (eval iter X.env) (some (assign (.Name y py) X.env))) _ _ s
 refine wpAny_bind (wpAny_mono (wpAny_comprehension_free (use:=some (assign (.Name y py) X.env)) (Q:=fun _ s'=>SPD X pins W H E .next s') rfl hs hclos S.kind S.names
  (thn (hi pins s σ H W ρ _ I r h) fun v s1 h1=>thn h1 fun itv s2 h2=>?_)) (fun _ s' hq=>wpAny_pure (wpAny_pure hq)) fun _ _ e=>e)
 obtain⟨it,fp,tn,J,H2,ds,e,I2,e2,T,st2,f2,yd,hz,Pv,p0,step,fin⟩:=h2
 subst e
 refine jZ (RR:=fun acc C=>compPost (model X.prog X.w) X.A X.xe (some (assign (.Name y py) X.env)) (fun _ s'=>SPD X pins W H E .next s') acc C) hc S hj (Ed:=fun _=>False) (fun C s₂ H₂ fp XE _=>he C s₂ H₂ fp XE) (fun C s₂ H₂ fp XE _=>ht C s₂ H₂ fp XE) (fun _ _=>cU.no) I2 (r.same e2) (fun C s₂ H₂ fp XE=>kf S) T st2 f2 yd hz Pv p0 (wK step) ?_
 intro D C s' H' m' out I' sm hns hCn hC1 hC2 hC3 hC4 ⟨hn,hk,vs,hD,hds⟩ pv
 have hden:Den X.K W.bad H' (.lst true out) (.ref D):=Den.lst ((r.same e2).fresh hn) (.new hD hk) (hds.fewer fun _ _ z=>.inl z)
 have rr:=(r.same e2).same sm
 show wpAny _ X.A (assign (.Name y py) X.env (.ref D)) _ _ _
 refine wpAny_assign_Name (jt (v:=.ref D) I' hN hy (.inl hly) rfl (fun s3 I3 ⟨a,hsb,ha⟩=>?_) (.inr hly))
 have hne:C≠a:=by
  rcases ha with z|z
  ·rw[z];exact hC1
  ·exact fun q=>hC3 y a z q.symm
 refine⟨m',hns.sameBut hsb hne,fun h' hsb'=>?_⟩
 refine⟨W.drop i,_,H',I3.turned (t':=s3.toks) (fun b o hb e=>(hsb'.2 b hb).trans e) hCn hC1 (.inr hC2) hC3 hC4,(Fwd.same (e2.trans sm)).trans (Fwd.drop W H' i),_,rr.put (Inv.ilt I' hy) hden,fin out pv⟩
end
section
variable{X:Cx}{pins:List (Addr×Obj)}{σ:St}{H:Hp}{s:Shared}{sc:Scope}{ns:List Str}{js:List Nat}{xs:List Str}{fp:List Addr}
variable{elt iter:Expr}{ifs:List Expr}{px pos:Pos}{te:DE}{tc:DT}{wi:DA}{x:Str}
end
def Cz(osc sc:Scope)(xs ns:List Str):Bool :=
 decide (sc.kind=.function) && (sc.names.all fun y=>decide (y.2 ≠ .cell)) && (sc.names.all fun y=>decide (y.2=.local->sc.names.lookup y.1=some .local)) && (xs.all fun x=>decide (sc.names.lookup x=some .local)) &&
 (sc.names.all fun y=>decide (y.2=.free->y.1∈ns/\osc.names.lookup y.1=some .cell)) && (ns.all fun n=>decide (sc.names.lookup n=some .free/\osc.names.lookup n=some .cell)) && decide (xs++ns).Nodup
theorem bW{osc sc:Scope}{xs ns:List Str}(h:Cz osc sc xs ns=true):CSc osc sc xs ns:=by
 unfold Cz at h
 simp only[zBO]at h
 obtain⟨⟨⟨⟨⟨⟨h1,h2⟩,h3⟩,h4⟩,h5⟩,h6⟩,h7⟩:=h
 exact⟨of_decide_eq_true h1,fun y hy=>of_decide_eq_true (zCi.mp h2 y hy),fun y hy=>of_decide_eq_true (zCi.mp h3 y hy),fun x hx=>of_decide_eq_true (zCi.mp h4 x hx),fun y hy=>of_decide_eq_true (zCi.mp h5 y hy),fun n hn=>of_decide_eq_true (zCi.mp h6 n hn),of_decide_eq_true h7⟩
end PD
namespace PD
open PySem PySem.Spec PyProof.Rows L2
inductive Nms:List Expr->List Str->Prop where
 |nil:Nms [] []
 |cons {x:Str} {p:Pos} {es:List Expr} {xs:List Str} (h:Nms es xs):Nms (.Name x p::es) (x::xs)
section
variable{X:Cx}{sc:Scope}{ns xs:List Str}{js:List Nat}
variable{elt iter:Expr}{ifs es:List Expr}{kt:Nat}{tp pos:Pos}{te:DE}{tc:DT}{wi:DA}
end
end PD
namespace PD
open PySem PySem.Spec PyProof.Rows L2
theorem xy(k:Bool)(R:Int->Prop)(S:Bool->Prop):((∃i:Int,[D.bl k]=[.int i]/\R i)∨∃ j:Bool,[D.bl k]=[.bl j]/\S j)=S k:=by
 apply propext
 constructor
 ·rintro(⟨_,e,_⟩| ⟨_,e,q⟩)
  ·cases e
  ·cases e;exact q
 ·intro q;exact .inr ⟨k,rfl,q⟩
theorem Dl(b:Bool):okD (.bl b):=by unfold okD;rw[pyD,plD]<;>first|exact⟨rfl,rfl⟩| (intros;contradiction)
theorem sW(i:Int):okD (.int i)=True:=eq_true (Bz i)
theorem uP(b:Bool):okD (.bl b)=True:=eq_true (Dl b)
theorem sZ:okD .non=True:=eq_true BA
theorem iP(i j:Int):eqD (.int i) (.int j)=decide (i=j):=by
 unfold eqD
 rw[pyD,pyD]
 rfl
theorem sd(i j:Bool):eqD (.bl i) (.bl j)=decide (i=j):=by
 unfold eqD
 rw[pyD,pyD]
 cases i<;>cases j<;>rfl
theorem xB(t:Bool)(xs:List D)(R:List D->Prop):(∃t' ds,D.lst t xs=.lst t' ds/\R ds)=R xs:=by
 apply propext
 constructor
 ·rintro⟨_,_,e,q⟩;cases e;exact q
 ·intro q;exact⟨t,xs,rfl,q⟩
theorem uz(ds:List D)(r:Ro)(R:List D->Prop):(∃ds',(some (Sl.own ds)::r)[0]?=some (some (Sl.own ds'))/\R ds')=R ds:=by
 apply propext
 constructor
 ·rintro⟨_,e,q⟩
  have e':some (some (Sl.own ds))=some (some (Sl.own _)):=e
  cases e'
  exact q
 ·intro q;exact⟨ds,rfl,q⟩
theorem uA(n:Nat)(x:Option Sl)(r:Ro)(R:List D->Prop):(∃ds',(x::r)[n+1]?=some (some (Sl.own ds'))/\R ds')=(∃ds',r[n]?=some (some (Sl.own ds'))/\R ds'):=rfl
theorem xr(d:D)(r:Ro):bg (some (.val d)::r) 0=some (.val d):=rfl
theorem xu(r:Ro):bg (none::r) 0=none:=rfl
theorem xt(n:Nat)(x:Option Sl)(r:Ro):bg (x::r) (n+1)=bg r n:=rfl
end PD
namespace PD
open PySem PySem.Spec PyProof.Rows L2
theorem Cp{n:Nat}{x y z l:Int}(h:¬(x=0/\y=0/\z=0))(hx:Bd n x)(hy:Bd n y)(hz:Bd n z):Bd n (PM.dv3 x y z l):=by
 unfold Bd at *
 rw[PM.uv]
 have d1:=zCe.mpr (PM.o5 x y z)
 have d2:=zCe.mpr (PM.sr x y z)
 have d3:=zCe.mpr (PM.su x y z)
 simp only[Int.natAbs_natCast]at d1 d2 d3
 by_cases h1:x=0
 ·by_cases h2:y=0
  ·have h3:z≠0:=fun e=>h ⟨h1,h2,e⟩
   have:=Nat.le_of_dvd (by omega) d3
   omega
  ·have:=Nat.le_of_dvd (by omega) d2
   omega
 ·have:=Nat.le_of_dvd (by omega) d1
  omega
def sg(n:Int):Int:=if 0<n then 1 else if n<0 then -1 else 0
def rk(a0 a1 a2 b0 b1 b2:Int):Int:=if sg (a1*b0 - b1*a0)=0 then sg (a2*b0 - b2*a0)else sg (a1*b0 - b1*a0)
def sw(a0 a1 a2 b0 b1 b2 c0 c1 c2:Int):Int:=a0*(b1*c2 - c1*b2)+b0*(c1*a2 - a1*c2)+c0*(a1*b2 - b1*a2)
structure Pl(n:Nat)(a b c:Int):Prop where
 pos:0<a
 low:PM.g3 a b c=1
 b0:Bd n a
 b1:Bd n b
 b2:Bd n c
theorem iD{d k x y z:Int}(h1:d∣k*x)(h2:d∣k*y)(h3:d∣k*z)(hg:PM.g3 x y z=1):d∣k:=by
 have e1:d∣(Int.gcd (k*x) (k*y):Int):=zCS h1 h2
 rw[zCf]at e1
 have e2:d∣k*(Int.gcd x y:Int):=by
  have:((k.natAbs*Int.gcd x y:Nat):Int)∣k*(Int.gcd x y:Int):=by
   rw[Int.natCast_mul]
   exact zCr (Int.natAbs_dvd.mpr (zBz _)) (zBz _)
  exact zCG e1 this
 have e3:d∣(Int.gcd (k*(Int.gcd x y:Int)) (k*z):Int):=zCS e2 h3
 rw[zCf]at e3
 have e4:Int.gcd (Int.gcd x y:Int) z=1:=hg
 rw[e4,Nat.mul_one]at e3
 exact zCG e3 (Int.natAbs_dvd.mpr (zBz _))
def xY(b x y:Int):D:=T3 (b.fdiv (PM.dv3 b x y b)) (x.fdiv (PM.dv3 b x y b)) (y.fdiv (PM.dv3 b x y b))
structure EY(d:D)(b x y:Int):Prop where
 ex:∃p q r,d=T3 p q r/\Bd 4000 p/\Bd 4000 q/\Bd 4000 r/\0<p/\p*x=b*q/\p*y=b*r/\PM.g3 p q r=1
end PD
namespace PZ
open PySem PySem.Spec PyProof.Rows
def SIt:Bool->Heap->Addr->Addr->Nat->Prop
 |true,h,it,a,i=>h.IsListIter it a i
 |false,h,it,a,i=>h.IsTupleIter it a i
def SSq:Bool->Heap->Addr->Array Value->Prop
 |true,h,a,xs=>h.IsList a xs
 |false,h,a,xs=>h.IsTuple a xs
def gO:Bool->String
 |true => "list_iterator"
 |false => "tuple_iterator"
section
variable{k:Bool}{h h':Heap}{it a b:Addr}{i:Nat}{xs:Array Value}
theorem SIt.of(x:SIt k h it a i)(e:∀o,h.get? it=some o->h'.get? it=some o):SIt k h' it a i:=by
 cases k with
 |true=>obtain⟨o,ho,r⟩:=x;exact⟨o,e o ho,r⟩
 |false=>obtain⟨o,ho,r⟩:=x;exact⟨o,e o ho,r⟩
theorem SSq.of(x:SSq k h a xs)(e:∀o,h.get? a=some o->h'.get? a=some o):SSq k h' a xs:=by
 cases k with
 |true=>obtain⟨o,ho,r⟩:=x;exact⟨o,e o ho,r⟩
 |false=>obtain⟨o,ho,r⟩:=x;exact⟨o,e o ho,r⟩
theorem SIt.obj(x:SIt k h it a i):∃o,h.get? it=some o/\o.cls=.type (gO k)/\o.data=.fields #[.ref a,.int i 0]:=by
 cases k with
 |true=>exact x
 |false=>exact x
end
section
variable{prog:Program}{w:World}{A:Around}{E:Value->Shared->Prop}{s:Shared}{k:Bool}{it a:Addr}{i:Nat}{xs:Array Value}
theorem vZ{x:Value}{Q:Value->Shared->Prop}(hi:SIt k s.heap it a i)(hs:SSq k s.heap a xs)(hx:xs[i]?=some x)(hQ:∀h',SIt k h' it a (i+1)->Heap.SameBut it s.heap h'->Q x {s with heap:=h'}) :
  wpAny (model prog w) A (Builtin.SmallTypes.nextOf (.ref it)) Q E s:=by
 cases k with
 |true=>exact wpAny_nextOf_list_item hi hs hx hQ
 |false =>
  obtain⟨o,ho,hc,hd⟩:=id hi
  obtain⟨oq,hq,_,nq,hdq⟩:=hs
  unfold Builtin.SmallTypes.nextOf
  refine wpAny_bind (wpAny_callSpecial?_slot (name:=Str.ofString "__next__") (zCN hi) F.slot_tuple_iterator_next (wpAny_call_entry F.slot_tuple_iterator_next (zCN hi) F.entry_tuple_iterator_next ?_ (F.args_tuple_iterator_next_1 _)))
  show wpAny _ _ (field (.ref it) 0 >>= _) _ _ s;refine wpAny_bind (wpAny_field ho hd (x:=.ref a) rfl ?_)
  show wpAny _ _ (if(Value.ref a==Value.none)=true then _ else _) _ _ s;rw[if_neg (show¬((Value.ref a==Value.none)=true)from zAh)]
  show wpAny _ _ (field (.ref it) 1 >>= _) _ _ s;refine wpAny_bind (wpAny_field ho hd (x:=.int i 0) rfl ?_)
  show wpAny _ _ (seqItems? (.ref a) >>= _) _ _ s;refine wpAny_bind (wpAny_seqItems hq hdq ?_);simp only[zCb,hx]
  refine wpAny_bind (wpAny_setField ho hd (by simp) (wpAny_pure ⟨x,rfl,wpAny_pure (hQ _ ⟨_,zBi _ ho (Obj.isFreed_of_fields (Obj.data_mapFields hd _)),(Obj.cls_mapFields ..).trans hc,by rw[Obj.data_mapFields hd];simp[rawInt]⟩ (zBc ..))⟩))
theorem AH{Q:Value->Shared->Prop}(hh:A.handled=none)(hi:SIt k s.heap it a i)(hs:SSq k s.heap a xs)(hx:xs[i]?=none)
  (hE:∀h' e,Heap.ExtBut it s.heap h'->(∃o,h'.get? e=some o/\o.cls=.type "StopIteration")->E (.ref e) {s with heap:=h'}):wpAny (model prog w) A (Builtin.SmallTypes.nextOf (.ref it)) Q E s:=by
 cases k with
 |true=>exact wpAny_nextOf_list_end hh hi hs hx hE
 |false =>
  obtain⟨o,ho,hc,hd⟩:=id hi
  obtain⟨oq,hq,_,nq,hdq⟩:=hs
  unfold Builtin.SmallTypes.nextOf
  refine wpAny_bind (wpAny_callSpecial?_slot (name:=Str.ofString "__next__") (zCN hi) F.slot_tuple_iterator_next (wpAny_call_entry F.slot_tuple_iterator_next (zCN hi) F.entry_tuple_iterator_next ?_ (F.args_tuple_iterator_next_1 _)))
  show wpAny _ _ (field (.ref it) 0 >>= _) _ _ s;refine wpAny_bind (wpAny_field ho hd (x:=.ref a) rfl ?_)
  show wpAny _ _ (if(Value.ref a==Value.none)=true then _ else _) _ _ s;rw[if_neg (show¬((Value.ref a==Value.none)=true)from zAh)]
  show wpAny _ _ (field (.ref it) 1 >>= _) _ _ s;refine wpAny_bind (wpAny_field ho hd (x:=.int i 0) rfl ?_)
  show wpAny _ _ (seqItems? (.ref a) >>= _) _ _ s;refine wpAny_bind (wpAny_seqItems hq hdq ?_);simp only[zCb,hx]
  refine wpAny_bind (wpAny_rule (wpAny_bind (wpAny_setField ho hd (by simp) ?_)));show wpAny _ _ (newExc (.type "StopIteration") [] >>= _) _ _ _
  refine wpAny_bind ?_;simp only[newExc,newTuple];refine wpAny_bind (wpAny_newObj_type ?_ (by size_fits))
  refine wpAny_bind (m:=firstArgMember _ _) (wpAny_of_eq (a:=Value.none) (by simp only[firstArgMember];rfl) ?_);refine wpAny_newObj_type ?_ (by size_fits)
  simp only[raiseNew];refine wpAny_bind (wpAny_handled ?_);first|rw[show A.in1.handled=none from hh]|rw[hh]
  exact wpAny_bind (wpAny_pure (wpAny_throw (hE _ _ (((zBc ..).extBut.push _).push _) ⟨_,zAU _ rfl,rfl⟩)))
end
structure Ap(z TI TO i1 i2:Addr):Prop where
 a1:TI≠z
 a2:TO≠z
 a3:i1≠z
 a4:i2≠z
 a5:TI≠TO
 a6:TI≠i1
 a7:TI≠i2
 a8:TO≠i1
 a9:TO≠i2
 b1:i1≠i2
structure Out(z TO i1 i2 l:Addr):Prop where
 c1:l≠z
 c2:l≠TO
 c3:l≠i1
 c4:l≠i2
structure ZSt(k1 k2:Bool)(z TI TO i1 i2 l1 l2:Addr)(i:Nat)(h:Heap):Prop where
 z:IsZip h z TI TO .none
 ti:IsPair h TI (.ref i1) (.ref i2)
 to:∃a b,IsPair h TO a b
 s1:SIt k1 h i1 l1 i
 s2:SIt k2 h i2 l2 i
section
variable{prog:Program}{w:World}{A:Around}{E:Value->Shared->Prop}{s:Shared}{k1 k2:Bool}{z TI TO i1 i2 l1 l2:Addr}{i:Nat}{xs ys:Array Value}
theorem Ey {x y : Value} {Q : Option Value -> Shared -> Prop} (D : Ap z TI TO i1 i2) (D1 : Out z TO i1 i2 l1) (D2 : Out z TO i1 i2 l2) (Z : ZSt k1 k2 z TI TO i1 i2 l1 l2 i s.heap) (q1 : SSq k1 s.heap l1 xs) (q2 : SSq k2 s.heap l2 ys) (hx : xs[i]? = some x) (hy : ys[i]? = some y)
  (hQ : ∀ h', IsZip h' z TI TO (rawInt s.heap.objs.size) -> IsPair h' TI (.ref i1) (.ref i2) -> IsPair h' TO x y -> SIt k1 h' i1 l1 (i + 1) -> SIt k2 h' i2 l2 (i + 1) -> IsPair h' s.heap.objs.size x y →
   (∀ c o, c ≠ z -> c ≠ TO -> c ≠ i1 -> c ≠ i2 -> s.heap.get? c = some o -> h'.get? c = some o) -> Q (some (.ref s.heap.objs.size)) { s with heap := h' }) : wpAny (model prog w) A (pyNext (.ref z)) Q E s := by
 obtain ⟨hz, hTI, ⟨a, b, hTO⟩, h1, h2⟩ := Z
 have hT : s.TypeIs (.ref z) "zip" := ⟨_, hz, rfl⟩
 unfold pyNext
 refine wpAny_bind (wpAny_attempt (wpAny_callSpecial?_slot (name := Str.ofString "__next__") hT F.slot_zip_next (wpAny_call_entry F.slot_zip_next hT F.entry_zip_next ?_ (F.args_zip_next_1 _))))
 show wpAny _ _ (field (.ref z) 2 >>= _) _ _ _; refine wpAny_bind (wpAny_field hz rfl (x := .bool false) rfl ?_)
 show wpAny _ _ (field (.ref z) 3 >>= _) _ _ _; refine wpAny_bind (wpAny_field hz rfl (x := .ref TI) rfl (wpAny_bind (wpAny_seqItems hTI rfl ?_)))
 show wpAny _ _ (Builtin.SmallTypes.ownedTupleIsFree (.ref z) >>= _) _ _ _; refine wpAny_bind ?_; unfold Builtin.SmallTypes.ownedTupleIsFree
 refine wpAny_bind (wpAny_field hz rfl (x := .none) rfl (wpAny_pure ?_)); simp only [if_true]; refine wpAny_bind (wpAny_rule (wpAny_bind (wpAny_field hz rfl (x := .ref TO) rfl ?_)))
 refine wpAny_bind (wpAny_setField_rec hz (by simp) fun g1 (z1 : IsZip g1 z TI TO .ellipsis) b1 => wpAny_bind ?_)
 simp only [List.zipIdx_cons, List.zipIdx_nil, List.forIn_cons, List.forIn_nil]
 have k1' : ∀ c o, c ≠ z -> s.heap.get? c = some o -> g1.get? c = some o := fun c o n e => b1.extBut c o n e
 refine wpAny_bind (wpAny_bind (wpAny_onRaise ?_)); show wpAny _ _ (Builtin.SmallTypes.nextOf (.ref i1) >>= _) _ _ _
 refine wpAny_bind (vZ (s := { s with heap := g1 }) (h1.of fun o e => k1' _ o D.a3 e) (q1.of fun o e => k1' _ o D1.c1 e) hx fun g2 n2 b2 => wpAny_pure ?_)
 have t2 : IsPair g2 TO a b := b2.extBut _ _ D.a8 (k1' _ _ D.a2 hTO)
 refine wpAny_bind (wpAny_seqItems t2 rfl (wpAny_bind (wpAny_updateSeq_pair t2 fun g3 (t3 : IsPair g3 TO x b) b3 => wpAny_bind (wpAny_letGo (wpAny_pure ?_)))))
 have k3 : ∀ c o, c ≠ z -> c ≠ TO -> c ≠ i1 -> s.heap.get? c = some o -> g3.get? c = some o := fun c o n1 n2 n3 e => b3.extBut c o n2 (b2.extBut c o n3 (k1' c o n1 e))
 refine wpAny_bind (wpAny_bind (wpAny_onRaise ?_)); show wpAny _ _ (Builtin.SmallTypes.nextOf (.ref i2) >>= _) _ _ _
 refine wpAny_bind (vZ (s := { s with heap := g3 }) (h2.of fun o e => k3 _ o D.a4 (Ne.symm D.a9) (Ne.symm D.b1) e) (q2.of fun o e => k3 _ o D2.c1 D2.c2 D2.c3 e) hy fun g4 n4 b4 => wpAny_pure ?_)
 have t4 : IsPair g4 TO x b := b4.extBut _ _ D.a9 t3
 refine wpAny_bind (wpAny_seqItems t4 rfl (wpAny_bind (wpAny_updateSeq_pair t4 fun g5 (t5 : IsPair g5 TO x y) b5 => wpAny_bind (wpAny_letGo (wpAny_pure (wpAny_pure ?_))))))
 refine wpAny_bind (wpAny_seqItems t5 rfl (wpAny_bind (wpAny_newTuple ?_)))
 have sz : g5.objs.size = s.heap.objs.size := by rw [b5.1, b4.1, b3.1, b2.1, b1.1]
 have k5 : ∀ c o, c ≠ z -> c ≠ TO -> c ≠ i1 -> c ≠ i2 -> s.heap.get? c = some o -> g5.get? c = some o := fun c o n1 n2 n3 n4 e => b5.extBut c o n2 (b4.extBut c o n4 (k3 c o n1 n2 n3 e))
 have z5 : IsZip g5 z TI TO .ellipsis := b5.extBut _ _ (Ne.symm D.a2) (b4.extBut _ _ (Ne.symm D.a4) (b3.extBut _ _ (Ne.symm D.a2) (b2.extBut _ _ (Ne.symm D.a3) z1)))
 have s15 : SIt k1 g5 i1 l1 (i + 1) := n2.of fun o e => b5.extBut _ o (Ne.symm D.a8) (b4.extBut _ o D.b1 (b3.extBut _ o (Ne.symm D.a8) e))
 have s25 : SIt k2 g5 i2 l2 (i + 1) := n4.of fun o e => b5.extBut _ o (Ne.symm D.a9) e
 have zl : z < g5.objs.size := zAJ z5
 show wpAny _ _ (Builtin.SmallTypes.ownedTupleHandOut (.ref z) (.ref g5.objs.size) >>= _) _ _ _; refine wpAny_bind ?_; unfold Builtin.SmallTypes.ownedTupleHandOut
 have z6 : IsZip (g5.push { cls := .type "tuple", data := .seq #[x, y] }) z TI TO .ellipsis := zAF _ z5
 refine wpAny_bind (wpAny_setField_rec z6 (by simp) fun g7 (z7 : IsZip g7 z TI TO (rawInt g5.objs.size)) b7 => wpAny_setField_rec z7 (by simp) fun g8 (z8 : IsZip g8 z TI TO (rawInt g5.objs.size)) b8 => wpAny_pure ?_)
 have up : ∀ c o, c ≠ z -> g5.get? c = some o -> g8.get? c = some o := fun c o n e => b8.extBut c o n (b7.extBut c o n (zAF _ e))
 have p8 : IsPair g8 g5.objs.size x y := b8.extBut _ _ (zCD zl) (b7.extBut _ _ (zCD zl) (zAU _ rfl))
 refine ⟨_, rfl, ?_⟩
 rw [sz] at z8 p8
 refine wpAny_pure ?_
 show Q (some (.ref g5.objs.size)) _
 rw [sz]
 exact hQ g8 z8 (up _ _ D.a1 (k5 _ _ D.a1 D.a5 D.a6 D.a7 hTI)) (up _ _ D.a2 t5) (s15.of fun o e => up _ o D.a3 e) (s25.of fun o e => up _ o D.a4 e) p8 fun c o n1 n2 n3 n4 e => up c o n1 (k5 c o n1 n2 n3 n4 e)
theorem Ez{Q:Option Value->Shared->Prop}(hh:A.handled=none)(D:Ap z TI TO i1 i2)(D1:Out z TO i1 i2 l1)(D2:Out z TO i1 i2 l2)(Z:ZSt k1 k2 z TI TO i1 i2 l1 l2 i s.heap)(q1:SSq k1 s.heap l1 xs)(q2:SSq k2 s.heap l2 ys)(hend:xs[i]?=none∨ys[i]?=none)
  (hQ:∀h',(∀c o,c≠z->c≠TO->c≠i1->c≠i2->s.heap.get? c=some o->h'.get? c=some o)->Q none {s with heap:=h'}):wpAny (model prog w) A (pyNext (.ref z)) Q E s:=by
 obtain⟨hz,hTI,⟨a,b,hTO⟩,h1,h2⟩:=Z
 have hT:s.TypeIs (.ref z) "zip" := ⟨_,hz,rfl⟩
 unfold pyNext
 refine wpAny_bind (wpAny_attempt (wpAny_callSpecial?_slot (name:=Str.ofString "__next__") hT F.slot_zip_next (wpAny_call_entry F.slot_zip_next hT F.entry_zip_next ?_ (F.args_zip_next_1 _))))
 show wpAny _ _ (field (.ref z) 2 >>= _) _ _ _;refine wpAny_bind (wpAny_field hz rfl (x:=.bool false) rfl ?_)
 show wpAny _ _ (field (.ref z) 3 >>= _) _ _ _;refine wpAny_bind (wpAny_field hz rfl (x:=.ref TI) rfl (wpAny_bind (wpAny_seqItems hTI rfl ?_)))
 show wpAny _ _ (Builtin.SmallTypes.ownedTupleIsFree (.ref z) >>= _) _ _ _;refine wpAny_bind ?_;unfold Builtin.SmallTypes.ownedTupleIsFree
 refine wpAny_bind (wpAny_field hz rfl (x:=.none) rfl (wpAny_pure ?_));simp only[if_true];refine wpAny_bind (wpAny_rule (wpAny_bind (wpAny_field hz rfl (x:=.ref TO) rfl ?_)))
 refine wpAny_bind (wpAny_setField_rec hz (by simp) fun g1 (z1:IsZip g1 z TI TO .ellipsis) b1=>wpAny_bind ?_)
 simp only[List.zipIdx_cons,List.zipIdx_nil,List.forIn_cons,List.forIn_nil]
 have k1':∀c o,c≠z->s.heap.get? c=some o->g1.get? c=some o:=fun c o n e=>b1.extBut c o n e
 refine wpAny_bind (wpAny_bind (wpAny_onRaise ?_));show wpAny _ _ (Builtin.SmallTypes.nextOf (.ref i1) >>= _) _ _ _
 cases hx:xs[i]? with
 |none =>
  refine wpAny_bind (AH (s:={s with heap:=g1}) hh (h1.of fun o e=>k1' _ o D.a3 e) (q1.of fun o e=>k1' _ o D1.c1 e) hx fun g2 e b2 he=>?_)
  obtain⟨oe,ho,hc⟩:=he
  have z2:IsZip g2 z TI TO .ellipsis:=b2 _ _ (Ne.symm D.a3) z1
  have nz:e≠z:=fun q=>by subst q;rw[z2]at ho;cases ho;simp at hc
  refine wpAny_setField_rec z2 (by simp) fun g3 _ b3=>wpAny_bind (wpAny_isInstance (T := "StopIteration") (b:=true) ⟨oe,b3.extBut _ _ nz ho,hc⟩ isSubtype_stop ?_)
  exact wpAny_pure (hQ g3 fun c o n1 _ n3 _ q=>b3.extBut c o n1 (b2 c o n3 (k1' c o n1 q)))
 |some x =>
  have hy:ys[i]?=none:=by
   rcases hend with q|q
   ·rw[hx]at q;cases q
   ·exact q
  refine wpAny_bind (vZ (s:={s with heap:=g1}) (h1.of fun o e=>k1' _ o D.a3 e) (q1.of fun o e=>k1' _ o D1.c1 e) hx fun g2 n2 b2=>wpAny_pure ?_)
  have t2:IsPair g2 TO a b:=b2.extBut _ _ D.a8 (k1' _ _ D.a2 hTO)
  refine wpAny_bind (wpAny_seqItems t2 rfl (wpAny_bind (wpAny_updateSeq_pair t2 fun g3 t3 b3=>wpAny_bind (wpAny_letGo (wpAny_pure ?_)))))
  have k3:∀c o,c≠z->c≠TO->c≠i1->s.heap.get? c=some o->g3.get? c=some o:=fun c o n1 n2 n3 e=>b3.extBut c o n2 (b2.extBut c o n3 (k1' c o n1 e))
  refine wpAny_bind (wpAny_bind (wpAny_onRaise ?_));show wpAny _ _ (Builtin.SmallTypes.nextOf (.ref i2) >>= _) _ _ _
  refine wpAny_bind (AH (s:={s with heap:=g3}) hh (h2.of fun o e=>k3 _ o D.a4 (Ne.symm D.a9) (Ne.symm D.b1) e) (q2.of fun o e=>k3 _ o D2.c1 D2.c2 D2.c3 e) hy fun g4 e b4 he=>?_)
  obtain⟨oe,ho,hc⟩:=he
  have z4:IsZip g4 z TI TO .ellipsis:=b4 _ _ (Ne.symm D.a4) (b3.extBut _ _ (Ne.symm D.a2) (b2.extBut _ _ (Ne.symm D.a3) z1))
  have nz:e≠z:=fun q=>by subst q;rw[z4]at ho;cases ho;simp at hc
  refine wpAny_setField_rec z4 (by simp) fun g5 _ b5=>wpAny_bind (wpAny_isInstance (T := "StopIteration") (b:=true) ⟨oe,b5.extBut _ _ nz ho,hc⟩ isSubtype_stop ?_)
  exact wpAny_pure (hQ g5 fun c o n1 n2 n3 n4 q=>b5.extBut c o n1 (b4 c o n4 (k3 c o n1 n2 n3 q)))
theorem AE{k:Bool}{a:Addr}{Q:Value->Shared->Prop}(q:SSq k s.heap a xs)(hQ:Q (.ref s.heap.objs.size) {s with heap:=s.heap.push {cls:=.type (gO k),data:=.fields #[.ref a,.int 0 0]} }):wpAny (model prog w) A (pyIter (.ref a)) Q E s:=by
 cases k with
 |true=>exact wpAny_pyIter_list q hQ
 |false=>exact wpAny_pyIter_tuple q hQ
end
abbrev zp1(k1:Bool)(h:Heap)(l1:Addr):Heap:=h.push {cls:=.type (gO k1),data:=.fields #[.ref l1,.int 0 0]}
abbrev zp2(k1 k2:Bool)(h:Heap)(l1 l2:Addr):Heap:=(zp1 k1 h l1).push {cls:=.type (gO k2),data:=.fields #[.ref l2,.int 0 0]}
abbrev zp3 (k1 k2:Bool) (h:Heap) (l1 l2:Addr):Heap:=(zp2 k1 k2 h l1 l2).push {cls:=.type "tuple", data:=.seq #[.ref h.objs.size,.ref (zp1 k1 h l1).objs.size]}
abbrev zp4 (k1 k2:Bool) (h:Heap) (l1 l2:Addr):Heap:=(zp3 k1 k2 h l1 l2).push {cls:=.type "tuple", data:=.seq #[.none,.none]}
abbrev zp5 (k1 k2:Bool) (h:Heap) (l1 l2:Addr):Heap:=(zp4 k1 k2 h l1 l2).push {cls:=.type "zip", data:=.fields #[.none,.bool false,.bool false,.ref (zp2 k1 k2 h l1 l2).objs.size,.ref (zp3 k1 k2 h l1 l2).objs.size]}
theorem EW (k1 k2:Bool) (l1 l2:Addr) (xs ys:Array Value):Meets (Builtin.«zip.__new__» ⟨[.type "zip", .ref l1,.ref l2],[]⟩) (fun _ R s=>SSq k1 s.heap l1 xs/\SSq k2 s.heap l2 ys/\R (.ok (.ret (.ref (zp4 k1 k2 s.heap l1 l2).objs.size))) {s with heap:=zp5 k1 k2 s.heap l1 l2}) :=
 .of_wp fun prog w A R s h=>by
  obtain⟨hp,g,d,tk,os⟩:=s;obtain⟨q1,q2,h⟩:=h;have hsub:=sub_zip
  have p1:SSq k1 (Shared.heap ⟨hp,g,d,tk,os⟩) l1 xs:=q1
  have p2:SSq k2 (Shared.heap ⟨hp.push {cls:=.type (gO k1),data:=.fields #[.ref l1,.int 0 0]},g,d,tk,os⟩) l2 ys:=q2.of fun o e=>zAF _ e
  wp_walk using AE p1,AE p2
  exact⟨_,rfl,h⟩
section
variable{prog:Program}{w:World}{A:Around}{E:Value->Shared->Prop}{s:Shared}{k1 k2:Bool}{l1 l2:Addr}{xs ys:Array Value}
theorem Ex{Q:Value->Shared->Prop}(q1:SSq k1 s.heap l1 xs)(q2:SSq k2 s.heap l2 ys)
  (hQ:∀h',ZSt k1 k2 (s.heap.objs.size+4) (s.heap.objs.size+2) (s.heap.objs.size+3) s.heap.objs.size (s.heap.objs.size+1) l1 l2 0 h'->(∀c o,s.heap.get? c=some o->h'.get? c=some o)->Q (.ref (s.heap.objs.size+4)) {s with heap:=h'}) :
  wpAny (model prog w) A (call (.type "zip") [.ref l1,.ref l2]) Q E s:=by
 refine callType_new F.called_zip (by decide) (F.typeCall_zip_2 _ _) (F.newCall_zip_2 _ _) (fun obj=>F.args_object_init_3 obj _ _) F.entry_zip_new (EW k1 k2 l1 l2 xs ys) ⟨q1,q2,?_⟩
 have n1:(zp1 k1 s.heap l1).objs.size=s.heap.objs.size+1:=zB6 ..
 have n2:(zp2 k1 k2 s.heap l1 l2).objs.size=s.heap.objs.size+2:=by rw[zB6,n1]
 have n3:(zp3 k1 k2 s.heap l1 l2).objs.size=s.heap.objs.size+3:=by rw[zB6,n2]
 have n4:(zp4 k1 k2 s.heap l1 l2).objs.size=s.heap.objs.size+4:=by rw[zB6,n3]
 have up5:∀c o,(zp4 k1 k2 s.heap l1 l2).get? c=some o->(zp5 k1 k2 s.heap l1 l2).get? c=some o:=fun c o e=>zAF _ e
 have up4:∀c o,(zp3 k1 k2 s.heap l1 l2).get? c=some o->(zp5 k1 k2 s.heap l1 l2).get? c=some o:=fun c o e=>up5 c o (zAF _ e)
 have up3:∀c o,(zp2 k1 k2 s.heap l1 l2).get? c=some o->(zp5 k1 k2 s.heap l1 l2).get? c=some o:=fun c o e=>up4 c o (zAF _ e)
 have up2:∀c o,(zp1 k1 s.heap l1).get? c=some o->(zp5 k1 k2 s.heap l1 l2).get? c=some o:=fun c o e=>up3 c o (zAF _ e)
 have g5:(zp5 k1 k2 s.heap l1 l2).get? (zp4 k1 k2 s.heap l1 l2).objs.size=some _:=zAU _ rfl
 have g4:=up5 _ _ (zAU (zp3 k1 k2 s.heap l1 l2) (o:={cls:=.type "tuple", data:=.seq #[.none,.none]}) rfl)
 have g3:=up4 _ _ (zAU (zp2 k1 k2 s.heap l1 l2) (o:={cls:=.type "tuple", data:=.seq #[.ref s.heap.objs.size,.ref (zp1 k1 s.heap l1).objs.size]}) rfl)
 have g2:=up3 _ _ (zAU (zp1 k1 s.heap l1) (o:={cls:=.type (gO k2),data:=.fields #[.ref l2,.int 0 0]}) rfl)
 have g1:=up2 _ _ (zAU s.heap (o:={cls:=.type (gO k1),data:=.fields #[.ref l1,.int 0 0]}) rfl)
 have hQ':=hQ (zp5 k1 k2 s.heap l1 l2)
 rw[n2,n3,n4]at g5;rw[n3]at g4;rw[n1,n2]at g3;rw[n1]at g2
 have sit:∀{k:Bool} {h:Heap} {it a:Addr},h.get? it=some {cls:=.type (gO k),data:=.fields #[.ref a,.int 0 0]}->SIt k h it a 0:=fun {k h it a} e=>by
  cases k with
  |true=>exact⟨_,e,rfl,rfl⟩
  |false=>exact⟨_,e,rfl,rfl⟩
 show _/\_
 rw[n4]
 exact⟨⟨_,g5,rfl⟩,hQ' ⟨g5,g3,⟨_,_,g4⟩,sit g1,sit g2⟩ fun c o e=>up2 c o (zAF _ e)⟩
end
end PZ
namespace PD
open PySem PySem.Spec PyProof.Rows L2 PZ
def SqK(K:PySem.W.Frag):Bool->Hp->Addr->List V->Prop
 |true=>SqL K
 |false=>L2.SqT K
section
variable{X:Cx}{pins:List (Addr×Obj)}{σ:St}{H:Hp}{s:Shared}{k:Bool}{a:Addr}{xs:List V}
theorem SqK.list(I:Inv X pins σ H s)(h:SqK X.K k H a xs):∃its:List Value,Vals xs its/\SSq k s.heap a its.toArray:=by
 cases k with
 |true =>
  obtain⟨its,r,p,_⟩:=I.list h
  exact⟨its,r,p.isList⟩
 |false =>
  obtain⟨its,r,p,_⟩:=I.tuple h
  exact⟨its,r,p⟩
theorem SqK.inj(I:Inv X pins σ H s){ys:List V}(h:SqK X.K k H a xs)(h':SqK X.K k H a ys):xs=ys:=by
 cases k with
 |true=>exact I.list_inj h h'
 |false=>exact I.tuple_inj h h'
theorem SqK.ne(I:Inv X pins σ H s){b:Addr}(f:dI X pins H b)(h:SqK X.K k H a xs):a≠b:=fun e=>by
 subst e
 obtain⟨f0,f1,f2,f3,f4,f5⟩:=f
 have kn:∀o,X.K.lookup a=some o->False:=fun o q=>by
  have hb:=I.ok.mod.kin a o q
  rcases f3 with z|z
  ·exact I.ok.noex a o hb z
  ·exact absurd (zAW (zAJ (I.ok.bs a o hb).1) z) (zBG _)
 cases k with
 |true =>
  rcases h with(h|⟨o,h⟩)|⟨o,its,n,h,_⟩
  ·rw[f0]at h;cases h
  ·rw[f0]at h;cases h
  ·exact kn o h
 |false =>
  rcases h with(h|⟨o,h⟩)|⟨o,its,n,h,_⟩
  ·rw[f0]at h;cases h
  ·rw[f0]at h;cases h
  ·exact kn o h
end
def Itz(K:PySem.W.Frag)(k1 k2:Bool)(a b:Addr):It :=
 ⟨fun i H=>∃xs ys x y,SqK K k1 H a xs/\SqK K k2 H b ys/\xs[i]?=some x/\ys[i]?=some y,
  fun i H v H'=>∃T x y,v=.ref T/\H T=none/\H'=L2.upd H T (.tup [x,y])/\(∀xs,SqK K k1 H a xs->xs[i]?=some x)/\∀ys,SqK K k2 H b ys->ys[i]?=some y,
  fun i H=>∃xs ys,SqK K k1 H a xs/\SqK K k2 H b ys/\(xs[i]?=none∨ys[i]?=none)⟩
theorem Ao{P:Program}{w:World}{K:PySem.W.Frag}{es:List Expr}{kt:Nat}{tp:Pos}(k1 k2:Bool)(a b z TI TO i1 i2:Addr)(D:Ap z TI TO i1 i2) :
  Turn P w K (.Tuple es kt tp) (Itz K k1 k2 a b) [z,TI,TO,i1,i2] z (fun i h=>ZSt k1 k2 z TI TO i1 i2 a b i h) where
 mem:=by simp
 obj:=fun i h st c hc=>by
  obtain⟨hz,hTI,⟨x,y,hTO⟩,s1,s2⟩:=st
  simp only[zAC,zAS,or_false]at hc
  rcases hc with e|e|e|e|e<;>subst e
  ·exact⟨_,hz,fun v q=>by cases q⟩
  ·exact⟨_,hTI,fun v q=>by cases q⟩
  ·exact⟨_,hTO,fun v q=>by cases q⟩
  ·obtain⟨o,q1,_,q2⟩:=s1.obj
   exact⟨o,q1,fun v q=>by rw[q2]at q;cases q⟩
  ·obtain⟨o,q1,_,q2⟩:=s2.obj
   exact⟨o,q1,fun v q=>by rw[q2]at q;cases q⟩
 keep:=fun i h h' st kp=>by
  obtain⟨hz,hTI,⟨x,y,hTO⟩,s1,s2⟩:=st
  exact⟨kp z (by simp) _ hz,kp TI (by simp) _ hTI,⟨x,y,kp TO (by simp) _ hTO⟩,s1.of fun o e=>kp i1 (by simp) o e,s2.of fun o e=>kp i2 (by simp) o e⟩
 item:=by
  intro X hP hw hK hc i pins s σ H E I hf st hg
  subst hP hw hK
  obtain⟨xs,ys,x,y,q1,q2,hx,hy⟩:=hg
  obtain⟨us,r1,p1⟩:=q1.list I
  obtain⟨ws,r2,p2⟩:=q2.list I
  obtain⟨u,hu,ru⟩:=r1.get hx
  obtain⟨v,hv,rv⟩:=r2.get hy
  have out:∀{k:Bool} {l:Addr} {zs:List V},SqK X.K k H l zs->Out z TO i1 i2 l:=fun q=>⟨q.ne I (hf z (by simp)),q.ne I (hf TO (by simp)),q.ne I (hf i1 (by simp)),q.ne I (hf i2 (by simp))⟩
  refine Ey D (out q1) (out q2) st p1 p2 (x:=u) (y:=v) (by simpa using hu) (by simpa using hv) fun h' z1 ti to s1 s2 pr kp=>⟨_,rfl,wpAny_letOwnedTupleGo_zip z1 fun h'' z2 sb=>?_⟩
  have sz:s.heap.objs.size<=s.heap.objs.size:=zAM _
  have nz:s.heap.objs.size≠z:=zCD (zAJ st.z)
  have nT:H s.heap.objs.size=none:=I.hok.fresh sz
  have kp2:∀c o,c ∉ [z,TI,TO,i1,i2]->s.heap.get? c=some o->h''.get? c=some o:=fun c o n e=>by
   simp only[zAC,zAS,or_false,not_or]at n
   exact sb.extBut c o n.1 (kp c o n.1 n.2.2.1 n.2.2.2.1 n.2.2.2.2 e)
  have st2:ZSt k1 k2 z TI TO i1 i2 a b (i+1) h'':=⟨z2,sb.extBut _ _ D.a1 ti,⟨_,_,sb.extBut _ _ D.a2 to⟩,s1.of fun o e=>sb.extBut _ o D.a3 e,s2.of fun o e=>sb.extBut _ o D.a4 e⟩
  have pr2:IsPair h'' s.heap.objs.size u v:=sb.extBut _ _ nz pr
  have lo:∀c ∈ [z,TI,TO,i1,i2],c≠s.heap.objs.size:=fun c hc e=>by
   have hlt:c<s.heap.objs.size:=by
    obtain⟨hz,hTI,⟨x',y',hTO⟩,t1,t2⟩:=st
    simp only[zAC,zAS,or_false]at hc
    rcases hc with q|q|q|q|q<;>subst q
    ·exact zAJ hz
    ·exact zAJ hTI
    ·exact zAJ hTO
    ·obtain⟨o,q1,_⟩:=t1.obj;exact zAJ q1
    ·obtain⟨o,q1,_⟩:=t2.obj;exact zAJ q1
   rw[e]at hlt
   exact zBG _ hlt
  refine⟨.ref s.heap.objs.size,L2.upd H s.heap.objs.size (.tup [x,y]),?_,rfl,⟨_,x,y,rfl,nT,rfl,fun xs' q=>by rw[q.inj I q1];exact hx,fun ys' q=>by rw[q.inj I q2];exact hy⟩,st2,fun c hc=>by rw[ay (lo c hc)];exact(hf c hc).1⟩
  have nch:∀c o,H c=some o->c ∉ [z,TI,TO,i1,i2]:=fun c o e hc=>by
   have:=(hf c hc).1
   rw[e]at this
   cases this
  refine L2.Inv.step (s:=s) (h':=h'') (g':=s.gens) (d':=s.drawn) (t':=s.toks) (ch:=[z,TI,TO,i1,i2]) I (fun c hc=>?_) (fun c o _ _ n e _=>kp2 c o n e) (fun c o _ _ n e _=>⟨o.slots,kp2 c o n e⟩) (fun c o _ e n=>by rw[ay (zAr (zAJ e))];exact n) (fun c o n e=>⟨o,kp2 c o n e⟩)
   (fun c ls e=>by rw[ay (aV e nT)];exact e) (fun c o ls e=>by rw[ay (aV e nT)];exact e) (fun c ps e=>⟨#[],by rw[ay (aV e nT),e];simp⟩) (fun m hm=>?_) (fun c o e=>?_) I.bare
  ·obtain⟨f0,f1,f2,f3,f4,f5⟩:=hf c hc
   exact⟨f3,f1,f4,f5⟩
  ·obtain⟨o,es',ep,ho,r⟩:=hm
   exact⟨o,es',ep,kp2 _ o (fun q=>(hf _ q).2.1 rfl) ho,r⟩
  ·by_cases hcT:c=s.heap.objs.size
   ·subst hcT
    rw[aG]at e
    cases e
    exact⟨by rw[sizeLine_eq];show 2<=16777216;decide,[u,v],.cons ru (.cons rv .nil),⟨_,pr2,rfl,_,rfl⟩⟩
   ·rw[ay hcT]at e
    refine(I.hok c o e).stay (fun d' o' hd q=>kp2 d' o' ?_ q) (fun d' q=>by rw[ay (aV q nT)];exact q) fun d' ls q=>by rw[ay (aV q nT)];exact q
    rcases hd with q'|q'
    ·rw[q'];exact nch c o e
    ·exact nch d' _ q'
 done:=by
  intro X hP hw hK hc i pins s σ H E I hf st hg
  subst hP hw hK
  obtain⟨xs,ys,q1,q2,hend⟩:=hg
  obtain⟨us,r1,p1⟩:=q1.list I
  obtain⟨ws,r2,p2⟩:=q2.list I
  have out:∀{k:Bool} {l:Addr} {zs:List V},SqK X.K k H l zs->Out z TO i1 i2 l:=fun q=>⟨q.ne I (hf z (by simp)),q.ne I (hf TO (by simp)),q.ne I (hf i1 (by simp)),q.ne I (hf i2 (by simp))⟩
  refine Ez (I.ok.hd hc) D (out q1) (out q2) st p1 p2 (hend.imp (fun q=>by simpa using r1.none_of q) fun q=>by simpa using r2.none_of q) fun h' kp=>⟨rfl,?_⟩
  have kp2:∀c o,c ∉ [z,TI,TO,i1,i2]->s.heap.get? c=some o->h'.get? c=some o:=fun c o n e=>by
   simp only[zAC,zAS,or_false,not_or]at n
   exact kp c o n.1 n.2.2.1 n.2.2.2.1 n.2.2.2.2 e
  have nch:∀c o,H c=some o->c ∉ [z,TI,TO,i1,i2]:=fun c o e hc=>by
   have:=(hf c hc).1
   rw[e]at this
   cases this
  refine L2.Inv.step (s:=s) (h':=h') (g':=s.gens) (d':=s.drawn) (t':=s.toks) (ch:=[z,TI,TO,i1,i2]) I (fun c hc=>?_) (fun c o _ _ n e _=>kp2 c o n e) (fun c o _ _ n e _=>⟨o.slots,kp2 c o n e⟩) (fun _ _ _ _ n=>n) (fun c o n e=>⟨o,kp2 c o n e⟩) (fun _ _ e=>e) (fun _ _ _ e=>e) (fun c ps e=>⟨#[],by rw[e];simp⟩) (fun m hm=>?_) (fun c o e=>?_) I.bare
  ·obtain⟨f0,f1,f2,f3,f4,f5⟩:=hf c hc
   exact⟨f3,f1,f4,f5⟩
  ·obtain⟨o,es',ep,ho,r⟩:=hm
   exact⟨o,es',ep,kp2 _ o (fun q=>(hf _ q).2.1 rfl) ho,r⟩
  ·refine(I.hok c o e).stay (fun d' o' hd q=>kp2 d' o' ?_ q) (fun _ q=>q) fun _ _ q=>q
   rcases hd with q'|q'
   ·rw[q'];exact nch c o e
   ·exact nch d' _ q'
 self:=fun _ _ _ _ _ st h=>wpAny_pyIter_zip st.z h
def ie:D->Option (Bool×List D)
 |.lst _ ds=>some (true,ds)
 |.tup ds=>some (false,ds)
 |_=>none
section
variable{X:Cx}
theorem Den.seq{P:Bool->Addr->Prop}{H:Hp}{d:D}{v:V}{k:Bool}{ds:List D}(h:Den X.K P H d v)(e:ie d=some (k,ds)):∃a vs,v=.ref a/\SqK X.K k H a vs/\af X.K P H ds vs ∧
  ∀ (P':Bool->Addr->Prop) (H':Hp),(∀a vs,SqT X.K H a vs->SqT X.K H' a vs)->(∀t a vs,¬P t a->SqG X.K H t a vs->¬P' t a/\SqG X.K H' t a vs)->SqK X.K k H' a vs:=by
 cases d with
 |lst t es =>
  cases e
  obtain⟨a,vs,e1,p,q,hd⟩:=h.lstG_
  exact⟨a,vs,e1,q.1,hd,fun P' H' _ hL=>(hL t a vs p q).2.1⟩
 |tup es =>
  cases e
  obtain⟨a,vs,e1,q,hd⟩:=h.tup_
  exact⟨a,vs,e1,q.w,hd,fun P' H' hT _=>(hT a vs q).w⟩
 |non=>cases e
 |bl _=>cases e
 |int _=>cases e
 |str _=>cases e
 |exc _=>cases e
 |obj _ _ _=>cases e
 |dic=>cases e
def zd(ta:DA):DA:=fun ρ R=>ta ρ fun ds=>∃d1 d2 k1 k2 xs ys,ds=[d1,d2]/\ie d1=some (k1,xs)/\ie d2=some (k2,ys)/\R (List.zipWith (fun x y=>D.tup [x,y]) xs ys)
theorem xx {es:List Expr} {kt:Nat} {tp:Pos} {a b:Expr} {ta:DA} {p pos:Pos} (hg:Gl X "zip") (hm:X.mg "zip" = none) (ha:PAD X [a,b] ta) (hs:starEach [a,b] X.env=(false,eval a X.env)::starEach [b] X.env:=by rfl) (hs2:(backTo pos (starEach [b] X.env)).any (·.1)=false:=by rfl) :
  PID X (.Tuple es kt tp) (.Call (.Name "zip" p) [a,b] [] pos) (zd ta):=by
 intro pins s σ H W ρ R I r h
 refine Call_ (eQ I hg hm boot_zip (PyProof.Rows.callWith_type1 (thn (ha pos pins s σ H W ρ _ I r h) fun us s1 ⟨vs,H1,ds,I1,r1,e1,hd,q1⟩=>?_) hs hs2))
 obtain⟨d1,d2,k1,k2,xs,ys,e,g1,g2,q⟩:=q1
 subst e
 obtain⟨v1,v2,rfl,hd1,hd2⟩:=qV hd
 obtain⟨l1,ws1,e2,sq1,dn1,up1⟩:=hd1.seq g1
 obtain⟨l2,ws2,e3,sq2,dn2,up2⟩:=hd2.seq g2
 subst e2 e3
 cases r1 with
 |cons ra rr =>
  cases rr with
  |cons rb rr =>
   cases rr
   cases ra
   cases rb
   obtain⟨us1,_,p1⟩:=sq1.list I1
   obtain⟨us2,_,p2⟩:=sq2.list I1
   have nn:∀j:Nat,s1.heap.objs.size<=s1.heap.objs.size+j:=fun j=>zCl _ j
   refine Ex p1 p2 fun h' Z kp=>?_
   refine wpAny_pyIter_zip Z.z ?_
   have Dz:Ap (s1.heap.objs.size+4) (s1.heap.objs.size+2) (s1.heap.objs.size+3) s1.heap.objs.size (s1.heap.objs.size+1):=by constructor<;>simp
   refine⟨s1.heap.objs.size+4,[s1.heap.objs.size+4,s1.heap.objs.size+2,s1.heap.objs.size+3,s1.heap.objs.size,s1.heap.objs.size+1],_,_,H1,_,rfl,I1.kept (t':=s1.toks) kp,e1,Ao k1 k2 l1 l2 _ _ _ _ _ Dz,Z,fun c hc=>?_,?_,q⟩
   ·have hc':s1.heap.objs.size<=c:=by
     simp only[zAC,zAS,or_false]at hc
     rcases hc with q|q|q|q|q<;>subst q<;>first|exact nn _|exact zAM _
    exact I1.fpOk hc' (I1.hok.fresh hc')
   ·intro P' H' hT hL hX i
    have k1':=up1 P' H' hT hL
    have k2':=up2 P' H' hT hL
    have n1:=dn1.len
    have n2:=dn2.len
    have hlen:(List.zipWith (fun x y=>D.tup [x,y]) xs ys).length=min xs.length ys.length:=List.length_zipWith
    refine⟨fun hi=>?_,fun v H3 y hi=>?_,fun hi=>⟨ws1,ws2,k1',k2',?_⟩⟩
    ·obtain⟨x,hx,_⟩:=dn1.get (i:=i) (d:=xs[i]'(by omega)) (by simp)
     obtain⟨y,hy,_⟩:=dn2.get (i:=i) (d:=ys[i]'(by omega)) (by simp)
     exact⟨ws1,ws2,x,y,k1',k2',hx,hy⟩
    ·obtain⟨T,x,y',e,nT,eH,hx,hy⟩:=y
     subst e eH
     obtain⟨dx,g1',hx'⟩:=dn1.bg (hx ws1 k1')
     obtain⟨dy,g2',hy'⟩:=dn2.bg (hy ws2 k2')
     have sm:ar H' (L2.upd H' T (.tup [x,y'])):=ar.upd nT
     refine⟨sm,.tup [dx,dy],by simp[List.getElem?_zipWith,g1',g2'],Den.tup (SqT.of aG) (af.cons ((Den.map hT hL hX dx x hx').same sm) (af.one ((Den.map hT hL hX dy y' hy').same sm)))⟩
    ·by_cases hz:xs.length<=i
     ·exact .inl (zAs (by omega))
     ·exact .inr (zAs (by omega))
end
end PD
namespace PD
open PySem PySem.Spec PyProof.Rows L2
def PEF(X:Cx)(e:Expr)(t:DA):Prop :=
 ∀ (pins:List (Addr×Obj)) (s:Shared) (σ:St) (H:Hp) (W:Own) (ρ:Ro) (Q:List D->Prop),Inv X pins σ H s->Rel X W H σ ρ->t ρ Q →
  wpAny (model X.prog X.w) X.A (eval e X.env) (fun u s'=>∃a vs H' ds,u=.ref a/\Inv X pins σ H' s'/\ar H H'/\H a=none/\X.K.lookup a=none/\H' a=some (.lst vs)/\af X.K (fun t b=>W.bad t b∨b=a) H' ds vs/\Q ds) X.xe s
def yY(t:DA):DE:=fun ρ Q=>t ρ fun ds=>Q (.lst true ds)
section
variable{X:Cx}{e:Expr}{t:DA}{pos:Pos}
theorem PEF.ped(h:PEF X e t):PED X e (yY t):=by
 intro pins s σ H W ρ Q I r hw
 refine thn (h pins s σ H W ρ _ I r hw) fun u s1 ⟨a,vs,H',ds,e,I1,sm,n,k,ha,hd,q⟩=>?_
 subst e
 exact⟨.ref a,H',_,I1,rfl,sm,Den.lst (r.fresh n) (.new ha k) (hd.fewer fun _ _ z=>.inl z),q⟩
theorem PEF.of{te:TE}(h:PE X e te)(k:∀σ H W ρ Q,Rel X W H σ ρ->t ρ Q->te σ H fun v H'=>∃a vs ds H1,v=.ref a/\ar H H1/\H1 a=none/\H'=L2.upd H1 a (.lst vs)/\af X.K W.bad H1 ds vs/\Q ds)(hK:∀pins σ H s a vs,Inv X pins σ H s->H a=some (.lst vs)->X.K.lookup a=none):PEF X e t:=by
 intro pins s σ H W ρ Q I r hw
 refine thn (h pins s σ H _ I (k σ H W ρ Q r hw)) fun u s1 ⟨v,H',I1,rv,a,vs,ds,H1,e,sm,n,eH,hd,q⟩=>?_
 subst e eH
 cases rv
 exact⟨a,vs,_,ds,rfl,I1,sm.trans (ar.upd n),sm.free n,hK _ _ _ _ a vs I1 aG,aG,af.apart n (hK _ _ _ _ a vs I1 aG) hd,q⟩
theorem Inv.kno{pins:List (Addr×Obj)}{σ:St}{H:Hp}{s:Shared}{a:Addr}{o:HO}(I:Inv X pins σ H s)(h:H a=some o):X.K.lookup a=none:=by
 cases e:X.K.lookup a with
 |none=>rfl
 |some ob =>
  have:=(I.bs a ob (I.ok.mod.kin a ob e)).2
  rw[h]at this
  cases this
def vL(i:Nat)(t:DA):DS:=fun E ρ=>t ρ fun ds=>E.nx (ρ.set i (some (.own ds)))
theorem A6{x:Str}{pos':Pos}(i:Nat)(hN:X.N.Nodup)(he:PEF X e t)(hi:X.N[i]?=some x:=by rfl)(hx:Loc X.env.scope x:=by first|exact Or.inl rfl|exact Or.inr rfl)(hs:swapsWith e (some (.Name x pos')) pos.line X.env=pure false:=by rfl)
  (hf:X.fn x=true∨X.env.scope.names.lookup x=some .local:=by first|exact .inl rfl|exact .inr rfl|assumption):PSD X (.Assign [.Name x pos'] e pos) (vL i t):=by
 intro pins s σ H W ρ E I r h
 refine wpAny_Assign_Name (thn (he pins s σ H W ρ _ I r h) fun u s1 ⟨a,vs,H1,ds,e1,I1,sm,n,k,ha,hd,q1⟩=>?_) hs
 subst e1
 obtain⟨r',f'⟩:=r.putOwn2 (Inv.ilt I1 hi) sm n k ha hd
 exact gD (v:=.ref a) I1 hN hi hx rfl (fun s2 I2=>⟨_,_,H1,I2,f',_,r',q1⟩) hf
end
mutual
def ki:D->Bool
 |.tup ds=>cI ds
 |.obj _ _ ds=>cI ds
 |.lst _ _=>false
 |_=>true
def cI:List D->Bool
 |[]=>true
 |d::ds=>ki d && cI ds
end
mutual
def bI:D->Bool
 |.tup ds=>d8 ds
 |.obj _ _ ds=>d8 ds
 |.lst t ds=>t && d8 ds
 |_=>true
def d8:List D->Bool
 |[]=>true
 |d::ds=>bI d && d8 ds
end
section
variable{K:PySem.W.Frag}{P P':Bool->Addr->Prop}{H:Hp}
mutual
theorem Den.nol:∀(d:D) (v:V),ki d=true->Den K P H d v->Den K P' H d v
 |.non,_,_,h=>by simpa only[Den]using h
 |.bl _,_,_,h=>by simpa only[Den]using h
 |.int _,_,_,h=>by simpa only[Den]using h
 |.str _,_,_,h=>by simpa only[Den]using h
 |.exc _,_,_,h=>by simpa only[Den]using h
 |.obj C ns ds,_,n,h=>by
  rw[ki]at n
  simp only[Den]at h ⊢
  obtain⟨a,dx,vs,e,q,l,k,r⟩:=h
  exact⟨a,dx,vs,e,q,l,k,af.nol ds vs n r⟩
 |.dic,_,_,h=>by simpa only[Den]using h
 |.lst _ _,_,n,_=>by rw[ki]at n;cases n
 |.tup ds,_,n,h=>by
  rw[ki]at n
  simp only[Den]at h ⊢
  obtain⟨a,vs,e,q,r⟩:=h
  exact⟨a,vs,e,q,af.nol ds vs n r⟩
theorem af.nol:∀(ds:List D) (vs:List V),cI ds=true->af K P H ds vs->af K P' H ds vs
 |[],_,_,h=>by simpa only[af]using h
 |d::ds,_,n,h=>by
  rw[cI,zBO]at n
  simp only[af]at h ⊢
  obtain⟨v,r,e,h1,h2⟩:=h
  exact⟨v,r,e,Den.nol d v n.1 h1,af.nol ds r n.2 h2⟩
end
mutual
theorem Den.hard(k:∀a,P' true a->P true a):∀(d:D) (v:V),bI d=true->Den K P H d v->Den K P' H d v
 |.non,_,_,h=>by simpa only[Den]using h
 |.bl _,_,_,h=>by simpa only[Den]using h
 |.int _,_,_,h=>by simpa only[Den]using h
 |.str _,_,_,h=>by simpa only[Den]using h
 |.exc _,_,_,h=>by simpa only[Den]using h
 |.obj C ns ds,_,n,h=>by
  rw[bI]at n
  simp only[Den]at h ⊢
  obtain⟨a,dx,vs,e,q,l,kk,r⟩:=h
  exact⟨a,dx,vs,e,q,l,kk,af.hard k ds vs n r⟩
 |.dic,_,_,h=>by simpa only[Den]using h
 |.lst t ds,_,n,h=>by
  rw[bI,zBO]at n
  obtain⟨n1,n2⟩:=n
  subst n1
  simp only[Den]at h ⊢
  obtain⟨a,vs,e,p,q,r⟩:=h
  exact⟨a,vs,e,fun z=>p (k a z),q,af.hard k ds vs n2 r⟩
 |.tup ds,_,n,h=>by
  rw[bI]at n
  simp only[Den]at h ⊢
  obtain⟨a,vs,e,q,r⟩:=h
  exact⟨a,vs,e,q,af.hard k ds vs n r⟩
theorem af.hard(k:∀a,P' true a->P true a):∀(ds:List D) (vs:List V),d8 ds=true->af K P H ds vs->af K P' H ds vs
 |[],_,_,h=>by simpa only[af]using h
 |d::ds,_,n,h=>by
  rw[d8,zBO]at n
  simp only[af]at h ⊢
  obtain⟨v,r,e,h1,h2⟩:=h
  exact⟨v,r,e,Den.hard k d v n.1 h1,af.hard k ds r n.2 h2⟩
end
end
def Own.soft(W:Own)(i:Nat)(a:Addr):Own:=⟨W.B,fun j=>if j=i then none else W.O j,fun b=>W.S b∨b=a⟩
section
variable{X:Cx}
theorem Rel.soft{W:Own}{H:Hp}{σ:St}{ρ:Ro}{i:Nat}{ds:List D}(r:Rel X W H σ ρ)(e:ρ[i]?=some (some (.own ds))):∃a,W.O i=some a/\Rel X (W.soft i a) H σ (ρ.set i (some (.val (.lst false ds))))/\∀b,W.bad true b->(W.soft i a).bad true b:=by
 obtain⟨a,vs,oa,sa,ha,hds⟩:=r.ownL i ds e
 have hl':i<ρ.length:=(zAE.mp e).1
 have hO:∀j b,(W.soft i a).O j=some b->j≠i/\W.O j=some b:=fun j b h=>by
  have h1:(if j=i then none else W.O j)=some b:=h
  by_cases z:j=i
  ·rw[if_pos z]at h1;cases h1
  ·rw[if_neg z]at h1;exact⟨z,h1⟩
 have low:∀t b,(W.soft i a).bad t b->W.bad t b:=fun t b z=>by
  rcases z with z|⟨j,z⟩| ⟨z1,z2⟩
  ·exact .inl z
  ·exact .inr (.inl ⟨j,(hO j b z).2⟩)
  ·rcases z2 with z2|z2
   ·exact .inr (.inr ⟨z1,z2⟩)
   ·subst z2;exact .inr (.inl ⟨i,oa⟩)
 have nb:¬(W.soft i a).bad false a:=fun z=>by
  rcases z with z|⟨j,z⟩| ⟨z1,_⟩
  ·exact(r.kn i a oa).2.1.1 z
  ·exact(hO j a z).1 (r.inj j i a (hO j a z).2 oa)
  ·cases z1
 refine⟨a,oa,⟨fun j d h=>?_,fun j x h=>?_,fun j k b h1 h2=>r.inj j k b (hO j b h1).2 (hO k b h2).2,fun j b h=>?_,fun j b h=>r.ke j b (hO j b h).2,r.bt,fun b h=>?_,r.ent,r.tab⟩,fun b z=>?_⟩
 ·by_cases hj:j=i
  ·subst hj
   rw[zAV hl']at h
   cases h
   exact⟨.ref a,sa,Den.lst nb (.any (SqL.of ha)) (hds.fewer low)⟩
  ·rw[zAN (Ne.symm hj)]at h
   obtain⟨w,h1,h2⟩:=r.val j d h
   exact⟨w,h1,h2.fewer low⟩
 ·by_cases hj:j=i
  ·subst hj
   rw[zAV hl']at h;cases h
  ·rw[zAN (Ne.symm hj)]at h
   obtain⟨b,ws,h1,h2,h3,h4⟩:=r.own j x h
   exact⟨b,ws,by show(if j=i then none else W.O j)=_;rw[if_neg hj];exact h1,h2,h3,h4.fewer low fun k c q=>(by
    show(if vix σ.length j k=i then none else W.O (vix σ.length j k))=_
    rw[if_neg (gY (zAE.mp sa).1)]
    exact q)⟩
 ·obtain⟨k1,⟨k2,k3⟩,k4⟩:=r.kn j b (hO j b h).2
  refine⟨k1,⟨k2,fun z=>z.elim k3 fun z=>?_⟩,k4⟩
  subst z
  exact(hO j b h).1 (r.inj j i b (hO j b h).2 oa)
 ·rcases h with h|h
  ·exact r.st b h
  ·subst h;exact⟨_,ha⟩
 ·rcases z with z|⟨j,z⟩| ⟨_,z⟩
  ·exact .inl z
  ·by_cases hj:j=i
   ·subst hj
    rw[oa]at z
    cases z
    exact .inr (.inr ⟨rfl,.inr rfl⟩)
   ·exact .inr (.inl ⟨j,by show(if j=i then none else W.O j)=_;rw[if_neg hj];exact z⟩)
  ·exact .inr (.inr ⟨rfl,.inl z⟩)
variable{e:Expr}{te:DE}{tt:DT}{ta:DA}
def rP(i:Nat)(t:DT):DT:=fun ρ Q=>∃ds,ρ[i]?=some (some (.own ds))/\t (ρ.set i (some (.val (.lst false ds)))) Q
theorem A7(i:Nat)(h:PTD X e tt):PTD X e (rP i tt):=by
 intro pins s σ H W ρ Q I r hw
 obtain⟨ds,eo,hw⟩:=hw
 obtain⟨a,oa,r',up⟩:=r.soft eo
 exact h pins s σ H _ _ _ I r' hw
end
section
variable{X:Cx}{pos:Pos}
theorem af.take{K:PySem.W.Frag}{P:Bool->Addr->Prop}{H:Hp}:∀{ds:List D} {vs:List V} (n:Nat),af K P H ds vs->af K P H (ds.take n) (vs.take n)
 |_,_,0,_=>by simp only[List.take_zero];exact af.nil
 |[],_,_+1,h=>by simp only[af]at h;subst h;exact af.nil
 |x::r,_,n+1,h=>by
  simp only[af]at h
  obtain⟨u,w,rfl,h1,h2⟩:=h
  exact af.cons h1 (af.take n h2)
theorem af.drop{K:PySem.W.Frag}{P:Bool->Addr->Prop}{H:Hp}:∀{ds:List D} {vs:List V} (n:Nat),af K P H ds vs->af K P H (ds.drop n) (vs.drop n)
 |_,_,0,h=>by simpa only[zCy]using h
 |[],_,_+1,h=>by simp only[af]at h;subst h;exact af.nil
 |x::r,_,n+1,h=>by
  simp only[af]at h
  obtain⟨u,w,rfl,h1,h2⟩:=h
  exact af.drop n h2
theorem af.rev{K:PySem.W.Frag}{P:Bool->Addr->Prop}{H:Hp}:∀{ds:List D} {vs:List V},af K P H ds vs->af K P H ds.reverse vs.reverse
 |[],_,h=>by simp only[af]at h;subst h;exact af.nil
 |x::r,_,h=>by
  simp only[af]at h
  obtain⟨u,w,rfl,h1,h2⟩:=h
  rw[zB5,zB5]
  exact(af.rev h2).append (af.one h1)
end
end PD
namespace PD
open PySem PySem.Spec PyProof.Rows L2
section
variable{X:Cx}{pos:Pos}
def qS(i:Nat)(C:List D->Prop)(f:List D->List D):DS:=fun E ρ=>∃ds,ρ[i]?=some (some (.own ds))/\C ds/\E.nx (ρ.set i (some (.own (f ds))))
theorem zj {x name:Str} {id:String} {px apos cpos:Pos} {rm:V->List V->Hp->VK->Prop} {C:List D->Prop} {f:List D->List D} (g:List V->List V) (i:Nat) (slot:Slot "list" name id) (hty:typeOf (.builtin id)=pure (.type "method_descriptor")) (hm:MtM X id rm)
  (hr:∀(a:Addr) (vs:List V) (ds:List D) (H:Hp) (Q:VK),H a=some (.lst vs)->vs.length=ds.length->C ds->(∀v,Q v (L2.upd H a (.lst (g vs))))->rm (.ref a) [] H Q) (hg:∀(K:PySem.W.Frag) (P:Bool->Addr->Prop) (H:Hp) (ds:List D) (vs:List V),af K P H ds vs->af K P H (f ds) (g vs))
  (hi:X.N[i]?=some x:=by rfl) (hv:Vis X.env.scope x:=by first|exact Or.inl rfl|exact Or.inr (Or.inl rfl)|exact Or.inr (Or.inr rfl)) (hd:(x==("__debug__" : Str))=false:=by decide) (hcd:(x==("__classdict__" : Str))=false:=by decide)
  (hbase:attributeBase (.Name x px) name X.env (eval (.Name x px) X.env)=eval (.Name x px) X.env:=by rfl) (hline:(apos.endLine==cpos.line)=true:=by rfl)
  (hs:swapsWith (.Call (.Attribute (.Name x px) name apos) [] [] cpos) none pos.line X.env=pure false:=by rfl):PSD X (.Expr (.Call (.Attribute (.Name x px) name apos) [] [] cpos) pos) (qS i C f):=by
 have P0:=iQ (pos:=pos) (Dt PySem.F.plainAttrs_list slot hty hm (gQ hi hv hd hcd) hbase hline) hs
 refine PSD.of P0 fun σ H W ρ E r hl h=>?_
 obtain⟨ds,eo,hc,h⟩:=h
 obtain⟨a,vs,oa,sa,ha,hds⟩:=r.ownL i ds eo
 obtain⟨r',f'⟩:=r.mut eo oa sa ha (hg _ _ _ ds vs hds)
 exact⟨.ref a,sa,.inl ⟨rfl,_,SqL.of ha⟩,hr a vs ds H _ ha hds.len hc fun v=>⟨W,_,f',r',h⟩⟩
theorem af.dropLast{K:PySem.W.Frag}{P:Bool->Addr->Prop}{H:Hp}{ds:List D}{vs:List V}(h:af K P H ds vs):af K P H ds.dropLast vs.dropLast:=by
 rw[List.dropLast_eq_take,List.dropLast_eq_take,h.len]
 exact h.take _
theorem CJ {x:Str} {px apos cpos:Pos} (i:Nat) (hi:X.N[i]?=some x:=by rfl) (hv:Vis X.env.scope x:=by first|exact Or.inl rfl|exact Or.inr (Or.inl rfl)|exact Or.inr (Or.inr rfl)) (hd:(x==("__debug__" : Str))=false:=by decide) (hcd:(x==("__classdict__" : Str))=false:=by decide)
  (hbase:attributeBase (.Name x px) "pop" X.env (eval (.Name x px) X.env)=eval (.Name x px) X.env:=by rfl) (hline:(apos.endLine==cpos.line)=true:=by rfl)
  (hs:swapsWith (.Call (.Attribute (.Name x px) "pop" apos) [] [] cpos) none pos.line X.env=pure false:=by rfl):PSD X (.Expr (.Call (.Attribute (.Name x px) "pop" apos) [] [] cpos) pos) (qS i (fun ds=>0<ds.length) List.dropLast) :=
 zj List.dropLast i PySem.F.slot_list_pop PySem.F.type_list_pop Dh (fun a vs ds H Q ha hl hc q=>by
  have hp:vs.length - 1<vs.length:=by omega
  exact⟨a,vs,vs[vs.length - 1],rfl,rfl,ha,by simp[hp],q _⟩) (fun _ _ _ _ _ h=>h.dropLast) hi hv hd hcd hbase hline hs
variable{e:Expr}{te:DE}{p:Pos}
def vO(te:DE):DA:=fun ρ Q=>te ρ fun d=>∃k ds,ie d=some (k,ds)/\Q ds
theorem rW{K:PySem.W.Frag}{P:Bool->Addr->Prop}{H:Hp}{d:D}{v:V}{k:Bool}{ds:List D}(h:Den K P H d v)(e:ie d=some (k,ds)):∃a vs,v=.ref a/\(SqL K H a vs∨SqT K H a vs)/\af K P H ds vs:=by
 cases d with
 |lst t es =>
  cases e
  obtain⟨a,vs,e1,p,q,hd⟩:=h.lst_
  exact⟨a,vs,e1,.inl q,hd⟩
 |tup es =>
  cases e
  obtain⟨a,vs,e1,q,hd⟩:=h.tup_
  exact⟨a,vs,e1,.inr q,hd⟩
 |non=>cases e
 |bl _=>cases e
 |int _=>cases e
 |str _=>cases e
 |exc _=>cases e
 |obj _ _ _=>cases e
 |dic=>cases e
theorem oY (hg:Gl X "list") (hm:X.mg "list" = none) (he:PED X e te) (hst:starEach [e] X.env=(false,eval e X.env)::starEach [] X.env:=by rfl) (hpl:(backTo pos (starEach [] X.env)).any (·.1)=false:=by rfl):PEF X (.Call (.Name "list" p) [e] [] pos) (vO te):=by
 refine PEF.of (xV rC hg hm boot_list (fz he.pe i6 hst) (by decide) (by decide) hst hpl) (fun σ H W ρ Q r h=>?_) fun _ _ _ _ _ _ I h=>Inv.kno I h
 refine⟨W,ρ,_,r,h,fun v H' d e1 hd q=>?_⟩
 obtain⟨k,ds,es,q⟩:=q
 obtain⟨a,vs,ev,hq,hds⟩:=rW hd es
 subst ev
 exact⟨a,vs,rfl,hq.imp id SqT.w,fun l hl=>⟨l,vs,ds,H',rfl,e1,hl,rfl,hds,q⟩⟩
theorem cR{K:PySem.W.Frag}{P:Bool->Addr->Prop}{H:Hp}:∀{ns:List Int} {vs:List V},af K P H (ns.map D.int) vs->vs=ns.map V.int
 |[],_,h=>by simpa only[zBZ,af]using h
 |n::r,_,h=>by
  simp only[zAK,af]at h
  obtain⟨v,w,rfl,h1,h2⟩:=h
  rw[h1.int_,cR h2]
  rfl
theorem Ct (hc:X.calm=true):eS X (.builtin "sum") (fun ds Q=>∃(t:Bool) (ns:List Int),ds=[.lst t (ns.map D.int)]/\Q (.int ns.sum)):=by
 intro pins s σ H W ds vs us Q I tr r hd q
 obtain⟨t,ns,e,q⟩:=q
 subst e
 obtain⟨v,rfl,h1⟩:=lX hd
 obtain⟨a,ws,ev,_,hq,hw⟩:=h1.lst_
 subst ev
 cases r with
 |cons r1 rr =>
  cases rr
  cases r1
  obtain⟨its,rv,pl,_⟩:=I.list hq
  rw[cR hw]at rv
  have ia:=intsAre_of rv
  obtain⟨xs,ex⟩:=ia.allInts.items
  have hl:s.heap.IsList a (intItems xs):=by rw[<- ex];exact pl.isList
  refine sum_intListG (I.ok.hd hc) hl fun h' tk t' kp=>?_
  have es:preSum (numAt xs) xs.size=ns.sum:=by
   rw[preSum_eq,zBp (by simp),<- nums_intItems,<- ex,show its.toArray.toList=its from rfl,ia.numsOf]
  rw[es]
  exact⟨.int ns.sum,H,_,I.kept kp,⟨_,rfl⟩,ar.refl H,Den.int _,q⟩
theorem Vals.rev:∀{xs:List V} {us:List Value},Vals xs us->Vals xs.reverse us.reverse
 |_,_,.nil=>.nil
 |_,_,.cons r t=>by
  rw[zB5,zB5]
  exact(Vals.rev t).append (.cons r .nil)
def cutD(xs:List D)(lo hi:Option Int):List D:=(xs.drop (HT.sIx xs.length 0 lo)).take (HT.sIx xs.length xs.length hi - HT.sIx xs.length 0 lo)
theorem af.cut{K:PySem.W.Frag}{P:Bool->Addr->Prop}{H:Hp}{ds:List D}{vs:List V}(lo hi:Option Int)(h:af K P H ds vs):af K P H (cutD ds lo hi) (kT vs lo hi):=by
 unfold cutD kT
 rw[h.len]
 exact(h.drop _).take _
abbrev DO:=Ro->(Option Int->Prop)->Prop
def PDO(X:Cx)(e:Option Expr)(t:DO):Prop :=
 ∀ (pins:List (Addr×Obj)) (s:Shared) (σ:St) (H:Hp) (W:Own) (ρ:Ro) (Q:Option Int->Prop),Inv X pins σ H s->Rel X W H σ ρ->t ρ Q →
  wpAny (model X.prog X.w) X.A (evalPart e X.env) (fun u s'=>∃o H',Inv X pins σ H' s'/\IsPart u o/\ar H H'/\Q o) X.xe s
def cD:DO:=fun _ Q=>Q none
def lU(te:DE):DO:=fun ρ Q=>te ρ fun d=>∃i,d=.int i/\Q (some i)
theorem cE:PDO X none cD:=by
 intro pins s σ H W ρ Q I r h
 rw[evalPart_none]
 exact wpAny_pure ⟨none,H,I,.none,ar.refl H,h⟩
theorem eE(he:PED X e te):PDO X (some e) (lU te):=by
 intro pins s σ H W ρ Q I r h
 rw[evalPart_some]
 refine thn (he pins s σ H W ρ _ I r h) fun u s1 ⟨v,H1,d,I1,rv,e1,hd,i,ed,q⟩=>?_
 subst ed
 have z:=hd.int_
 subst z
 obtain⟨t,rfl⟩:=rv
 exact⟨some i,H1,I1,.int i t,e1,q⟩
variable{lo hi st:Option Expr}{tl th ts:DO}{p2:Pos}
theorem nj {Q : Value -> Shared -> Prop} {pins : List (Addr × Obj)} {s : Shared} {σ : St} {H : Hp} {W : Own} {ρ : Ro} {R : D -> Option Int -> Option Int -> Option Int -> Prop} (he : PED X e te) (hl : PDO X lo tl) (hh : PDO X hi th) (ht : PDO X st ts) (I : Inv X pins σ H s) (r : Rel X W H σ ρ)
  (h : te ρ fun d => tl ρ fun l => th ρ fun u => ts ρ fun k => R d l u k)
  (hk : ∀ (v : V) (vv vl vu vk : Value) (l u k : Option Int) (d : D) (sl : Addr) (H' : Hp) (s' : Shared), Inv X pins σ H' s' -> ar H H' -> RelV v vv -> Den X.K W.bad H' d v -> s'.heap.IsSliceOf sl vl vu vk -> IsPart vl l -> IsPart vu u -> IsPart vk k -> R d l u k →
   ∃ T id, typeLookup (.type T) "__getitem__" = pure (some (.builtin id)) /\ s'.TypeIs vv T /\ wpAny (model X.prog X.w) X.A (getItem vv (.ref sl)) Q X.xe s')
  (htail : ∀ vv sl, ∃ ops, subscripted (.Slice lo hi st p2) false vv sl = operate ops (getItem vv sl)) : wpAny (model X.prog X.w) X.A (eval (.Subscript e (.Slice lo hi st p2) pos) X.env) Q X.xe s := by
 refine Subscript_ (thn (he pins s σ H W ρ _ I r h) fun vv s1 ⟨v, H1, d, I1, rv, e1, hd, q1⟩ => ?_)
 have r1 := r.same e1
 refine wpAny_Slice (thn (hl pins s1 σ H1 W ρ _ I1 r1 q1) fun vl s2 ⟨l, H2, I2, pl, e2, q2⟩ => thn (hh pins s2 σ H2 W ρ _ I2 (r1.same e2) q2) fun vu s3 ⟨u, H3, I3, pu, e3, q3⟩ => thn (ht pins s3 σ H3 W ρ _ I3 ((r1.same e2).same e3) q3) fun vk s4 ⟨k, H4, I4, pk, e4, q4⟩ => ?_)
 have I5 : Inv X pins σ H4 { s4 with heap := s4.heap.push { cls := .type "slice", data := .fields #[vl, vu, vk] } } := I4.kept (t' := s4.toks) fun b ob q => zAF _ q
 obtain ⟨T, id, hT, ht', hg⟩ := hk v vv vl vu vk l u k d s4.heap.objs.size H4 _ I5 (e1.trans (e2.trans (e3.trans e4))) rv (hd.same (e2.trans (e3.trans e4))) (Heap.IsSliceOf.new ..) pl pu pk q4
 show wpAny (model X.prog X.w) X.A (subscriptTail e (.Slice lo hi st p2) vv (.ref s4.heap.objs.size)) Q X.xe _
 obtain ⟨ops, ho⟩ := htail vv (.ref s4.heap.objs.size)
 exact tail_any (ops := ops) ht' hT hg ho
def y8(te:DE)(tl th:DO):DA:=fun ρ Q=>te ρ fun d=>tl ρ fun l=>th ρ fun u=>∃t ds,d=.lst t ds/\Q (cutD ds l u)
def y9(te:DE)(tl th:DO):DE:=fun ρ Q=>te ρ fun d=>tl ρ fun l=>th ρ fun u=>∃ds,d=.tup ds/\¬(HT.sIx ds.length 0 l=0/\HT.sIx ds.length ds.length u=ds.length)/\Q (.tup (cutD ds l u))
theorem mF{pins:List (Addr×Obj)}{s:Shared}{σ:St}{H H':Hp}{W:Own}{v:V}{vv vl vu vk:Value}{l u k:Option Int}{tg:Bool}{ds:List D}{sl:Addr}(f:List V->List V)(g:List D->List D)(I:Inv X pins σ H' s)(r:Rel X W H' σ ρ)(sm:ar H H')(rv:RelV v vv)(hd:Den X.K W.bad H' (.lst tg ds) v)(hs:s.heap.IsSliceOf sl vl vu vk)(pl:IsPart vl l)(pu:IsPart vu u)(pk:IsPart vk k)(k0:k≠some 0)
  (hp:∀its:List Value,∃g':List Value->List Value,slicePick its.toArray l u k=(g' its).toArray/\∀vs,Vals vs its->Vals (f vs) (g' its)/\(f vs).length<=vs.length) (hg:∀vs,af X.K W.bad H' ds vs->af X.K W.bad H' (g ds) (f vs)) {Q:List D->Prop} (q:Q (g ds)) :
  ∃ T id,typeLookup (.type T) "__getitem__" = pure (some (.builtin id))/\s.TypeIs vv T/\wpAny (model X.prog X.w) X.A (getItem vv (.ref sl)) (fun uu s'=>∃a vs H'' ds,uu=.ref a/\Inv X pins σ H'' s'/\ar H H''/\H a=none/\X.K.lookup a=none/\H'' a=some (.lst vs)/\af X.K (fun t b=>W.bad t b∨b=a) H'' ds vs/\Q ds) X.xe s:=by
 obtain⟨a,vs,ev,_,hq,hds⟩:=hd.lst_
 subst ev
 cases rv
 obtain⟨its,rr,ht,hz⟩:=I.list hq
 have hlen:=rr.length
 refine⟨"list", _,slot_list_getitem.lookup,ht.isList.typeIs,?_⟩
 refine wpAny_getItem_list_slice ht.isList hs pl pu pk k0 ?_ (by rw[zAX]<;>omega)
 obtain⟨g',e,hv⟩:=hp its
 rw[e]
 obtain⟨rv',hl'⟩:=hv vs rr
 have hf:H' s.heap.objs.size=none:=I.hok.fresh (zAM _)
 refine⟨s.heap.objs.size,f vs,_,g ds,rfl,I.laid (t':=s.toks) (o:=.lst (f vs)) (fun b ob q=>zAF _ q) (zAM _) ⟨zAw hl' hz,_,0,rv',zAU _ rfl⟩,sm.trans (ar.upd hf),sm.free hf,Inv.kfresh I,aG,af.apart hf (Inv.kfresh I) (hg vs hds),q⟩
theorem eZ(he:PED X e te)(hl:PDO X lo tl)(hh:PDO X hi th):PEF X (.Subscript e (.Slice lo hi none p2) pos) (y8 te tl th):=by
 intro pins s σ H W ρ Q I r h
 refine nj (st:=none) (ts:=cD) (R:=fun d l u k=>k=none/\∃t ds,d=.lst t ds/\Q (cutD ds l u)) he hl hh cE I r ?_ ?_ (fun _ _=>⟨_,rfl⟩)
 ·have e1:(fun d=>tl ρ fun l=>th ρ fun u=>cD ρ fun k=>k=none/\∃t ds,d=D.lst t ds/\Q (cutD ds l u))=fun d=>tl ρ fun l=>th ρ fun u=>∃t ds,d=D.lst t ds/\Q (cutD ds l u):=by
   funext d
   congr 1
   funext l
   congr 1
   funext u
   exact propext ⟨fun z=>z.2,fun z=>⟨rfl,z⟩⟩
  rw[e1]
  exact h
 ·intro v vv vl vu vk l u k d sl H' s' I' sm rv hd hs pl pu pk hR
  obtain⟨ek,t,ds,ed,q⟩:=hR
  subst ek ed
  exact mF (fun vs=>kT vs l u) (fun ds=>cutD ds l u) I' (r.same sm) sm rv hd hs pl pu pk (by simp) (fun its=>⟨fun its=>(its.drop (HT.sIx its.length 0 l)).take (HT.sIx its.length its.length u - HT.sIx its.length 0 l),qO its l u,fun vs rr=>⟨by unfold kT;rw[rr.length];exact(rr.drop _).take _,mD vs l u⟩⟩) (fun vs hds=>hds.cut l u) q
def y7(te:DE):DA:=fun ρ Q=>te ρ fun d=>∃t ds,d=.lst t ds/\Q ds.reverse
theorem CG{j:Nat}{pc pu:Pos}(he:PED X e te):PEF X (.Subscript e (.Slice none none (some (.UnaryOp .USub (.Constant (.int 1) j pc) pu)) p2) pos) (y7 te):=by
 intro pins s σ H W ρ Q I r h
 refine nj (ts:=lU (oV (dC (.int 1)))) (tl:=cD) (th:=cD) (R:=fun d l u k=>l=none/\u=none/\k=some (-1)/\∃t ds,d=.lst t ds/\Q ds.reverse) he cE cE (eE (cz ae)) I r ?_ ?_ (fun _ _=>⟨_,rfl⟩)
 ·have e1:(fun d=>cD ρ fun l=>cD ρ fun u=>lU (oV (dC (.int 1))) ρ fun k=>l=none/\u=none/\k=some (-1)/\∃t ds,d=D.lst t ds/\Q ds.reverse)=fun d=>∃t ds,d=D.lst t ds/\Q ds.reverse:=by
   funext d
   apply propext
   simp only[cD,lU,oV,dC,true_and]
   constructor
   ·rintro⟨i,e1,i',e2,e3,z⟩
    exact z
   ·intro z
    exact⟨1,rfl,-1,rfl,rfl,z⟩
  rw[e1]
  exact h
 ·intro v vv vl vu vk l u k d sl H' s' I' sm rv hd hs pl pu pk hR
  obtain⟨e1,e2,e3,t,ds,ed,q⟩:=hR
  subst e1 e2 e3 ed
  exact mF List.reverse List.reverse I' (r.same sm) sm rv hd hs pl pu pk (by decide) (fun its=>⟨List.reverse,PySem.W.krv_pick its.toArray,fun vs rr=>⟨Vals.rev rr,by rw[zA1];exact zAM _⟩⟩) (fun vs hds=>hds.rev) q
end
end PD
namespace PD
open PySem PySem.Spec PyProof.Rows L2
section
variable{prog:Program}{w:World}{A:Around}{E:Value->Shared->Prop}{s:Shared}{p q:Addr}{us ws:List Value}{Q:Value->Shared->Prop}
theorem EC(hp:s.heap.IsList p us.toArray)(hq:s.heap.IsList q ws.toArray)(hz:us.length+ws.length<=sizeLine)
  (h:Q (.ref s.heap.objs.size) {s with heap:=s.heap.push {cls:=.type "list", data:=.seq (us++ws).toArray} }):wpAny (model prog w) A (binaryOp .Add (.ref p) (.ref q)) Q E s:=by
 obtain⟨⟨c1,k1,x1,y1⟩,g1,g2,n1,g3⟩:=id hp
 obtain⟨⟨c2,k2,x2,y2⟩,f1,f2,n2,f3⟩:=id hq
 simp only at g2 g3 f2 f3
 subst g2 g3 f2 f3
 refine concat_meets ⟨_,g1,rfl⟩ ⟨_,f1,rfl⟩ noFill_list_add seq_list_add PySem.F.slot_list_add PySem.F.entry_list_add (PySem.F.args_list_add_2 _ _) (list_addW p q us.toArray ws.toArray n1 n2 k1 k2 y1 y2 (by simpa using hz)) ⟨g1,f1,?_⟩
 rw[show us.toArray++ws.toArray=(us++ws).toArray by simp]
 exact h
theorem ED(hp:IsTup s.heap p us.toArray)(hq:IsTup s.heap q ws.toArray)(hz:us.length+ws.length<=sizeLine)(h0:us=[]->Q (.ref q) s)(h1:ws=[]->Q (.ref p) s)
  (h:Q (.ref s.heap.objs.size) {s with heap:=s.heap.push {cls:=.type "tuple", data:=.seq (us++ws).toArray} }):wpAny (model prog w) A (binaryOp .Add (.ref p) (.ref q)) Q E s:=by
 obtain⟨⟨c1,k1,x1,y1⟩,g1,g2,n1,g3⟩:=id hp
 obtain⟨⟨c2,k2,x2,y2⟩,f1,f2,n2,f3⟩:=id hq
 simp only at g2 g3 f2 f3
 subst g2 g3 f2 f3
 by_cases hv:us=[]
 ·exact concat_meets ⟨_,g1,rfl⟩ ⟨_,f1,rfl⟩ noFill_tuple_add seq_tuple_add PySem.F.slot_tuple_add PySem.F.entry_tuple_add (PySem.F.args_tuple_add_2 _ _) (tuple_addW0 p q us.toArray ws.toArray n1 n2 k1 k2 y1 y2 (by simp[hv])) ⟨g1,f1,h0 hv⟩
 ·by_cases hw:ws=[]
  ·exact concat_meets ⟨_,g1,rfl⟩ ⟨_,f1,rfl⟩ noFill_tuple_add seq_tuple_add PySem.F.slot_tuple_add PySem.F.entry_tuple_add (PySem.F.args_tuple_add_2 _ _) (tuple_addW1 p q us.toArray ws.toArray n1 n2 k1 k2 y1 y2 (by simpa using hv) (by simp[hw])) ⟨g1,f1,h1 hw⟩
  ·refine concat_meets ⟨_,g1,rfl⟩ ⟨_,f1,rfl⟩ noFill_tuple_add seq_tuple_add PySem.F.slot_tuple_add PySem.F.entry_tuple_add (PySem.F.args_tuple_add_2 _ _) (tuple_addW2 p q us.toArray ws.toArray n1 n2 k1 k2 y1 y2 (by simpa using hv) (by simpa using hw) (by simpa using hz)) ⟨g1,f1,?_⟩
   rw[show us.toArray++ws.toArray=(us++ws).toArray by simp]
   exact h
end
section
variable{X:Cx}{pos:Pos}
def qX:RD2:=fun x y Q=>match x,y with
 |.int i,.int j=>Q (.int (i+j))
 |.tup xs,.tup ys=>xs.length+ys.length<=sizeLine/\Q (.tup (xs++ys))
 |.lst _ xs,.lst _ ys=>xs.length+ys.length<=sizeLine/\Q (.lst true (xs++ys))
 |_,_=>False
theorem rg(i j:Int)(Q:D->Prop):qX (.int i) (.int j) Q=Q (.int (i+j)):=rfl
theorem wV(t u:Bool)(xs ys:List D)(Q:D->Prop):qX (.lst t xs) (.lst u ys) Q=(xs.length+ys.length<=sizeLine/\Q (.lst true (xs++ys))):=rfl
theorem Bt{W:Own}{H:Hp}{t:Bool}{a:Addr}(tr:∀t a,W.bad t a->∃o,H a=some o)(h:H a=none):¬W.bad t a:=fun z=>by
 obtain⟨o,q⟩:=tr _ _ z
 rw[h]at q
 cases q
theorem aK:OpD X (binaryOp .Add) qX:=by
 intro pins s σ H W x y v u vv uu Q I tr rv ru hx hy q
 cases x<;>cases y<;>first|exact q.elim|skip
 ·exact Dj pins s σ H W _ _ v u vv uu Q I tr rv ru hx hy ⟨_,_,rfl,rfl,q⟩
 ·rename_i xs ys
  obtain⟨p,vs,e1,hq1,hd1⟩:=hx.tup_
  obtain⟨p',vs',e2,hq2,hd2⟩:=hy.tup_
  subst e1 e2
  cases rv
  cases ru
  obtain⟨its,r1,t1,_⟩:=I.tuple hq1.w
  obtain⟨its',r2,t2,_⟩:=I.tuple hq2.w
  obtain⟨hz,q⟩:=q
  have l1:=hd1.len
  have l2:=hd2.len
  have m1:=r1.length
  have m2:=r2.length
  have hz':its.length+its'.length<=sizeLine:=by omega
  have hf:H s.heap.objs.size=none:=I.hok.fresh (zAM _)
  refine ED t1 t2 hz' (fun e=>?_) (fun e=>?_) ?_
  ·subst e
   have:vs=[]:=zBj (by simpa using m1)
   subst this
   have:xs=[]:=zBj (by simpa using l1.symm)
   subst this
   exact⟨.ref p',H,_,I,rfl,ar.refl H,hy,q⟩
  ·subst e
   have:vs'=[]:=zBj (by simpa using m2)
   subst this
   have:ys=[]:=zBj (by simpa using l2.symm)
   subst this
   rw[zA5]at q
   exact⟨.ref p,H,_,I,rfl,ar.refl H,hx,q⟩
  ·exact⟨.ref s.heap.objs.size,L2.upd H s.heap.objs.size (.tup (vs++vs')),_,I.laid (t':=s.toks) (fun b u e=>zAF _ e) (zAM _) ⟨by rw[zAO];omega,its++its',r1.append r2,⟨_,zAU _ rfl,rfl,_,rfl⟩⟩,rfl,ar.upd hf,Den.tup (SqT.of aG) ((hd1.append hd2).same (ar.upd hf)),q⟩
 ·obtain⟨p,vs,e1,_,hq1,hd1⟩:=hx.lst_
  obtain⟨p',vs',e2,_,hq2,hd2⟩:=hy.lst_
  subst e1 e2
  cases rv
  cases ru
  obtain⟨its,r1,t1,_⟩:=I.list hq1
  obtain⟨its',r2,t2,_⟩:=I.list hq2
  obtain⟨hz,q⟩:=q
  have l1:=hd1.len
  have l2:=hd2.len
  have m1:=r1.length
  have m2:=r2.length
  have hf:H s.heap.objs.size=none:=I.hok.fresh (zAM _)
  refine EC t1.isList t2.isList (by omega) ?_
  exact⟨.ref s.heap.objs.size,L2.upd H s.heap.objs.size (.lst (vs++vs')),_,I.laid (t':=s.toks) (fun b u e=>zAF _ e) (zAM _) ⟨by rw[zAO];omega,its++its',0,r1.append r2,zAU _ rfl⟩,rfl,ar.upd hf,Den.lst (Bt tr hf) (.new aG (Inv.kfresh I)) ((hd1.append hd2).same (ar.upd hf)),q⟩
def okI(x:D):Prop:=okD x/\(pyD x).depth<64
def BP:RD2:=fun x y Q=>okI x/\okD y/\∃ys,(y=.tup ys∨∃ t,y=.lst t ys)/\Q (.bl (!ys.any fun z=>eqD z x))
theorem rn(x:D):∀ys:List D,(cq ys).any (fun y=>PyData.eqv y (pyD x))=ys.any fun z=>eqD z x
 |[]=>by rw[cq];rfl
 |y::r=>by rw[cq,List.any_cons,List.any_cons,rn x r];rfl
theorem uE{A:Around}{xs:List PyData}{d:PyData}(hd:d.depth<64)(hu:A.units+64<cLine):A.units+1+min (PyData.depthAll xs) d.depth<cLine:=by
 have:min (PyData.depthAll xs) d.depth<=d.depth:=Nat.min_le_right _ _
 omega
theorem zL(hu:X.A.units+64<cLine):OpD X (compareOp .NotIn) BP:=by
 intro pins s σ H W x y v u vv uu Q I _ rv ru hx hy q
 obtain⟨h1,h2,ys,e,q⟩:=q
 obtain⟨as,ra⟩:=dO I x v vv hx rv h1.1.1
 obtain⟨bs,rb⟩:=dO I y u uu hy ru h2.1
 have fin:DP X pins σ W H Q (.bool (!(cq ys).any fun y=>PyData.eqv y (pyD x))) s:=by
  rw[rn]
  exact⟨.bl _,H,_,I,rfl,ar.refl H,Den.bl _,q⟩
 rcases e with e|⟨t,e⟩
 ·subst e
  have sh:=h2.2
  rw[pyD]at rb sh
  exact SeqAt.notIn_tuple_reads rb ra (SeqAt.canLay_of_shaped sh) (SeqAt.canLay_of_shaped h1.1.2) (uE h1.2 hu) fin
 ·subst e
  have sh:=h2.2
  rw[pyD]at rb sh
  exact SeqAt.notIn_list_reads rb ra (SeqAt.canLay_of_shaped sh) (SeqAt.canLay_of_shaped h1.1.2) (uE h1.2 hu) fin
end
def PKD(X:Cx)(kws:List Keyword)(t:DA):Prop :=
 ∀ (pos:Pos) (pins:List (Addr×Obj)) (s:Shared) (σ:St) (H:Hp) (W:Own) (ρ:Ro) (Q:List D->Prop),Inv X pins σ H s->Rel X W H σ ρ->t ρ Q →
  wpAny (model X.prog X.w) X.A (evalAll ((backToKw pos (keywordEach kws X.env)).map (·.2))) (DAP X pins σ W H Q) X.xe s
section
variable{X:Cx}{k:Nat}{ps:List Str}{kn:Str}{sp:DSp}{x:Str}{p pos kpos:Pos}{e:Expr}{es:List Expr}{t tk:DA}{te:DE}{nm:Option Str}{kws:List Keyword}
def rL(sp:DSp)(t:DA):DA:=fun ρ Q=>t ρ fun ds=>sp (aX ds) (fun d=>∃ys,d=.lst true ys/\cI ys=true/\Q ys) fun _=>False
theorem A5 (h:Has X.prog X.w X.K X.mg X.base x k ps sp) (hr:bX k X.A) (ha:PAD X (e::es) t) (hg:Gl X x:=by rfl) (hdb:(x==("__debug__" : Str))=false:=by decide)
  (he:starEach (e::es) X.env=(false,eval e X.env)::starEach es X.env:=by rfl) (hpl:(backTo pos (starEach es X.env)).any (·.1)=false:=by rfl):PEF X (.Call (.Name x p) (e::es) [] pos) (rL sp t):=by
 obtain⟨f,fd,F,hm,hk,hb⟩:=h
 intro pins s σ H W ρ Q I rr h
 refine wpAny_Call_Name_kw (uJ I hg hm ?_ hdb)
 refine PySem.W.callWith_K (h₀:=X.base) I.ok.mod.kin hk (thn (ha pos pins s σ H W ρ _ I rr h) fun us s1 ⟨vs,H1,ds,I1,r,e1,hds,q⟩=>⟨I1.kIn,?_⟩) he hpl
 have rr1:=rr.same e1
 refine thn (ye (us:=us) (ds:=[]) (dvs:=[]) (Q:=fun v H'=>ar H1 H'/\∃ys,Den X.K (fun t a=>W.bad false a∨(t=true/\∃o,H1 a=some o)) H' (.lst true ys) v/\cI ys=true/\Q ys) F hr hb .nil AJ I1 r
  ⟨W.bad false,aX ds,_,fun _=>False,rr1.tab,rr1.tracked false,by rw[zA5];exact af.aM (fun _ _=>Own.bad_up) ds vs hds,q,fun d v H' e h1 h2=>?_,fun _ _ _ _ z=>z.elim⟩) fun u s2 ⟨v,H2,I2,r2,e2,ys,hd,nl,qy⟩=>?_
 ·obtain⟨ys,rfl,nl,qy⟩:=h2
  exact⟨e,ys,h1,nl,qy⟩
 ·obtain⟨a,ws,ev,np,sq,hw⟩:=hd.lstG_
  subst ev
  cases r2
  have hn:H1 a=none:=by
   cases z:H1 a with
   |none=>rfl
   |some o=>exact absurd (.inr ⟨rfl,o,z⟩) np
  exact⟨a,ws,H2,ys,rfl,I2,e1.trans e2,e1.free hn,(sq.2 rfl).2,(sq.2 rfl).1,af.nol ys ws nl hw,qy⟩
end
end PD
namespace PD
open PySem PySem.Spec PyProof.Rows L2
section
variable{κ:Type} [DecidableEq κ] {K:PySem.W.Frag}{P:Bool->Addr->Prop}{H:Hp}
end
def PPD(X:Cx)(pos:Pos)(keys:List (Option Expr))(values:List Expr)(t:Ro->(List (D×D)->Prop)->Prop):Prop :=
 ∀ (pins:List (Addr×Obj)) (s:Shared) (σ:St) (H:Hp) (W:Own) (ρ:Ro) (Q:List (D×D)->Prop),Inv X pins σ H s->Rel X W H σ ρ->t ρ Q →
  wpAny (model X.prog X.w) X.A (evalPairs (pairTrees keys values X.env pos)) (fun vs s'=>∃ps H' ds,Inv X pins σ H' s'/\VV ps vs/\ar H H'/\af X.K W.bad H' (ds.map (·.1)) (ps.map (·.1))/\af X.K W.bad H' (ds.map (·.2)) (ps.map (·.2))/\Q ds) X.xe s
section
variable{X:Cx}{pos:Pos}
end
end PD
namespace PD
open PySem PySem.Spec PyProof.Rows L2
theorem u6(t:Bool)(xs:List D)(R:List D->Prop):(∃k ds,ie (.lst t xs)=some (k,ds)/\R ds)=R xs:=by
 apply propext
 constructor
 ·rintro⟨_,_,e,q⟩;cases e;exact q
 ·intro q;exact⟨_,_,rfl,q⟩
theorem Ce{a b:D}{k1 k2:Bool}{xs ys:List D}(h1:ie a=some (k1,xs))(h2:ie b=some (k2,ys))(R:List D->Prop):(∃d1 d2 k1 k2 us vs,[a,b]=[d1,d2]/\ie d1=some (k1,us)/\ie d2=some (k2,vs)/\R (List.zipWith (fun x y=>D.tup [x,y]) us vs))=R (List.zipWith (fun x y=>D.tup [x,y]) xs ys):=by
 apply propext
 constructor
 ·rintro⟨_,_,_,_,_,_,e,e1,e2,q⟩
  cases e
  rw[h1]at e1
  rw[h2]at e2
  cases e1
  cases e2
  exact q
 ·intro q;exact⟨_,_,_,_,_,_,rfl,h1,h2,q⟩
theorem yE(t u:Bool)(xs ys:List D)(R:List D->Prop):(∃d1 d2 k1 k2 us vs,[D.lst t xs,D.lst u ys]=[d1,d2]/\ie d1=some (k1,us)/\ie d2=some (k2,vs)/\R (List.zipWith (fun x y=>D.tup [x,y]) us vs))=R (List.zipWith (fun x y=>D.tup [x,y]) xs ys):=Ce rfl rfl R
theorem uk(b:Bool):bI (.bl b)=true:=by rw[bI]<;>(intros;contradiction)
theorem rh(b:Int):bI (.int b)=true:=by rw[bI]<;>(intros;contradiction)
theorem rj:bI .non=true:=by rw[bI]<;>(intros;contradiction)
theorem Cm{ds:List D}{k:Int}{Q:D->Prop}(h0:0<=k)(h1:k<ds.length)(h:∀d∈ds,Q d):∃d,atI ds k=some d/\Q d:=by
 have e:k=((k.toNat:Nat):Int):=by omega
 have hl:k.toNat<ds.length:=by omega
 refine⟨ds[k.toNat],?_,h _ (zBL hl)⟩
 have q:atI ds ((k.toNat:Nat):Int)=some ds[k.toNat]:=bA (by simp)
 rw[<- e]at q
 exact q
theorem comp_map{α:Type}{wi:DA}{js:List Nat}{tc:DT}{te:DE}{ρ:Ro}{Q:D->Prop}(xs:List α)(f:α->D)(c:α->Bool)(g:α->D)(hw:∀R:List D->Prop,R (xs.map f)->wi ρ R)(hz:xs.length<=sizeLine)
  (hc:∀x∈xs,∀K:Bool->Prop,K (c x)->tc (some (.val (f x))::js.map (bg ρ)) K) (he:∀x∈xs,c x=true->∀K:D->Prop,K (g x)->te (some (.val (f x))::js.map (bg ρ)) K) (q:Q (.lst true ((xs.filter c).map g))):jd wi js tc te ρ Q:=by
 refine hw _ ⟨by rw[zAA];exact hz,fun j out=>out=((xs.take j).filter c).map g,by simp,fun j d out hd ho=>?_,fun out ho=>?_⟩
 ·rw[zAH]at hd
  cases ex:xs[j]? with
  |none=>rw[ex]at hd;cases hd
  |some x =>
   rw[ex]at hd
   cases hd
   have hm:x∈xs:=zAT ex
   have ht:xs.take (j+1)=xs.take j++[x]:=by rw[zBv,ex];rfl
   refine hc x hm _ ?_
   by_cases z:c x=true
   ·rw[if_pos z]
    refine he x hm z _ ?_
    show _=List.map g (List.filter c (List.take (j+1) xs))
    rw[ht,ho,List.filter_append,zA0]
    simp[z]
   ·rw[if_neg z]
    show _=List.map g (List.filter c (List.take (j+1) xs))
    rw[ht,ho,List.filter_append]
    simp[z]
 ·rw[zAA,zBp (zAM _)]at ho
  rw[ho];exact q
theorem uB{α:Type}{wi:DA}{g:DG}{tb:DS}{E:iB}{ρ:Ro}(xs:List α)(f:α->D)(Pv:List α->Ro->Prop)(hw:∀R:List D->Prop,R (xs.map f)->wi ρ R)(p0:Pv [] ρ)
  (turn:∀(done:List α) (x:α) (ρ':Ro),x∈xs->done.length<xs.length->Pv done ρ'->g (f x) ρ' fun ρ2=>tb {E with nx:=Pv (done++[x]),ct:=Pv (done++[x]),bk:=E.nx} ρ2) (fin:∀ρ',Pv xs ρ'->E.nx ρ'):vF wi g tb E ρ:=by
 refine hw _ ⟨fun j=>Pv (xs.take j),by simpa using p0,fun j d ρ' hd hp=>?_,fun ρ' hp=>fin ρ' (by rw[zAA,zBp (zAM _)]at hp;exact hp)⟩
 rw[zAH]at hd
 cases ex:xs[j]? with
 |none=>rw[ex]at hd;cases hd
 |some x =>
  rw[ex]at hd
  cases hd
  have hj:=(zAE.mp ex).1
  have ht:xs.take (j+1)=xs.take j++[x]:=by rw[zBv,ex];rfl
  show g (f x) ρ' fun ρ2=>tb {E with nx:=Pv (xs.take (j+1)),ct:=Pv (xs.take (j+1)),bk:=E.nx} ρ2
  rw[ht]
  exact turn (xs.take j) x ρ' (zAT ex) (by rw[zBF];omega) hp
end PD
namespace PD
open PySem PySem.Spec PyProof.Rows L2
structure OkN(n:Nat)(d:D):Prop where
 pl:plD d=true
 lay:(pyD d).canLay0=true
 dp:(pyD d).depth<=n
structure hJ(n:Nat)(ds:List D):Prop where
 pl:lA ds=true
 lay:PyData.canLayAll0 (cq ds)=true
 dp:PyData.depthAll (cq ds)<=n
theorem OkN.ok{n:Nat}{d:D}(h:OkN n d)(hn:n<=64:=by decide):okD d:=⟨h.pl,by
 unfold SeqAt.shaped
 rw[h.lay,decide_eq_true (zAw h.dp hn)]
 rfl⟩
theorem OkN.okI{n:Nat}{d:D}(h:OkN n d)(hn:n<64:=by decide):okI d:=⟨h.ok (zB0 hn),zCx h.dp hn⟩
theorem OkN.int(n:Nat)(i:Int):OkN n (.int i):=⟨by rw[plD]<;>(intros;contradiction),by rw[pyD,PyData.canLay0],by rw[pyD,PyData.depth];exact zAk _⟩
theorem hJ.nil(n:Nat):hJ n []:=⟨by rw[lA],by rw[cq,PyData.canLayAll0],by rw[cq,PyData.depthAll];exact zAk _⟩
theorem hJ.cons{n:Nat}{d:D}{ds:List D}(h:OkN n d)(h':hJ n ds):hJ n (d::ds):=⟨by rw[lA,h.pl,h'.pl];rfl,by rw[cq,PyData.canLayAll0,h.lay,h'.lay];rfl,by
 rw[cq,PyData.depthAll]
 exact Nat.max_le.mpr ⟨h.dp,h'.dp⟩⟩
theorem hJ.of{n:Nat}:∀{ds:List D},(∀d∈ds,OkN n d)->hJ n ds
 |[],_=>.nil n
 |d::r,h=>.cons (h d zAY) (hJ.of fun x hx=>h x (zAD _ hx))
theorem OkN.tup{n:Nat}{ds:List D}(h:hJ n ds):OkN (n+1) (.tup ds):=⟨by rw[plD];exact h.pl,by rw[pyD,PyData.canLay0];exact h.lay,by rw[pyD,PyData.depth];exact Nat.succ_le_succ h.dp⟩
theorem OkN.lst{n:Nat}{t:Bool}{ds:List D}(h:hJ n ds):OkN (n+1) (.lst t ds):=⟨by rw[plD];exact h.pl,by rw[pyD,PyData.canLay0];exact h.lay,by rw[pyD,PyData.depth];exact Nat.succ_le_succ h.dp⟩
theorem OkN.map{α:Type}{n:Nat}{t:Bool}{f:α->D}{xs:List α}(h:∀x,OkN n (f x)):OkN (n+1) (.lst t (xs.map f)):=OkN.lst (hJ.of fun d hd=>by
 obtain⟨x,_,rfl⟩:=zAQ.mp hd
 exact h x)
def gc(xs ys:List D):Bool:=PyData.eqvAll (cq xs) (cq ys)
theorem l5(t u:Bool)(xs ys:List D):eqD (.lst t xs) (.lst u ys)=gc xs ys:=by unfold eqD gc;rw[pyD,pyD,PyData.eqv]
theorem uw(xs ys:List D):eqD (.tup xs) (.tup ys)=gc xs ys:=by unfold eqD gc;rw[pyD,pyD,PyData.eqv]
theorem mT:gc [] []=true:=by unfold gc;rw[cq,PyData.eqvAll]
theorem gN(x y:D)(xs ys:List D):gc (x::xs) (y::ys)=(eqD x y && gc xs ys):=by unfold gc eqD;rw[cq,cq,PyData.eqvAll]
theorem Bf(y:D)(ys:List D):gc (y::ys) []=false:=by unfold gc;rw[cq,cq,PyData.eqvAll]
theorem Be(x y:Str):eqD (.str x) (.str y)=(x==y):=by unfold eqD;rw[pyD,pyD,PyData.eqv]
theorem Bc:eqD .non .non=true:=by unfold eqD;rw[pyD,PyData.eqv]
mutual
theorem iY:∀d:D,eqD d d=true
 |.non=>Bc
 |.bl b=>by rw[sd];simp
 |.int i=>by rw[iP];simp
 |.str x=>by rw[Be];simp
 |.exc _=>by unfold eqD;rw[pyD,PyData.eqv]
 |.obj _ _ _=>by unfold eqD;rw[pyD,PyData.eqv]
 |.dic=>by unfold eqD;rw[pyD,PyData.eqv]
 |.tup ds=>by rw[uw];exact je ds
 |.lst t ds=>by rw[l5];exact je ds
theorem je:∀ds:List D,gc ds ds=true
 |[]=>mT
 |d::r=>by rw[gN,iY d,je r];rfl
end
theorem se(t u:Bool)(xs:List D):eqD (.lst t xs) (.lst u xs)=true:=by rw[l5];exact je xs
end PD
namespace PD
open PySem PySem.Spec PyProof.Rows L2
section
variable{X:Cx}{a b c:Expr}{ta tb tc:DE}{pos:Pos}
def rM(ti:DE):DA:=fun ρ R=>ti ρ fun d=>∃ds,d=.tup ds/\R ds
theorem C5{tg iter:Expr}{ti:DE}(h:PED X iter ti):PID X tg iter (rM ti):=by
 refine PID.of (Dw h.pe) fun σ H W ρ R r hw=>⟨W,ρ,_,r,hw,fun v H1 d e1 hd q=>?_⟩
 obtain⟨ds,rfl,q⟩:=q
 obtain⟨p,vs,rfl,hq,hds⟩:=hd.tup_
 refine⟨p,rfl,⟨vs,hq.w⟩,e1,ds,?_,q⟩
 intro P' H' hT hL hX i
 have hq':=(hT p vs hq).w
 have hl:=hds.len
 refine⟨fun hi=>?_,fun x H3 y hi=>?_,fun hi=>⟨vs,hq',by omega⟩⟩
 ·obtain⟨v,hv,_⟩:=hds.get (i:=i) (d:=ds[i]) (by simp[hi])
  exact⟨vs,v,hq',hv⟩
 ·obtain⟨e3,y⟩:=y
  subst e3
  obtain⟨d,h1,h2⟩:=hds.bg (y vs hq')
  exact⟨ar.refl _,d,h1,Den.map hT hL hX d _ h2⟩
theorem xC(xs:List D)(R:List D->Prop):(∃ds,D.tup xs=.tup ds/\R ds)=R xs:=by
 apply propext
 constructor
 ·rintro⟨_,e,q⟩;cases e;exact q
 ·intro q;exact⟨xs,rfl,q⟩
variable{e:Expr}{te:DE}{lo hi:Option Expr}{tl th:DO}{p2:Pos}
theorem CF(he:PED X e te)(hl:PDO X lo tl)(hh:PDO X hi th):PED X (.Subscript e (.Slice lo hi none p2) pos) (y9 te tl th):=by
 intro pins s σ H W ρ Q I r h
 refine nj (st:=none) (ts:=cD) (R:=fun d l u k=>k=none/\∃ds,d=.tup ds/\¬(HT.sIx ds.length 0 l=0/\HT.sIx ds.length ds.length u=ds.length)/\Q (.tup (PD.cutD ds l u))) he hl hh cE I r ?_ ?_ (fun _ _=>⟨_,rfl⟩)
 ·have e1:(fun d=>tl ρ fun l=>th ρ fun u=>cD ρ fun k=>k=none/\∃ds,d=D.tup ds/\¬(HT.sIx ds.length 0 l=0/\HT.sIx ds.length ds.length u=ds.length)/\Q (.tup (PD.cutD ds l u)))=fun d=>tl ρ fun l=>th ρ fun u=>∃ds,d=D.tup ds/\¬(HT.sIx ds.length 0 l=0/\HT.sIx ds.length ds.length u=ds.length)/\Q (.tup (PD.cutD ds l u)):=by
   funext d
   congr 1
   funext l
   congr 1
   funext u
   exact propext ⟨fun z=>z.2,fun z=>⟨rfl,z⟩⟩
  rw[e1]
  exact h
 ·intro v vv vl vu vk l u k d sl H' s' I' sm rv hd hs pl pu pk hR
  obtain⟨ek,ds,ed,hw,q⟩:=hR
  subst ek ed
  cases pk
  obtain⟨p,vs,ev,hq,hds⟩:=hd.tup_
  subst ev
  obtain⟨T,id,h1,h2,h3⟩:=DN pins s' σ H' (.ref p) vv vl vu l u sl (fun v' H''=>ar H' H''/\∃d',Den X.K W.bad H'' d' v'/\Q d') I' rv hs pl pu ⟨p,vs,rfl,hq.w,by rw[hds.len];exact hw,fun q' hp=>⟨ar.upd hp,_,Den.tup (SqT.of aG) ((hds.cut l u).same (ar.upd hp)),q⟩⟩
  exact⟨T,id,h1,h2,thn h3 fun _ s2 ⟨w',H2,I2,r2,e2,d',hd',q'⟩=>⟨w',H2,d',I2,r2,sm.trans e2,hd',q'⟩⟩
end
section
variable{X:Cx}{pos:Pos}
end
end PD
namespace PD
open PySem PySem.Spec PyProof.Rows L2
section
variable{K:PySem.W.Frag}{P:Bool->Addr->Prop}{H:Hp}{B:Nat->Option Addr}
theorem az.len:∀{k:Nat} {xs:List LI} {vs:List V},az K P H B k xs vs->vs.length=xs.length
 |_,[],_,h=>by simp only[az]at h;subst h;rfl
 |k,.own ds::r,_,h=>by
  simp only[az]at h
  obtain⟨b,us,u,rfl,_,_,_,h4⟩:=h
  simp[az.len h4]
 |k,.val d::r,_,h=>by
  simp only[az]at h
  obtain⟨v,u,rfl,_,h2⟩:=h
  simp[az.len h2]
theorem az.get:∀{k:Nat} {xs:List LI} {vs:List V} {m:Nat} {ds:List D},az K P H B k xs vs->xs[m]?=some (.own ds)->∃b us,vs[m]?=some (.ref b)/\B (k+m)=some b/\H b=some (.lst us)/\af K P H ds us
 |_,[],_,_,_,_,e=>by simp at e
 |k,.own ds::r,_,0,_,h,e=>by
  simp only[az]at h
  obtain⟨b,us,u,rfl,h1,h2,h3,_⟩:=h
  simp at e;subst e
  exact⟨b,us,rfl,h1,h2,h3⟩
 |k,.val d::r,_,0,_,h,e=>by simp at e
 |k,.own ds::r,_,m+1,x,h,e=>by
  simp only[az]at h
  obtain⟨b,us,u,rfl,_,_,_,h4⟩:=h
  obtain⟨c,ws,e1,e2,e3⟩:=az.get (m:=m) (ds:=x) h4 (by simpa using e)
  exact⟨c,ws,by simpa using e1,by rw[<- e2];congr 1;omega,e3⟩
 |k,.val d::r,_,m+1,x,h,e=>by
  simp only[az]at h
  obtain⟨v,u,rfl,_,h2⟩:=h
  obtain⟨c,ws,e1,e2,e3⟩:=az.get (m:=m) (ds:=x) h2 (by simpa using e)
  exact⟨c,ws,by simpa using e1,by rw[<- e2];congr 1;omega,e3⟩
theorem az.put{H':Hp}{b:Addr}{us':List V}{ds':List D}(hd:∀ds vs,af K P H ds vs->af K P H' ds vs)(hb:H' b=some (.lst us'))(hn:af K P H' ds' us')(ho:∀k c,B k=some c->c≠b->∀us,H c=some (.lst us)->H' c=some (.lst us))(inj:∀k l c,B k=some c->B l=some c->k=l) :
  ∀ {k:Nat} {xs:List LI} {vs:List V} {m:Nat} {ds:List D},az K P H B k xs vs->xs[m]?=some (.own ds)->B (k+m)=some b->az K P H' B k (xs.set m (.own ds')) vs
 |_,[],_,_,_,_,e,_=>by simp at e
 |k,.own ds::r,_,0,_,h,_,hB=>by
  simp only[az]at h
  obtain⟨c,us,u,rfl,h1,h2,h3,h4⟩:=h
  rw[Nat.add_zero,h1]at hB
  cases hB
  simp only[zCW,az]
  refine⟨b,us',u,rfl,h1,hb,hn,?_⟩
  have rest:∀{l:Nat} {ys:List LI} {ws:List V},k<l->az K P H B l ys ws->az K P H' B l ys ws:=by
   intro l ys
   induction ys generalizing l with
   |nil=>intro ws _ z;simpa only[az]using z
   |cons y ys ih =>
    intro ws hl z
    cases y with
    |own es =>
     simp only[az]at z ⊢
     obtain⟨d,ps,q,rfl,z1,z2,z3,z4⟩:=z
     exact⟨d,ps,q,rfl,z1,ho l d z1 (fun e=>by subst e;have:=inj _ _ _ h1 z1;omega) ps z2,hd _ _ z3,ih (zBm hl) z4⟩
    |val e =>
     simp only[az]at z ⊢
     obtain⟨v,q,rfl,z1,z2⟩:=z
     have z3:=hd [e] [v] (af.one z1)
     simp only[af]at z3
     obtain⟨v',r',e',z4,_⟩:=z3
     cases e'
     exact⟨v,q,rfl,z4,ih (zBm hl) z2⟩
  exact rest (zAx k) h4
 |k,.val d::r,_,0,_,h,e,_=>by simp at e
 |k,.own ds::r,_,m+1,x,h,e,hB=>by
  simp only[az]at h
  obtain⟨c,us,u,rfl,h1,h2,h3,h4⟩:=h
  simp only[zCV,az]
  refine⟨c,us,u,rfl,h1,ho k c h1 (fun z=>by subst z;have:=inj _ _ _ h1 hB;omega) us h2,hd _ _ h3,az.put hd hb hn ho inj h4 (by simpa using e) (by rw[<- hB];congr 1;omega)⟩
 |k,.val d::r,_,m+1,x,h,e,hB=>by
  simp only[az]at h
  obtain⟨v,u,rfl,h1,h2⟩:=h
  simp only[zCV,az]
  have z3:=hd [d] [v] (af.one h1)
  simp only[af]at z3
  obtain⟨v',r',e',z4,_⟩:=z3
  cases e'
  exact⟨v,u,rfl,z4,az.put hd hb hn ho inj h2 (by simpa using e) (by rw[<- hB];congr 1;omega)⟩
end
section
variable{X:Cx}{pos:Pos}
def PFL(X:Cx)(i:Nat)(es:List Expr)(t:Ro->(List (List D)->Prop)->Prop):Prop :=
 ∀ (pos:Pos) (pins:List (Addr×Obj)) (s:Shared) (σ:St) (H:Hp) (W:Own) (ρ:Ro) (k:Nat) (Q:List (List D)->Prop),Inv X pins σ H s->Rel X W H σ ρ->i<σ.length->ρ[i]?=some none->t ρ Q →
  wpAny (model X.prog X.w) X.A (spliced (backTo pos (starEach es X.env))) (fun us s'=>∃vs H' W' xss,Inv X pins σ H' s'/\Vals vs us/\ar H H'/\Rel X W' H' σ ρ/\Fwd W H W' H'/\az X.K W'.bad H' (W'.sub σ.length i) k (xss.map LI.own) vs/\(∀l,l<k->W'.sub σ.length i l=W.sub σ.length i l)/\Q xss) X.xe s
def Own.softL(W:Own)(n i:Nat):Own:=⟨W.B,fun j=>if j % n=i then none else W.O j,fun b=>W.S b∨∃ j,j % n=i/\W.O j=some b⟩
def gH:LI->D
 |.own ds=>.lst false ds
 |.val d=>d
theorem Rel.softL{W:Own}{H:Hp}{σ:St}{ρ:Ro}{i:Nat}{xs:List LI}(r:Rel X W H σ ρ)(e:ρ[i]?=some (some (.ob (.ll xs)))):Rel X (W.softL σ.length i) H σ (ρ.set i (some (.val (.lst false (xs.map gH)))))/\∀b,W.bad true b->(W.softL σ.length i).bad true b:=by
 obtain⟨a,o,oa,sa,ha,ho⟩:=r.own i _ e
 cases ho with
 |ll hds =>
 rename_i vs
 have hl':i<ρ.length:=(zAE.mp e).1
 have il:i<σ.length:=(zAE.mp sa).1
 have im:i % σ.length=i:=zAg il
 have vm:∀j k,j<σ.length->vix σ.length j k % σ.length=j:=fun j k hj=>by unfold vix;rw[Nat.mul_add_mod,zAg hj]
 have hO:∀j b,(W.softL σ.length i).O j=some b->j % σ.length≠i/\W.O j=some b:=fun j b h=>by
  have h1:(if j % σ.length=i then none else W.O j)=some b:=h
  by_cases z:j % σ.length=i
  ·rw[if_pos z]at h1;cases h1
  ·rw[if_neg z]at h1;exact⟨z,h1⟩
 have low:∀t b,(W.softL σ.length i).bad t b->W.bad t b:=fun t b z=>by
  rcases z with z|⟨j,z⟩| ⟨z1,z2⟩
  ·exact .inl z
  ·exact .inr (.inl ⟨j,(hO j b z).2⟩)
  ·rcases z2 with z2|⟨j,_,z2⟩
   ·exact .inr (.inr ⟨z1,z2⟩)
   ·exact .inr (.inl ⟨j,z2⟩)
 have nb:∀j b,j % σ.length=i->W.O j=some b->¬(W.softL σ.length i).bad false b:=fun j b hj oj z=>by
  rcases z with z|⟨l,z⟩| ⟨z1,_⟩
  ·exact(r.kn j b oj).2.1.1 z
  ·exact(hO l b z).1 (by rw[r.inj l j b (hO l b z).2 oj];exact hj)
  ·cases z1
 have den:∀{k:Nat} {ys:List LI} {ws:List V},az X.K W.bad H (W.sub σ.length i) k ys ws->af X.K (W.softL σ.length i).bad H (ys.map gH) ws:=by
  intro k ys
  induction ys generalizing k with
  |nil=>intro ws z;simp only[az]at z;subst z;exact af.nil
  |cons y ys ih =>
   intro ws z
   cases y with
   |own es =>
    simp only[az]at z
    obtain⟨b,us,u,rfl,z1,z2,z3,z4⟩:=z
    exact af.cons (Den.lst (nb _ b (vm i k il) z1) (.any (SqL.of z2)) (z3.fewer low)) (ih z4)
   |val d =>
    simp only[az]at z
    obtain⟨v,u,rfl,z1,z2⟩:=z
    exact af.cons (z1.fewer low) (ih z2)
 refine⟨⟨fun j d h=>?_,fun j x h=>?_,fun j k b h1 h2=>r.inj j k b (hO j b h1).2 (hO k b h2).2,fun j b h=>?_,fun j b h=>r.ke j b (hO j b h).2,r.bt,fun b h=>?_,r.ent,r.tab⟩,fun b z=>?_⟩
 ·by_cases hj:j=i
  ·subst hj
   rw[zAV hl']at h
   cases h
   exact⟨.ref a,sa,Den.lst (nb j a im oa) (.any (SqL.of ha)) (den hds)⟩
  ·rw[zAN (Ne.symm hj)]at h
   obtain⟨w,h1,h2⟩:=r.val j d h
   exact⟨w,h1,h2.fewer low⟩
 ·by_cases hj:j=i
  ·subst hj
   rw[zAV hl']at h;cases h
  ·rw[zAN (Ne.symm hj)]at h
   obtain⟨b,ws,h1,h2,h3,h4⟩:=r.own j x h
   have jl:j<σ.length:=(zAE.mp h2).1
   refine⟨b,ws,?_,h2,h3,h4.fewer low fun k c q=>?_⟩
   ·show(if j % σ.length=i then none else W.O j)=_
    rw[if_neg (by rw[zAg jl];exact hj)]
    exact h1
   ·show(if vix σ.length j k % σ.length=i then none else W.O (vix σ.length j k))=_
    rw[if_neg (by rw[vm j k jl];exact hj)]
    exact q
 ·obtain⟨k1,⟨k2,k3⟩,k4⟩:=r.kn j b (hO j b h).2
  refine⟨k1,⟨k2,fun z=>z.elim k3 fun⟨l,l1,l2⟩=>?_⟩,k4⟩
  exact(hO j b h).1 (by rw[r.inj j l b (hO j b h).2 l2];exact l1)
 ·rcases h with h|⟨j,_,h⟩
  ·exact r.st b h
  ·obtain⟨_,_,o,q,_⟩:=r.kn j b h
   exact⟨o,q⟩
 ·rcases z with z|⟨j,z⟩| ⟨_,z⟩
  ·exact .inl z
  ·by_cases hj:j % σ.length=i
   ·exact .inr (.inr ⟨rfl,.inr ⟨j,hj,z⟩⟩)
   ·exact .inr (.inl ⟨j,by show(if j % σ.length=i then none else W.O j)=_;rw[if_neg hj];exact z⟩)
  ·exact .inr (.inr ⟨rfl,.inl z⟩)
variable{e:Expr}{te:DE}{tt:DT}{ta:DA}
def rO(i:Nat)(t:DE):DE:=fun ρ Q=>∃xs,ρ[i]?=some (some (.ob (.ll xs)))/\t (ρ.set i (some (.val (.lst false (xs.map gH))))) fun d=>bI d=true/\Q d
def oW(i:Nat)(t:DT):DT:=fun ρ Q=>∃xs,ρ[i]?=some (some (.ob (.ll xs)))/\t (ρ.set i (some (.val (.lst false (xs.map gH))))) Q
theorem zh(i:Nat)(h:PED X e te):PED X e (rO i te):=by
 intro pins s σ H W ρ Q I r hw
 obtain⟨xs,eo,hw⟩:=hw
 obtain⟨r',up⟩:=r.softL eo
 exact thn (h pins s σ H _ _ _ I r' hw) fun u s1 ⟨v,H',d,I1,rv,e1,hd,al,q⟩=>⟨v,H',d,I1,rv,e1,Den.hard up d v al hd,q⟩
theorem rX(i:Nat)(h:PTD X e tt):PTD X e (oW i tt):=by
 intro pins s σ H W ρ Q I r hw
 obtain⟨xs,eo,hw⟩:=hw
 obtain⟨r',up⟩:=r.softL eo
 exact h pins s σ H _ _ _ I r' hw
theorem Rel.mutIn{W:Own}{H:Hp}{σ:St}{ρ:Ro}{i m:Nat}{b:Addr}{xs:List LI}{ds ds':List D}{us us':List V}(r:Rel X W H σ ρ)(eo:ρ[i]?=some (some (.ob (.ll xs))))(hm:xs[m]?=some (.own ds))(ob:W.sub σ.length i m=some b)(hb:H b=some (.lst us))(hd:af X.K W.bad H ds' us') :
  Rel X W (L2.upd H b (.lst us')) σ (ρ.set i (some (.ob (.ll (xs.set m (.own ds'))))))/\Fwd W H W (L2.upd H b (.lst us')):=by
 have badB:∀t,W.bad t b:=fun _=>.inr (.inl ⟨_,ob⟩)
 have noT:∀c ws,SqT X.K H c ws->SqT X.K (L2.upd H b (.lst us')) c ws:=fun c ws q=>by
  show L2.upd _ _ _ _=_
  rw[ay (mi q hb (by intro z;cases z))]
  exact q
 have noL:∀t c ws,¬W.bad t c->SqG X.K H t c ws->¬W.bad t c/\SqG X.K (L2.upd H b (.lst us')) t c ws:=fun t c ws n q=>by
  have hne:c≠b:=fun e=>n (e ▸ badB t)
  refine⟨n,?_,fun z=>⟨by rw[ay hne];exact(q.2 z).1,(q.2 z).2⟩⟩
  rcases q.1 with(q|⟨u,q⟩)|q
  ·exact .inl (.inl (by rw[ay hne];exact q))
  ·exact .inl (.inr ⟨u,by rw[ay hne];exact q⟩)
  ·exact .inr q
 have noX:∀c u,Sol u->H c=some u->L2.upd H b (.lst us') c=some u:=fun c u n q=>by rw[ay (mi q hb (by intro z;subst z;exact n))];exact q
 have hl':i<ρ.length:=(zAE.mp eo).1
 obtain⟨a,o,oa,sa,ha,ho⟩:=r.own i _ eo
 have il:i<σ.length:=(zAE.mp sa).1
 have tr:∀c u,H c=some u->∃u',L2.upd H b (.lst us') c=some u':=fun c u q=>by
  by_cases hcb:c=b
  ·subst hcb;exact⟨_,aG⟩
  ·exact⟨u,by rw[ay hcb];exact q⟩
 refine⟨⟨fun j d h=>?_,fun j y h=>?_,r.inj,fun j c hc=>?_,r.ke,fun c hc=>let ⟨u,q⟩:=r.bt c hc;tr c u q,fun c hc=>let ⟨u,q⟩:=r.st c hc;tr c u q,r.ent.ins (r.ke _ b ob) hb True.intro True.intro,r.tab.upd True.intro (.inr ⟨_,hb,(fun _ z=>by cases z),True.intro⟩)⟩,Fwd.upd ob hb True.intro True.intro⟩
 ·by_cases hj:j=i
  ·subst hj
   rw[zAV hl']at h;cases h
  ·rw[zAN (Ne.symm hj)]at h
   obtain⟨w,h1,h2⟩:=r.val j d h
   exact⟨w,h1,Den.map noT noL noX d w h2⟩
 ·by_cases hj:j=i
  ·subst hj
   rw[zAV hl']at h
   cases h
   have hab:a≠b:=fun e=>gY il (r.inj _ _ b ob (by rw[<- e];exact oa))
   refine⟨a,o,oa,sa,by rw[ay hab];exact ha,?_⟩
   cases ho with
   |ll hds =>
   exact .ll (az.put (af.map noT noL noX) aG (af.map noT noL noX _ _ hd) (fun k c q n us z=>by rw[ay n];exact z) (fun k l c q1 q2=>(vc il il (r.inj _ _ c q1 q2)).2) hds hm (by rw[zA6];exact ob))
  ·rw[zAN (Ne.symm hj)]at h
   obtain⟨c,ws,h1,h2,h3,h4⟩:=r.own j y h
   have jl:j<σ.length:=(zAE.mp h2).1
   have hne:c≠b:=fun e=>gY jl (r.inj _ _ b ob (by rw[<- e];exact h1))
   exact⟨c,ws,h1,h2,by rw[ay hne];exact h3,h4.map (af.map noT noL noX) fun k f q=>⟨q,fun _ z=>by rw[ay (fun e=>hj (vc jl il (r.inj _ _ b (by rw[<- e];exact q) ob)).1)];exact z⟩⟩
 ·obtain⟨k1,k2,ws,k3,k4⟩:=r.kn j c hc
  refine⟨k1,k2,?_⟩
  by_cases hcb:c=b
  ·subst hcb;exact⟨_,aG,True.intro⟩
  ·exact⟨ws,by rw[ay hcb];exact k3,k4⟩
end
theorem xo(xs:List LI)(r:Ro)(R:List LI->Prop):(∃ys,(some (Sl.ob (.ll xs))::r)[0]?=some (some (Sl.ob (.ll ys)))/\R ys)=R xs:=by
 apply propext
 constructor
 ·rintro⟨_,e,q⟩
  have e':some (some (Sl.ob (.ll xs)))=some (some (Sl.ob (.ll _))):=e
  cases e'
  exact q
 ·intro q;exact⟨xs,rfl,q⟩
theorem xp(n:Nat)(x:Option Sl)(r:Ro)(R:List LI->Prop):(∃ys,(x::r)[n+1]?=some (some (Sl.ob (.ll ys)))/\R ys)=(∃ys,r[n]?=some (some (Sl.ob (.ll ys)))/\R ys):=rfl
end PD
namespace PD
open PySem PySem.Spec PyProof.Rows L2
section
variable{X:Cx}{pins:List (Addr×Obj)}{σ:St}{H:Hp}{s:Shared}{sc:Scope}{ns:List Str}{js:List Nat}{x:Str}
end
section
variable{X:Cx}{pins:List (Addr×Obj)}{σ:St}{H:Hp}
structure EZ(X:Cx)(pins:List (Addr×Obj))(H:Hp)(s:Shared)(l f S I:Addr)(fo:Obj)(j:Nat)(vb:Value)(k:Int):Prop where
 fo:s.heap.get? f=some fo
 ff:dI X pins H f
 so:∃tb n,s.heap.get? S=some (seqObj "list" #[vb,.int k tb] n)
 sf:dI X pins H S
 io:s.heap.IsListIter I l j
 jf:dI X pins H I
 fS:f≠S
 fI:f≠I
 SI:S≠I
 lI:l≠I
end
section
variable{X:Cx}{sc:Scope}{ns:List Str}{js:List Nat}{x:Str}{pos:Pos}
end
end PD
namespace PD
open PySem PySem.Spec PyProof.Rows L2
section
variable{X:Cx}{pos:Pos}
def oS(i:Nat)(te:DE):DS:=fun E ρ=>∃ds,ρ[i]?=some (some (.own ds))/\te ρ fun d=>∃xs,d=.lst true xs/\ds.length+xs.length<=sizeLine/\E.nx (ρ.set i (some (.own (ds++xs))))
theorem qg{x:Str}{e:Expr}{te:DE}{px apos cpos:Pos}(i:Nat)(he:PED X e te)(hi:X.N[i]?=some x:=by rfl)(hv:Vis X.env.scope x:=by first|exact Or.inl rfl|exact Or.inr (Or.inl rfl)|exact Or.inr (Or.inr rfl))
  (hd:(x==("__debug__" : Str))=false:=by decide) (hcd:(x==("__classdict__" : Str))=false:=by decide)
  (hbase:attributeBase (.Name x px) "extend" X.env (eval (.Name x px) X.env)=eval (.Name x px) X.env:=by rfl)
  (hfew:((backTo cpos (starEach [e] X.env)).all (fun x=>!x.1) && (backToKw cpos (keywordEach [] X.env)).all (fun x=>x.1.isSome) && decide ([e].length+([]:List Keyword).length+(if([]:List Keyword).isEmpty then 0 else 1)<30))=true:=by rfl)
  (hline:(apos.endLine==cpos.line)=true:=by rfl) (hst:starEach [e] X.env=(false,eval e X.env)::starEach [] X.env:=by rfl) (hplain:(backTo cpos (starEach [] X.env)).any (·.1)=false:=by rfl)
  (hs:swapsWith (.Call (.Attribute (.Name x px) "extend" apos) [e] [] cpos) none pos.line X.env=pure false:=by rfl) :
  PSD X (.Expr (.Call (.Attribute (.Name x px) "extend" apos) [e] [] cpos) pos) (oS i te):=by
 have P0:=iQ (pos:=pos) (og PySem.F.plainAttrs_list PySem.F.slot_list_extend PySem.F.type_list_extend xF (gQ hi hv hd hcd) (fz he.pe i6 hst) hbase hfew hline hst hplain) hs
 refine PSD.of P0 fun σ H W ρ E r hl h=>?_
 obtain⟨ds,eo,h⟩:=h
 obtain⟨a,vs,oa,sa,ha,hds⟩:=r.ownL i ds eo
 refine⟨.ref a,sa,.inl ⟨rfl,_,SqL.of ha⟩,W,ρ,_,r,h,fun v H' d e1 hd' q=>?_⟩
 obtain⟨xs,rfl,z,q⟩:=q
 obtain⟨b,us,rfl,_,hb,hxs⟩:∃b us,v=.ref b/\¬W.bad true b/\SqG X.K H' true b us/\af X.K W.bad H' xs us:=by simpa only[Den]using hd'
 have ha':=e1 _ _ ha
 have r':=r.same e1
 have hds':=hds.same e1
 refine⟨a,b,vs,us,rfl,rfl,ha',(hb.2 rfl).1,by rw[hds'.len,hxs.len];exact z,?_⟩
 obtain⟨r2,f2⟩:=r'.mut (vs':=vs++us) eo oa sa ha' (hds'.append hxs)
 exact⟨W,_,(Fwd.same e1).trans f2,r2,q⟩
end
section
variable{prog:Program}{w:World}{A:Around}{E:Value->Shared->Prop}{s:Shared}
end
section
variable{X:Cx}{pos:Pos}
def PEK(X:Cx)(e:Expr)(t:DE):Prop :=
 ∀ (pins:List (Addr×Obj)) (s:Shared) (σ:St) (H:Hp) (W:Own) (ρ:Ro) (Q:D->Prop),Inv X pins σ H s->Rel X W H σ ρ->t ρ Q →
  wpAny (model X.prog X.w) X.A (eval e X.env) (fun u s'=>∃b vs H' ds,u=.ref b/\Inv X pins σ H' s'/\ar H H'/\H' b=some (.tup vs)/\af X.K W.bad H' ds vs/\Q (.tup ds)) X.xe s
end
theorem AB(ys:List D)(R:List D->Prop):(∃xs,D.lst true ys=.lst true xs/\R xs)=R ys:=by
 apply propext
 constructor
 ·rintro⟨xs,e,q⟩
  cases e
  exact q
 ·intro q;exact⟨ys,rfl,q⟩
theorem bZ{α:Type}{wi:DA}{g:DG}{tb:DS}{E:iB}{ρ:Ro}(xs:List α)(f:α->D)(Pv:Nat->Ro->Prop)(hw:∀R:List D->Prop,R (xs.map f)->wi ρ R)(p0:Pv 0 ρ)
  (turn:∀(j:Nat) (x:α) (ρ':Ro),xs[j]?=some x->Pv j ρ'->g (f x) ρ' fun ρ2=>tb {E with nx:=Pv (j+1),ct:=Pv (j+1),bk:=E.nx} ρ2) (fin:∀ρ',Pv xs.length ρ'->E.nx ρ'):vF wi g tb E ρ:=by
 refine hw _ ⟨Pv,p0,fun j d ρ' hd hp=>?_,fun ρ' hp=>fin ρ' (by rw[zAA]at hp;exact hp)⟩
 rw[zAH]at hd
 cases ex:xs[j]? with
 |none=>rw[ex]at hd;cases hd
 |some x =>
  rw[ex]at hd
  cases hd
  exact turn j x ρ' ex hp
end PD
namespace PD
open PySem PySem.Spec PyProof.Rows L2
section
variable{prog:Program}{w:World}{A:Around}{E:Value->Shared->Prop}{s:Shared}{d v it:Addr}{us:List Value}{ep i:Nat}
end
end PD
namespace PD
open PySem PySem.Spec PyProof.Rows L2
section
variable{X:Cx}{pos:Pos}
end
section
variable{X:Cx}{pos:Pos}
end
end PD
namespace PD
open PySem PySem.Spec PyProof.Rows L2
inductive KPs (K:PySem.W.Frag) (P:Bool->Addr->Prop) (H:Hp):List (List D×D)->List (Value×Value)->Prop
 |nil:KPs K P H [] []
 |cons {b:Addr} {vs:List V} {ks:List D} {d:D} {x:V} {u:Value} {ds:List (List D×D)} {ws:List (Value×Value)} (hb:H b=some (.tup vs)) (hk:af K P H ks vs) (hd:Den K P H d x) (r:RelV x u) (t:KPs K P H ds ws):KPs K P H ((ks,d)::ds) ((.ref b,u)::ws)
def PPK(X:Cx)(pos:Pos)(keys:List (Option Expr))(values:List Expr)(t:Ro->(List (List D×D)->Prop)->Prop):Prop :=
 ∀ (pins:List (Addr×Obj)) (s:Shared) (σ:St) (H:Hp) (W:Own) (ρ:Ro) (Q:List (List D×D)->Prop),Inv X pins σ H s->Rel X W H σ ρ->t ρ Q →
  wpAny (model X.prog X.w) X.A (evalPairs (pairTrees keys values X.env pos)) (fun ws s'=>∃H' ds,Inv X pins σ H' s'/\ar H H'/\KPs X.K W.bad H' ds ws/\Q ds) X.xe s
section
variable{X:Cx}{pos:Pos}
inductive KPi (H:Hp):List (List Key×Int)->List (Value×Value)->Prop
 |nil:KPi H [] []
 |cons {b:Addr} {k:List Key} {n:Int} {u:Value} {ds:List (List Key×Int)} {ws:List (Value×Value)} (hb:H b=some (.tup (k.map kV))) (r:RelV (.int n) u) (t:KPi H ds ws):KPi H ((k,n)::ds) ((.ref b,u)::ws)
end
section
variable{X:Cx}{pos:Pos}
theorem AZ (hc:X.calm=true):eS X (.builtin "max") (fun ds Q=>(∃i j:Int,ds=[.int i,.int j]/\Q (.int (max i j)))∨∃ (t:Bool) (ns:List Int),ds=[.lst t (ns.map D.int)]/\0<ns.length/\∀m,m∈ns->(∀n∈ns,n<=m)->Q (.int m)):=by
 intro pins s σ H W ds vs us Q I tr r hd q
 rcases q with⟨i,j,e,q⟩| ⟨t,ns,e,hne,q⟩
 ·exact Cs hc pins s σ H W ds vs us Q I tr r hd ⟨i,j,e,q⟩
 subst e
 obtain⟨v,rfl,h1⟩:=lX hd
 obtain⟨a,ws,ev,_,hq,hw⟩:=h1.lst_
 subst ev
 cases r with
 |cons r1 rr =>
  cases rr
  cases r1
  obtain⟨its,rv,pl,_⟩:=I.list hq
  rw[cR hw]at rv
  have ia:=intsAre_of rv
  obtain⟨xs,ex⟩:=ia.allInts.items
  have hl:s.heap.IsList a (intItems xs):=by rw[<- ex];exact pl.isList
  have hns:ns=xs.toList.map (·.1):=by rw[<- ia.numsOf,<- nums_intItems,<- ex]
  have hsz:0<xs.size:=by rw[hns,zAA,zAZ]at hne;exact hne
  refine max_intList (I.ok.hd hc) hl hsz fun y h' tk hy kp=>?_
  obtain⟨tt,rfl⟩:=intItems_at hy
  obtain⟨g1,g2⟩:=argBest_gt (numAt xs) (xs.size - 1)
  have at_:∀j,j<xs.size->xs.toList.map (·.1) ≠ []->numAt xs j∈ns:=fun j hj _=>by
   rw[hns,numAt_eq]
   have:(xs.toList.map (·.1))[j]?=some ((xs.toList.map (·.1)).getD j 0):=by simp[hj]
   exact zAT this
  refine⟨.int _,H,_,I.kept kp,⟨_,rfl⟩,ar.refl H,Den.int _,q _ (at_ _ (by omega) (by rw[<- hns];exact zBg hne)) fun n hn=>?_⟩
  rw[hns]at hn
  obtain⟨j,hj,ej⟩:=zBM hn
  have:numAt xs j=n:=by rw[numAt_eq,<- ej];simp only[zAG,zAB hj,zB9]
  rw[<- this]
  rw[zAA,zAZ]at hj
  exact g2 j (by omega)
end
end PD
namespace PD
open PySem PySem.Spec PyProof.Rows L2
section
variable{X:Cx}{pos:Pos}
end
end PD
namespace PZ
open PySem PySem.Spec PyProof.Rows
abbrev Av (h:Heap) (T:Addr) (a b c:Value):Prop:=h.get? T=some {cls:=.type "tuple", data:=.seq #[a,b,c]}
structure Ap3(z TI TO i1 i2 i3:Addr):Prop where
 a1:TI≠z
 a2:TO≠z
 a3:i1≠z
 a4:i2≠z
 a5:i3≠z
 b1:TI≠TO
 b2:TI≠i1
 b3:TI≠i2
 b4:TI≠i3
 c1:TO≠i1
 c2:TO≠i2
 c3:TO≠i3
 d1:i1≠i2
 d2:i1≠i3
 d3:i2≠i3
structure E2(z TO i1 i2 i3 l:Addr):Prop where
 c1:l≠z
 c2:l≠TO
 c3:l≠i1
 c4:l≠i2
 c5:l≠i3
structure E4(z TI TO i1 i2 i3 l1 l2 l3:Addr)(i:Nat)(h:Heap):Prop where
 z:IsZip h z TI TO .none
 ti:Av h TI (.ref i1) (.ref i2) (.ref i3)
 to:∃a b c,Av h TO a b c
 s1:SIt true h i1 l1 i
 s2:SIt true h i2 l2 i
 s3:SIt true h i3 l3 i
section
variable{prog:Program}{w:World}{A:Around}{E:Value->Shared->Prop}{s:Shared}{z TI TO i1 i2 i3 l1 l2 l3:Addr}{i:Nat}{xs ys zs:Array Value}
end
section
variable{prog:Program}{w:World}{A:Around}{E:Value->Shared->Prop}{s:Shared}{l1 l2 l3:Addr}{xs ys zs:Array Value}
end
end PZ
namespace PD
open PySem PySem.Spec PyProof.Rows L2 PZ
section
variable{X:Cx}
def tri(xs ys zs:List D):List D:=List.zipWith (fun f z=>f z) (List.zipWith (fun x y z=>D.tup [x,y,z]) xs ys) zs
end
end PD
namespace PD
open PySem PySem.Spec PyProof.Rows L2
section
variable{X:Cx}{pos:Pos}
end
end PD
namespace ST
open PySem PySem.SetTable
def S:Nat->Nat
 |0=>0
 |n+1=>5*S n+1
theorem nJ:∀n,5 ^ n=4*S n+1
 |0=>rfl
 |n+1=>by rw[zBN,nJ n];show _=4*(5*S n+1)+1;omega
theorem vp(m:Nat):∀n,S (n+m)=5 ^ m*S n+S m
 |0=>by simp[S]
 |n+1=>by
  rw[show n+1+m=(n+m)+1 by omega]
  show 5*S (n+m)+1=5 ^ m*(5*S n+1)+S m
  rw[vp m n,nJ m]
  grind
theorem Aw:∀k,∃o,S (2 ^ k)=2 ^ k*(2*o+1)
 |0=>⟨0,rfl⟩
 |k+1=>by
  obtain⟨o,e⟩:=Aw k
  refine⟨o+(2*o+1)*(2 ^ k*(2*o+1)),?_⟩
  rw[show 2 ^ (k+1)=2 ^ k+2 ^ k by rw[zBN];omega,vp,nJ,e]
  grind
theorem round:∀(k x e:Nat),e<2 ^ k->∃n,n<2 ^ k/\(5 ^ n*x+S n) % 2 ^ k=e
 |0,x,e,h=>⟨0,by decide,by omega⟩
 |k+1,x,e,h=>by
  obtain⟨n,hn,q⟩:=round k x (e % 2 ^ k) (zB1 _ (Nat.two_pow_pos k))
  obtain⟨o,eo⟩:=Aw k
  have hp:=Nat.two_pow_pos k
  have h2:2 ^ (k+1)=2*2 ^ k:=by rw[zBN];omega
  generalize hv:5 ^ n*x+S n=v at q
  have nxt:5 ^ (n+2 ^ k)*x+S (n+2 ^ k)=v+2 ^ k+2 ^ (k+1)*(o+2*(2*o+1)*v):=by
   rw[vp,Nat.pow_add,nJ (2 ^ k),eo,h2,<- hv]
   grind
  generalize 2 ^ k=p at *
  rw[h2]at h ⊢
  by_cases z:v % (2*p)=e
  ·exact⟨n,by omega,by rw[hv];exact z⟩
  ·refine⟨n+p,by omega,?_⟩
   rw[nxt,h2,Nat.add_mul_mod_self_left]
   have a1:v % (2*p) % p=v % p:=Nat.mod_mul_left_mod v 2 p
   have l1:v % (2*p)<2*p:=zB1 _ (by omega)
   rw[Nat.add_mod,zAg (show p<2*p by omega)]
   generalize v % (2*p)=u at *
   have eu:u=u % p∨u=u % p+p:=by
    by_cases c:u<p
    ·left;rw[zAg c]
    ·right
     have:u % p=u - p:=by rw[Nat.mod_eq_sub_mod (by omega),zAg (by omega)]
     omega
   have ee:e=e % p∨e=e % p+p:=by
    by_cases c:e<p
    ·left;rw[zAg c]
    ·right
     have:e % p=e - p:=by rw[Nat.mod_eq_sub_mod (by omega),zAg (by omega)]
     omega
   have lt:e % p<p:=zB1 _ hp
   rcases eu with eu|eu<;>rcases ee with ee|ee
   ·omega
   ·rw[zAg (by omega)];omega
   ·rw[Nat.mod_eq_sub_mod (by omega),zAg (by omega)];omega
   ·omega
def runs(mask:Nat):Nat->Nat->Nat->List Nat
 |0,_,_=>[]
 |c+1,i,pt=>List.range' i (runEnd mask i+1 - i)++runs mask c (leap mask i pt).1 (leap mask i pt).2
theorem lC(mask c i pt:Nat):runs mask (c+1) i pt=List.range' i (runEnd mask i+1 - i)++runs mask c (leap mask i pt).1 (leap mask i pt).2:=rfl
def cg(mask:Nat)(h:Int):List Nat:=runs mask (turns mask) (bits h % (mask+1)) (bits h)
theorem gR{mask i:Nat}(h:i<=mask):i<=runEnd mask i/\runEnd mask i<=mask/\runEnd mask i<=i+9:=by unfold runEnd;split<;>omega
theorem md(mask i pt:Nat):(leap mask i pt).1<=mask:=by
 have:(leap mask i pt).1<mask+1:=zB1 _ (zBC _)
 omega
theorem u3{mask:Nat}:∀{c i pt:Nat},i<=mask->∀x∈runs mask c i pt,x<=mask
 |0,_,_,_,x,h=>by cases h
 |c+1,i,pt,hi,x,h=>by
  rcases zAI.mp h with z|z
  ·rw[zBI]at z
   have:=gR hi
   omega
  ·exact u3 (md _ _ _) x z
theorem tE{mask:Nat}:∀{c i pt:Nat},i<=mask->(runs mask c i pt).length<=10*c
 |0,_,_,_=>zAM _
 |c+1,i,pt,hi=>by
  have ih:=tE (c:=c) (pt:=(leap mask i pt).2) (md mask i pt)
  have:=gR hi
  unfold runs
  rw[zAO,zAj]
  omega
def cH(mask:Nat):Nat->Nat×Nat->Nat×Nat
 |0,p=>p
 |n+1,p=>cH mask n (leap mask p.1 p.2)
theorem om{mask:Nat}:∀{n c i pt:Nat},∀x∈runs mask c (cH mask n (i,pt)).1 (cH mask n (i,pt)).2,x∈runs mask (n+c) i pt
 |0,c,i,pt,x,h=>by rw[zA6];exact h
 |n+1,c,i,pt,x,h=>by
  have:=om (n:=n) (c:=c) (i:=(leap mask i pt).1) (pt:=(leap mask i pt).2) x h
  rw[show n+1+c=(n+c)+1 by omega]
  exact zAR _ this
theorem yf{mask c i pt:Nat}(h:i<=mask):i∈runs mask (c+1) i pt:=by
 refine zAu _ ?_
 rw[zBI]
 have:=gR h
 omega
theorem sH(mask:Nat):∀(n:Nat) (p:Nat×Nat),(cH mask n p).2=p.2 / 32 ^ n
 |0,p=>by simp[cH]
 |n+1,p=>by
  show(cH mask n (leap mask p.1 p.2)).2=_
  rw[sH mask n]
  show p.2 / 32 / 32 ^ n=_
  rw[Nat.div_div_eq_div_mul,zBN,Nat.mul_comm]
theorem nY{mask k:Nat}(hk:mask+1=2 ^ k):∀(n i:Nat),i<=mask->(cH mask n (i,0)).1=(5 ^ n*i+S n) % 2 ^ k
 |0,i,h=>by
  show i=_
  rw[Nat.pow_zero,zCp]
  show i=(i+0) % 2 ^ k
  rw[Nat.add_zero,zAg (by omega)]
 |n+1,i,h=>by
  have e:leap mask i 0=((i*5+1) % (mask+1),0):=by unfold leap;simp
  show(cH mask n (leap mask i 0)).1=_
  rw[e,nY hk n _ (by have:=zB1 (i*5+1) (show 0<mask+1 by omega);omega),hk]
  have a:(5 ^ n*((i*5+1) % 2 ^ k)+S n) % 2 ^ k=(5 ^ n*(i*5+1)+S n) % 2 ^ k:=by
   rw[Nat.add_mod,Nat.mul_mod,Nat.mod_mod,<- Nat.mul_mod,<- Nat.add_mod]
  rw[a,zBN]
  congr 1
  show _=5 ^ n*5*i+(5*S n+1)
  have:=nJ n
  rw[this]
  grind
theorem qw(mask:Nat):∀(m n:Nat) (p:Nat×Nat),cH mask (m+n) p=cH mask n (cH mask m p)
 |0,n,p=>by rw[zA6];rfl
 |m+1,n,p=>by
  rw[show m+1+n=(m+n)+1 by omega]
  exact qw mask m n _
theorem sG(mask:Nat):∀(n:Nat) (p:Nat×Nat),p.1<=mask->(cH mask n p).1<=mask
 |0,_,h=>h
 |n+1,p,_=>sG mask n _ (md _ _ _)
theorem cover{mask k:Nat}(hk:mask+1=2 ^ k)(h:Int){e:Nat}(he:e<=mask):e∈cg mask h:=by
 have hb:bits h<2 ^ 64:=by
  unfold bits
  have:=Int.emod_lt_of_pos h (show(0:Int)<2 ^ 64 by decide)
  have:=Int.emod_nonneg h (show(2 ^ 64:Int)≠0 by decide)
  omega
 have hi:bits h % (mask+1)<=mask:=by have:=zB1 (bits h) (show 0<mask+1 by omega);omega
 generalize hp:(bits h % (mask+1),bits h)=p
 have p1:p.1<=mask:=by rw[<- hp];exact hi
 have z:(cH mask 13 p).2=0:=by
  rw[sH,<- hp]
  exact Nat.div_eq_of_lt (zAW hb (by decide))
 have q1:=sG mask 13 p p1
 obtain⟨n,hn,en⟩:=round k (cH mask 13 p).1 e (by omega)
 have ee:(cH mask (13+n) p).1=e:=by
  rw[qw]
  have:cH mask 13 p=((cH mask 13 p).1,0):=zBe rfl z
  rw[this,nY hk n _ q1]
  exact en
 have:=om (mask:=mask) (n:=13+n) (c:=(mask - n)+2) (i:=bits h % (mask+1)) (pt:=bits h) e (by
  have hp':(bits h % (mask+1),bits h)=p:=hp
  rw[hp',ee]
  exact yf he)
 unfold cg turns
 rw[show mask+15=13+n+(mask - n+2)by omega]
 exact this
def hU(xs:Array Nat):Prop:=∀a b:Nat,a<b->b<xs.size->xs.getD a 0<xs.getD b 0
theorem mN{xs:Array Nat}{j:Nat}(hr:hU xs):∀(fuel lo hi:Nat),lo<=hi->hi<=xs.size->hi - lo<=fuel->(∀a,a<lo->xs.getD a 0<j)->(∀a,hi<=a->a<xs.size->j<=xs.getD a 0) →
  (below.go xs j fuel lo hi<=xs.size)/\(∀a,a<below.go xs j fuel lo hi->xs.getD a 0<j)/\∀a,below.go xs j fuel lo hi<=a->a<xs.size->j<=xs.getD a 0
 |0,lo,hi,h1,h2,h3,h4,h5=>by
  have:lo=hi:=by omega
  subst this
  exact⟨h2,h4,h5⟩
 |fuel+1,lo,hi,h1,h2,h3,h4,h5=>by
  unfold below.go
  by_cases hlt:lo<hi
  ·rw[if_pos hlt]
   have hm:(lo+hi) / 2<hi/\lo<=(lo+hi) / 2:=by omega
   have hg:xs.getD ((lo+hi) / 2) j=xs.getD ((lo+hi) / 2) 0:=by
    have:(lo+hi) / 2<xs.size:=by omega
    simp[Array.getD,this]
   simp only[hg]
   split
   ·rename_i z
    refine mN hr fuel _ hi (by omega) h2 (by omega) (fun a ha=>?_) h5
    by_cases e:a=(lo+hi) / 2
    ·rw[e];exact z
    ·exact Nat.lt_trans (hr a ((lo+hi) / 2) (by omega) (by omega)) z
   ·rename_i z
    refine mN hr fuel lo _ (by omega) (by omega) (by omega) h4 fun a ha hs=>?_
    by_cases e:a=(lo+hi) / 2
    ·rw[e];omega
    ·have:=hr ((lo+hi) / 2) a (by omega) hs
     omega
  ·rw[if_neg hlt]
   have:lo=hi:=by omega
   subst this
   exact⟨h2,h4,h5⟩
theorem iC{xs:Array Nat}(hr:hU xs)(j:Nat):below xs j<=xs.size/\(∀a,a<below xs j->xs.getD a 0<j)/\∀a,below xs j<=a->a<xs.size->j<=xs.getD a 0 :=
 mN hr xs.size 0 xs.size (zAk _) (zAM _) (by omega) (fun a h=>absurd h (zCu _)) fun a h h'=>by omega
theorem dm{xs:Array Nat}{a x:Nat}(h:xs[a]?=some x):xs.getD a 0=x/\a<xs.size:=by
 obtain⟨l,e⟩:=zBE.mp h
 exact⟨by simp[Array.getD,l,e],l⟩
theorem nS{xs:Array Nat}{a:Nat}(h:a<xs.size):xs[a]?=some (xs.getD a 0):=by simp[Array.getD,h]
theorem below_at{xs:Array Nat}(hr:hU xs){a j:Nat}(h:xs[a]?=some j):below xs j=a:=by
 obtain⟨e,l⟩:=dm h
 obtain⟨b1,b2,b3⟩:=iC hr j
 have h1:¬a<below xs j:=fun z=>by have:=b2 a z;omega
 have h2:¬below xs j<a:=fun z=>by
  have:=b3 (below xs j) (zAM _) (by omega)
  have:=hr _ a z l
  omega
 omega
theorem qG{t:SetTable}(hr:hU t.place){a j:Nat}(h:t.place[a]?=some j):t.slot j=.live a:=by
 unfold SetTable.slot
 rw[below_at hr h]
 simp[h]
theorem wI{t:SetTable}(hr:hU t.place)(hd:t.dummies=#[]){j:Nat}(h:j∉t.place.toList):t.slot j=.empty:=by
 have n:¬((t.place[below t.place j]?==some j)=true):=fun z=>by
  have e:t.place[below t.place j]?=some j:=by simpa using z
  exact h (by
   obtain⟨l,q⟩:=zBE.mp e
   rw[<- q]
   exact Array.getElem_mem_toList l)
 unfold SetTable.slot
 simp only[n,hd]
 have:has #[] j=false:=by unfold has;simp
 simp[this]
def ahead(mask:Nat)(c:Nat)(p:Probe):List Nat:=List.range' p.j (p.more+1)++runs mask c (leap mask p.i p.perturb).1 (leap mask p.i p.perturb).2
theorem tT(t:SetTable)(h:Int):∃c,cg t.mask h=ahead t.mask c (t.probeStart h):=by
 refine⟨t.mask+14,?_⟩
 unfold cg ahead turns probeStart
 show runs t.mask ((t.mask+14)+1) _ _=_
 rw[lC]
 have hi:bits h % (t.mask+1)<=t.mask:=by have:=zB1 (bits h) (show 0<t.mask+1 by omega);omega
 have:=gR hi
 simp only
 rw[show runEnd t.mask (bits h % (t.mask+1))+1 - bits h % (t.mask+1)=runEnd t.mask (bits h % (t.mask+1)) - bits h % (t.mask+1)+1 by omega]
theorem vw(t:SetTable){c:Nat}{p:Probe}{x:Nat}{r:List Nat}(e:ahead t.mask c p=x::r):p.j=x/\(r=[]∨∃ c',r=ahead t.mask c' (t.advance p)):=by
 unfold ahead at e
 rw[List.range'_succ,zAe]at e
 obtain⟨e1,e2⟩:=List.cons.inj e
 refine⟨e1,?_⟩
 unfold SetTable.advance
 by_cases hm:p.more > 0
 ·right
  refine⟨c,?_⟩
  rw[if_pos hm,<- e2]
  unfold ahead
  simp only
  rw[show p.more - 1+1=p.more by omega]
 ·have m0:p.more=0:=by omega
  rw[m0]at e2
  simp only[List.range'_zero,zAv]at e2
  cases c with
  |zero=>left;rw[<- e2];rfl
  |succ c =>
   right
   refine⟨c,?_⟩
   rw[if_neg hm,<- e2]
   have hl:=md t.mask p.i p.perturb
   have:=gR hl
   unfold ahead
   rw[lC]
   simp only
   rw[show runEnd t.mask (leap t.mask p.i p.perturb).1+1 - (leap t.mask p.i p.perturb).1=runEnd t.mask (leap t.mask p.i p.perturb).1 - (leap t.mask p.i p.perturb).1+1 by omega]
theorem tu{t:SetTable}(hr:hU t.place)(hd:t.dummies=#[])(hashAt:Nat->Int)(h:Int):∀(l:List Nat) (fuel c:Nat) (p:Probe),ahead t.mask c p=l->l.length<=fuel->(∃x∈l,x∉t.place.toList)->p.dummy=none →
  (∃pre j post,l=pre++j::post/\(∀x∈pre,∃a,t.place[a]?=some x/\hashAt a≠h)/\j∉t.place.toList/\probe.go t hashAt h fuel p=some (.empty j none)) ∨
  ∃ pre j post a q c',l=pre++j::post/\(∀x∈pre,∃a,t.place[a]?=some x/\hashAt a≠h)/\t.place[a]?=some j/\hashAt a=h/\post=ahead t.mask c' q/\q.dummy=none/\probe.go t hashAt h fuel p=some (.candidate j a q)
 |[],_,_,_,_,_,hx,_=>by obtain⟨x,hx,_⟩:=hx;cases hx
 |x::r,0,_,_,_,hl,_,_=>by simp at hl
 |x::r,fuel+1,c,p,e,hl,hx,hdm=>by
  obtain⟨ej,er⟩:=vw t e
  subst ej
  unfold probe.go
  by_cases hin:p.j∈t.place.toList
  ·obtain⟨a,hla,ea⟩:=zBM hin
   have ha:t.place[a]?=some p.j:=by
    rw[<- zAl,zAB hla,ea]
   rw[qG hr ha]
   have hx':∃x∈r,x∉t.place.toList:=by
    obtain⟨y,hy,ny⟩:=hx
    rcases zAC.mp hy with z|z
    ·subst z;exact absurd hin ny
    ·exact⟨y,z,ny⟩
   have er':∃c',r=ahead t.mask c' (t.advance p):=by
    rcases er with z|z
    ·obtain⟨y,hy,_⟩:=hx';rw[z]at hy;cases hy
    ·exact z
   have hda:(t.advance p).dummy=none:=by unfold SetTable.advance;split<;>exact hdm
   obtain⟨c',ec⟩:=er'
   simp only
   by_cases hh:hashAt a=h
   ·right
    rw[if_pos (by simpa using hh)]
    exact⟨[],p.j,r,a,t.advance p,c',rfl,by simp,ha,hh,ec,hda,rfl⟩
   ·rw[if_neg (by simpa using hh)]
    have good:∃a,t.place[a]?=some p.j/\hashAt a≠h:=⟨a,ha,hh⟩
    rcases tu hr hd hashAt h r fuel c' (t.advance p) ec.symm (by simp at hl;omega) hx' hda with⟨pre,j,post,e1,e2,e3,e4⟩| ⟨pre,j,post,b,q,c2,e1,e2,e3,e4,e5,e6,e7⟩
    ·left
     refine⟨p.j::pre,j,post,by rw[e1];rfl,fun y hy=>?_,e3,e4⟩
     rcases zAC.mp hy with z|z
     ·rw[z];exact good
     ·exact e2 y z
    ·right
     refine⟨p.j::pre,j,post,b,q,c2,by rw[e1];rfl,fun y hy=>?_,e3,e4,e5,e6,e7⟩
     rcases zAC.mp hy with z|z
     ·rw[z];exact good
     ·exact e2 y z
  ·left
   rw[wI hr hd hin]
   exact⟨[],p.j,r,rfl,by simp,hin,by simp[hdm]⟩
structure Tab(t:SetTable)(hs:List Int):Prop where
 k:∃k,t.mask+1=2 ^ (k+1)
 rise:hU t.place
 le:∀x∈t.place.toList,x<=t.mask
 dum:t.dummies=#[]
 len:t.place.size=hs.length
 room:t.place.size<=t.mask
 reach:∀(a x:Nat) (h:Int),t.place[a]?=some x->hs[a]?=some h->∃pre post,cg t.mask h=pre++x::post/\∀y∈pre,y∈t.place.toList
theorem Tab.fits{t:SetTable}{hs:List Int}(T:Tab t hs):t.fits hs.length=true:=by
 unfold SetTable.fits SetTable.fill
 rw[T.dum]
 simp[T.len]
 have:=T.len
 have:=T.room
 omega
theorem Tab.stays{t:SetTable}{hs:List Int}(T:Tab t hs):t.gaveWay=false:=by
 obtain⟨k,e⟩:=T.k
 unfold SetTable.gaveWay
 rw[zBN]at e
 have:t.mask % 2=1:=by omega
 rw[this]
 rfl
theorem Af{xs:Array Nat}(hr:hU xs){a b x y:Nat}(ha:xs[a]?=some x)(hb:xs[b]?=some y)(h:x<y):a<b:=by
 obtain⟨e1,l1⟩:=dm ha
 obtain⟨e2,l2⟩:=dm hb
 rcases zCd a b with z|z|z
 ·exact z
 ·subst z;omega
 ·have:=hr b a z l1
  omega
theorem uN{xs:Array Nat}{x:Nat}(h:x∈xs.toList):∃a:Nat,xs[a]?=some x:=by
 obtain⟨a,hla,ea⟩:=zBM h
 exact⟨a,by rw[<- zAl,zAB hla,ea]⟩
theorem get_mem{xs:Array Nat}{a x:Nat}(h:xs[a]?=some x):x∈xs.toList:=by
 obtain⟨l,q⟩:=zBE.mp h
 rw[<- q]
 exact Array.getElem_mem_toList l
theorem Bg{xs:Array Nat}(hr:hU xs){mask:Nat}(hs:xs.size<=mask):∃e,e<=mask/\e∉xs.toList:=by
 refine zCJ fun no=>?_
 have all:∀e,e<=mask->e∈xs.toList:=fun e he=>zCJ fun n=>no ⟨e,he,n⟩
 have up:∀j,j<=mask->∃a,xs[a]?=some j/\j<=a:=by
  intro j
  induction j with
  |zero=>intro h;obtain⟨a,ha⟩:=uN (all 0 h);exact⟨a,ha,zAk _⟩
  |succ j ih =>
   intro h
   obtain⟨a,ha,hja⟩:=ih (by omega)
   obtain⟨b,hb⟩:=uN (all (j+1) h)
   have:=Af hr ha hb (by omega)
   exact⟨b,hb,by omega⟩
 obtain⟨a,ha,hm⟩:=up mask (zAM _)
 have:=(dm ha).2
 omega
theorem Tab.empty{t:SetTable}{hs:List Int}(T:Tab t hs)(h:Int):∃x∈cg t.mask h,x∉t.place.toList:=by
 obtain⟨e,he,ne⟩:=Bg T.rise T.room
 obtain⟨k,hk⟩:=T.k
 exact⟨e,cover hk h he,ne⟩
theorem oJ(mask:Nat)(h:Int):(cg mask h).length<=10*turns mask:=tE (by have:=zB1 (bits h) (show 0<mask+1 by omega);omega)
theorem lQ(mask:Nat)(h:Int):∀x∈cg mask h,x<=mask:=u3 (by have:=zB1 (bits h) (show 0<mask+1 by omega);omega)
theorem kh{α:Type}(xs:Array α)(p:Nat)(x:α):(insertAt xs p x).toList=xs.toList.take p++x::xs.toList.drop p:=by
 unfold insertAt
 simp
 exact zBp (by rw[zBr,zAZ];exact zAM _)
theorem get_ins{α:Type}{l:List α}{p:Nat}(hp:p<=l.length)(x:α)(a:Nat):(l.take p++x::l.drop p)[a]?=if a<p then l[a]? else if a=p then some x else l[a - 1]?:=by
 by_cases h:a<p
 ·rw[if_pos h,zAq (by rw[zBF];omega),List.getElem?_take,if_pos h]
 ·rw[if_neg h,zAf (by rw[zBF];omega),zBF,zCt hp]
  by_cases e:a=p
  ·rw[if_pos e,e,Nat.sub_self];rfl
  ·rw[if_neg e,show a - p=(a - p - 1)+1 by omega,List.getElem?_cons_succ,List.getElem?_drop,show p+(a - p - 1)=a - 1 by omega]
theorem Tab.put{t:SetTable}{hs:List Int}(T:Tab t hs){h:Int}{j:Nat}{pre post:List Nat}(hj:j∉t.place.toList)(hv:cg t.mask h=pre++j::post)(hp:∀y∈pre,y∈t.place.toList)(hroom:t.place.size+1<=t.mask) :
  Tab (t.put j).1 (hs.take (t.put j).2++h::hs.drop (t.put j).2)/\(t.put j).2<=hs.length/\(t.put j).1.mask=t.mask/\(t.put j).1.place.size=t.place.size+1:=by
 have e1:(t.put j).1.place=insertAt t.place (below t.place j) j:=rfl
 have e2:(t.put j).2=below t.place j:=rfl
 have e3:(t.put j).1.mask=t.mask:=rfl
 have e4:(t.put j).1.dummies=#[]:=by
  show(if has t.dummies j then _ else t.dummies)=_
  rw[T.dum]
  have:has #[] j=false:=by unfold has;simp
  rw[this]
  rfl
 obtain⟨b1,b2,b3⟩:=iC T.rise j
 have bp:below t.place j<=t.place.toList.length:=by rw[zAZ];exact b1
 have bh:below t.place j<=hs.length:=by rw[<- T.len];exact b1
 have gl:∀a,(t.put j).1.place[a]?=if a<below t.place j then t.place[a]? else if a=below t.place j then some j else t.place[a - 1]?:=fun a=>by
  rw[e1,<- zAl,kh,get_ins bp,zAl,zAl]
 have sz:(t.put j).1.place.size=t.place.size+1:=by
  rw[e1,<- zAZ,kh,zAO,zBF,zAb,zBr,zAZ]
  omega
 have mem:∀x,x∈(t.put j).1.place.toList↔x=j∨x∈t.place.toList:=fun x=>by
  rw[e1,kh,zAI,zAC]
  constructor
  ·rintro(z|z|z)
   ·exact .inr (List.mem_of_mem_take z)
   ·exact .inl z
   ·exact .inr (List.mem_of_mem_drop z)
  ·rintro(z|z)
   ·exact .inr (.inl z)
   ·rw[<- zBu (below t.place j) t.place.toList]at z
    rcases zAI.mp z with q|q
    ·exact .inl q
    ·exact .inr (.inr q)
 refine⟨⟨T.k,?_,?_,e4,?_,by rw[sz];exact hroom,?_⟩,bh,e3,sz⟩
 ·intro a b hab hb
  rw[sz]at hb
  have ga:=nS (xs:=(t.put j).1.place) (a:=a) (by rw[sz];omega)
  have gb:=nS (xs:=(t.put j).1.place) (a:=b) (by rw[sz];exact hb)
  rw[gl a]at ga
  rw[gl b]at gb
  have jn:∀c,c<t.place.size->t.place.getD c 0≠j:=fun c hc e=>hj (by rw[<- e];exact get_mem (nS hc))
  by_cases a1:a<below t.place j
  ·rw[if_pos a1]at ga
   obtain⟨ea,la⟩:=dm ga
   have:=b2 a a1
   by_cases c1:b<below t.place j
   ·rw[if_pos c1]at gb
    obtain⟨eb,lb⟩:=dm gb
    have:=T.rise a b hab lb
    omega
   ·rw[if_neg c1]at gb
    by_cases c2:b=below t.place j
    ·rw[if_pos c2]at gb
     have:=zAi gb
     omega
    ·rw[if_neg c2]at gb
     obtain⟨eb,lb⟩:=dm gb
     have:=T.rise a (b - 1) (by omega) lb
     omega
  ·rw[if_neg a1]at ga
   have c1:¬b<below t.place j:=by omega
   have c2:¬b=below t.place j:=by omega
   rw[if_neg c1,if_neg c2]at gb
   obtain⟨eb,lb⟩:=dm gb
   by_cases a2:a=below t.place j
   ·rw[if_pos a2]at ga
    have:=zAi ga
    have:=b3 (b - 1) (by omega) lb
    have:=jn (b - 1) lb
    omega
   ·rw[if_neg a2]at ga
    obtain⟨ea,la⟩:=dm ga
    have:=T.rise (a - 1) (b - 1) (by omega) lb
    omega
 ·intro x hx
  rcases(mem x).mp hx with z|z
  ·subst z
   exact lQ t.mask h x (by rw[hv];simp)
  ·exact T.le x z
 ·rw[sz,e2,zAO,zBF,zAb,zBr,<- T.len]
  omega
 ·intro a x h' hx hh
  rw[gl a]at hx
  rw[e2,get_ins bh]at hh
  have up:∀{l:List Nat},(∀y∈l,y∈t.place.toList)->∀y∈l,y∈(t.put j).1.place.toList:=fun hl y hy=>(mem y).mpr (.inr (hl y hy))
  by_cases a1:a<below t.place j
  ·rw[if_pos a1]at hx hh
   obtain⟨p1,p2,q1,q2⟩:=T.reach a x h' hx hh
   exact⟨p1,p2,q1,up q2⟩
  ·rw[if_neg a1]at hx hh
   by_cases a2:a=below t.place j
   ·rw[if_pos a2]at hx hh
    cases hx
    cases hh
    exact⟨pre,post,hv,up hp⟩
   ·rw[if_neg a2]at hx hh
    obtain⟨p1,p2,q1,q2⟩:=T.reach (a - 1) x h' hx hh
    exact⟨p1,p2,q1,up q2⟩
theorem qj(mask:Nat)(owner:Array (Option Nat)):∀(fuel i pt:Nat),layClean.free mask owner fuel i pt=(runs mask fuel i pt).find? fun y=>(owner.getD y (some 0)).isNone
 |0,_,_=>rfl
 |fuel+1,i,pt=>by
  rw[lC,List.find?_append,List.range'_eq_map_range,List.find?_map]
  unfold layClean.free
  have ih:=qj mask owner fuel (leap mask i pt).1 (leap mask i pt).2
  have ef:((fun y=>(owner.getD y (some 0)).isNone)∘fun x=>i+x)=fun k=>(owner.getD (i+k) (some 0)).isNone:=rfl
  rw[ef]
  cases(List.range (runEnd mask i+1 - i)).find? fun k=>(owner.getD (i+k) (some 0)).isNone with
  |some k=>rfl
  |none=>exact ih
structure Ow(mask:Nat)(hs:List Int)(owner:Array (Option Nat)):Prop where
 size:owner.size=mask+1
 cnt:(owner.toList.filter Option.isSome).length=hs.length
 at_:∀(i:Nat) (h:Int),hs[i]?=some h->∃j:Nat,owner[j]?=some (some i)/\∃pre post,cg mask h=pre++j::post/\∀y∈pre,∃q,owner[y]?=some (some q)
 lt:∀j i:Nat,owner[j]?=some (some i)->i<hs.length
 inj:∀j j' i:Nat,owner[j]?=some (some i)->owner[j']?=some (some i)->j=j'
theorem nQ{α:Type}{p:α->Bool}:∀{l:List α} {x:α},l.find? p=some x->∃pre post,l=pre++x::post/\p x=true/\∀y∈pre,p y=false
 |[],_,h=>by cases h
 |a::r,x,h=>by
  rw[List.find?_cons]at h
  cases pa:p a with
  |true=>rw[pa]at h;cases h;exact⟨[],r,rfl,pa,by simp⟩
  |false =>
   rw[pa]at h
   obtain⟨pre,post,e,q1,q2⟩:=nQ h
   refine⟨a::pre,post,by rw[e];rfl,q1,fun y hy=>?_⟩
   rcases zAC.mp hy with z|z
   ·rw[z];exact pa
   ·exact q2 y z
theorem nP{α:Type}{p:α->Bool}:∀{l:List α} {j:Nat} {a b:α},l[j]?=some a->p a=false->p b=true->((l.set j b).filter p).length=(l.filter p).length+1
 |[],_,_,_,h,_,_=>by simp at h
 |x::r,0,a,b,h,ha,hb=>by
  simp at h
  subst h
  rw[zCW,zCP hb,zCO (by simp[ha]),zAb]
 |x::r,j+1,a,b,h,ha,hb=>by
  have ih:=nP (l:=r) (j:=j) (by simpa using h) ha hb
  rw[zCV]
  by_cases c:p x=true
  ·rw[zCP c,zCP c,zAb,zAb,ih]
  ·rw[zCO c,zCO c,ih]
theorem Ow.step{mask k:Nat}(hk:mask+1=2 ^ k){hs:List Int}{owner:Array (Option Nat)}(O:Ow mask hs owner)(hn:hs.length<=mask)(h:Int) :
  ∃ j,layClean.free mask owner (turns mask) (bits h % (mask+1)) (bits h)=some j/\Ow mask (hs++[h]) (owner.setIfInBounds j (some hs.length)):=by
 have ex:∃e:Nat,e<=mask/\owner[e]?=some none:=by
  refine zCJ fun no=>?_
  have all:∀x∈owner.toList,Option.isSome x=true:=fun x hx=>by
   obtain⟨e,le,ee⟩:=zBM hx
   rw[zAZ,O.size]at le
   cases x with
   |some _=>rfl
   |none=>exact absurd ⟨e,by omega,by rw[<- zAl,zAB (by rw[zAZ,O.size];exact le),ee]⟩ no
  have:=O.cnt
  rw[zA8.mpr all,zAZ,O.size]at this
  omega
 have emp:∀y,y<=mask->((owner.getD y (some 0)).isNone=true↔owner[y]?=some none):=fun y hy=>by
  have l:y<owner.size:=by rw[O.size];omega
  rw[zAm l]
  simp[Array.getD,l]
 obtain⟨e,he,ee⟩:=ex
 have fs:((cg mask h).find? fun y=>(owner.getD y (some 0)).isNone).isSome=true:=by
  rw[List.find?_isSome]
  exact⟨e,cover hk h he,(emp e he).mpr ee⟩
 obtain⟨j,fj⟩:=Option.isSome_iff_exists.mp fs
 obtain⟨pre,post,ev,pj,pp⟩:=nQ fj
 have jm:j<=mask:=lQ mask h j (by rw[ev];simp)
 have oj:=(emp j jm).mp pj
 have jl:j<owner.size:=by rw[O.size];omega
 refine⟨j,by rw[qj];exact fj,?_⟩
 have gs:∀y:Nat,(owner.setIfInBounds j (some hs.length))[y]?=if j=y then some (some hs.length)else owner[y]?:=fun y=>by
  rw[Array.getElem?_setIfInBounds]
  by_cases c:j=y
  ·rw[if_pos c,if_pos c,if_pos jl]
  ·rw[if_neg c,if_neg c]
 have keep:∀(y q:Nat),owner[y]?=some (some q)->(owner.setIfInBounds j (some hs.length))[y]?=some (some q):=fun y q hy=>by
  rw[gs,if_neg (fun c=>by subst c;rw[oj]at hy;cases hy)]
  exact hy
 refine⟨by rw[Array.size_setIfInBounds];exact O.size,?_,?_,?_,?_⟩
 ·rw[Array.toList_setIfInBounds,nP (a:=none) (by rw[zAl];exact oj) rfl rfl,O.cnt,zAO]
  rfl
 ·intro i h' hi
  by_cases c:i<hs.length
  ·rw[zAq c]at hi
   obtain⟨j',o',p1,p2,q1,q2⟩:=O.at_ i h' hi
   exact⟨j',keep _ _ o',p1,p2,q1,fun y hy=>let ⟨q,z⟩:=q2 y hy;⟨q,keep _ _ z⟩⟩
  ·rw[zAf (by omega)]at hi
   have ei:i=hs.length:=by
    have:=(zAE.mp hi).1
    simp at this
    omega
   subst ei
   simp at hi
   subst hi
   refine⟨j,by rw[gs,if_pos rfl],pre,post,ev,fun y hy=>?_⟩
   have ym:y<=mask:=lQ mask h y (by rw[ev];simp[hy])
   have ny:=pp y hy
   have yl:y<owner.size:=by rw[O.size];omega
   cases oy:owner[y]with
   |none =>
    have:=(emp y ym).mpr (by rw[zAm yl,oy])
    rw[this]at ny
    cases ny
   |some q=>exact⟨q,keep y q (by rw[zAm yl,oy])⟩
 ·intro y i hy
  rw[gs]at hy
  rw[zAO]
  by_cases c:j=y
  ·rw[if_pos c]at hy
   cases hy
   simp
  ·rw[if_neg c]at hy
   have:=O.lt y i hy
   simp
   omega
 ·intro y y' i hy hy'
  rw[gs]at hy hy'
  by_cases c:j=y<;>by_cases c':j=y'
  ·omega
  ·rw[if_pos c]at hy
   rw[if_neg c']at hy'
   cases hy
   have:=O.lt y' _ hy'
   omega
  ·rw[if_neg c]at hy
   rw[if_pos c']at hy'
   cases hy'
   have:=O.lt y _ hy
   omega
  ·rw[if_neg c]at hy
   rw[if_neg c']at hy'
   exact O.inj y y' i hy hy'
theorem sF{mask k:Nat}(hk:mask+1=2 ^ k):∀(rest hs:List Int) (owner:Array (Option Nat)),Ow mask hs owner->hs.length+rest.length<=mask+1 →
  ∃ owner',rest.foldl (fun(acc:Option (Array (Option Nat)×Nat)) h=>do
   let (owner,k)←acc
   let j←layClean.free mask owner (turns mask) (bits h % (mask+1)) (bits h)
   pure (owner.setIfInBounds j (some k),k+1)) (some (owner,hs.length))=some (owner',(hs++rest).length)/\Ow mask (hs++rest) owner'
 |[],hs,owner,O,_=>⟨owner,by simp,by rw[zA5];exact O⟩
 |h::r,hs,owner,O,hl=>by
  rw[zAb]at hl
  obtain⟨j,fj,O'⟩:=O.step hk (by omega) h
  obtain⟨o',e',Q⟩:=sF hk r (hs++[h]) _ O' (by rw[zAO];simp;omega)
  refine⟨o',?_,by rw[zA7]at Q;exact Q⟩
  rw[List.foldl_cons]
  have:(do
   let (owner,k)←(some (owner,hs.length):Option (Array (Option Nat)×Nat))
   let j←layClean.free mask owner (turns mask) (bits h % (mask+1)) (bits h)
   pure (owner.setIfInBounds j (some k),k+1))=some (owner.setIfInBounds j (some hs.length),(hs++[h]).length):=by
   show(layClean.free mask owner (turns mask) (bits h % (mask+1)) (bits h) >>= _)=_
   rw[fj]
   simp
  rw[this,e']
  simp
theorem ua{mask k:Nat}(hk:mask+1=2 ^ k)(hashes:Array Int)(hl:hashes.size<=mask+1):∃owner,layClean mask hashes=some owner/\Ow mask hashes.toList owner:=by
 have O:Ow mask [] (Array.replicate (mask+1) none):=by
  refine⟨by simp,by simp,by simp,fun j i h=>?_,fun j j' i h _=>?_⟩
  ·rw[Array.getElem?_replicate]at h
   split at h<;>cases h
  ·rw[Array.getElem?_replicate]at h
   split at h<;>cases h
 obtain⟨o,e,Q⟩:=sF hk hashes.toList [] _ O (by rw[zAZ];simp;omega)
 refine⟨o,?_,by simpa using Q⟩
 unfold layClean
 rw[<- Array.foldl_toList]
 show Option.map _ (List.foldl _ (some (Array.replicate (mask+1) none,([]:List Int).length)) _)=_
 rw[e]
 rfl
def live(mask:Nat)(owner:Array (Option Nat)):List (Nat×Nat):=(List.range (mask+1)).filterMap fun j=>(owner.getD j none).map (j,·)
theorem gf{mask:Nat}{hs:List Int}{owner:Array (Option Nat)}(O:Ow mask hs owner){j i:Nat}:(j,i)∈live mask owner↔owner[j]?=some (some i):=by
 unfold live
 rw[zCU]
 constructor
 ·rintro⟨y,hy,e⟩
  rw[zCz]at hy
  obtain⟨q,e1,e2⟩:=zBB.mp e
  cases e2
  have l:j<owner.size:=by rw[O.size];exact hy
  rw[zAm l,<- e1]
  simp[Array.getD,l]
 ·intro h
  obtain⟨l,e⟩:=zBE.mp h
  refine⟨j,by rw[zCz,<- O.size];exact l,?_⟩
  rw[show owner.getD j none=some i by simp[Array.getD,l,e]]
  rfl
theorem mU(mask:Nat)(owner:Array (Option Nat)):(live mask owner).map (·.1)=(List.range (mask+1)).filter fun j=>(owner.getD j none).isSome:=by
 unfold live
 induction List.range (mask+1)with
 |nil=>rfl
 |cons a r ih =>
  cases e:owner.getD a none with
  |none=>rw[List.filterMap_cons_none (by rw[e];rfl),zCO (by simp[e]),ih]
  |some q=>rw[zCL (by rw[e];rfl),zCP (by simp[e]),zAK,ih]
theorem zH{mask:Nat}{hs:List Int}{owner:Array (Option Nat)}(O:Ow mask hs owner):(live mask owner).length=hs.length:=by
 have e1:(live mask owner).length=((live mask owner).map (·.1)).length:=by simp
 have e2:owner.toList=(List.range (mask+1)).map fun j=>owner.getD j none:=by
  apply List.ext_getElem?
  intro j
  rw[zAH,zAl]
  by_cases c:j<mask+1
  ·have l:j<owner.size:=by rw[O.size];exact c
   rw[List.getElem?_range c,zAm l]
   simp[Array.getD,l]
  ·rw[zAs (by rw[List.length_range];omega),zCY (by rw[O.size];omega)]
   rfl
 rw[e1,mU,<- O.cnt,e2,List.filter_map,zAA]
 rfl
theorem qz(mask:Nat)(owner:Array (Option Nat)):((live mask owner).map (·.1)).Pairwise (·<·):=by
 rw[mU]
 exact List.Pairwise.filter _ List.pairwise_lt_range
theorem BR{l:List Nat}(h:l.Pairwise (·<·)):hU l.toArray:=by
 intro a b hab hb
 have hb':b<l.length:=by simpa using hb
 have:=zAy.mp h a b (by omega) hb' hab
 simp[Array.getD,show a<l.length by omega,hb']
 exact this
theorem Bq{mask k:Nat}(hk:mask+1=2 ^ (k+1))(finger moves:Nat)(led plain:Bool){V:Type}(es:Array (Int×V))(hl:es.size<=mask) :
  ∃ t order,laid mask finger moves led plain (es.map (·.1))=some (t,order)/\t.mask=mask/\t.led=led/\t.plain=plain ∧
   ∃ es':List (Int×V),(order.filterMap (es[·]?)).toList=es'/\es'.length=es.size/\Tab t (es'.map (·.1))/\t.place.size=es.size ∧
    (∀(a:Nat) (e:Int×V),es'[a]?=some e->∃i:Nat,order[a]?=some i/\es[i]?=some e)/\(∀i:Nat,i<es.size->∃a:Nat,order[a]?=some i)/\∀(a b i:Nat),order[a]?=some i->order[b]?=some i->a=b:=by
 obtain⟨owner,eo,O⟩:=ua hk (es.map (·.1)) (by rw[Array.size_map];omega)
 have hsl:(es.map (·.1)).toList.length=es.size:=by simp
 refine⟨{mask,place:=((live mask owner).map (·.1)).toArray,dummies:=#[],finger,led,moves,plain},((live mask owner).map (·.2)).toArray,by unfold laid;rw[eo];rfl,rfl,rfl,rfl,?_⟩
 have ll:=zH O
 rw[hsl]at ll
 have lt:∀p∈live mask owner,p.2<es.size:=fun p hp=>by
  have:=O.lt p.1 p.2 ((gf O).mp hp)
  rw[hsl]at this
  exact this
 have els:∀l:List (Nat×Nat),(∀p∈l,p.2<es.size)->(((l.map (·.2)).filterMap fun i=>es[i]?).map some)=l.map fun p=>es[p.2]?:=fun l hl=>by
  induction l with
  |nil=>rfl
  |cons p r ih =>
   have lp:=hl p (by simp)
   rw[zAK,zCL (zAm lp),zAK,zAK,ih fun q hq=>hl q (by simp[hq]),zAm lp]
 have ge:∀a:Nat,((((live mask owner).map (·.2)).filterMap fun i=>es[i]?)[a]?).map some=((live mask owner)[a]?).map fun p=>es[p.2]?:=fun a=>by
  have:=congrArg (fun l=>l[a]?) (els _ lt)
  simp only[zAH]at this
  exact this
 refine⟨((live mask owner).map (·.2)).filterMap fun i=>es[i]?,by simp,?_,?_,?_,?_,?_,?_⟩
 ·have:=congrArg List.length (els _ lt)
  rw[zAA,zAA]at this
  rw[this,ll]
 ·refine⟨⟨k,hk⟩,BR (qz mask owner),?_,rfl,?_,?_,?_⟩
  ·intro x hx
   have hx':x∈(live mask owner).map (·.1):=by simpa using hx
   rw[mU,List.mem_filter,zCz]at hx'
   show x<=mask
   omega
  ·have:=congrArg List.length (els _ lt)
   rw[zAA,zAA]at this
   show((live mask owner).map (·.1)).toArray.size=_
   rw[zAX,zAA,zAA,this]
  ·show((live mask owner).map (·.1)).toArray.size<=mask
   rw[zAX,zAA,ll]
   exact hl
  ·intro a x h hx hh
   have hx':((live mask owner).map (·.1))[a]?=some x:=by simpa using hx
   rw[zAH]at hx'
   obtain⟨p,ep,e1⟩:=zBB.mp hx'
   have g:=ge a
   rw[ep]at g
   have lp:=lt p (zAT ep)
   rw[zAH]at hh
   obtain⟨e,ee,eh⟩:=zBB.mp hh
   rw[ee,Option.map_some,Option.map_some,zAm lp]at g
   have ge':=zAi (zAi g)
   obtain⟨j',o',pre,post,ev,q⟩:=O.at_ p.2 h (by
    rw[<- eh,ge',<- zAl]at *
    rw[zAl,Array.getElem?_map,zAm lp]
    rfl)
   have oj:=(gf O).mp (show(p.1,p.2)∈live mask owner from zAT ep)
   have:=O.inj j' p.1 p.2 o' oj
   subst this
   subst e1
   refine⟨pre,post,ev,fun y hy=>?_⟩
   obtain⟨z,hz⟩:=q y hy
   show y∈((live mask owner).map (·.1)).toArray.toList
   simp only[zAQ]
   exact⟨(y,z),(gf O).mpr hz,rfl⟩
 ·show((live mask owner).map (·.1)).toArray.size=_
  rw[zAX,zAA,ll]
 ·intro a e he
  have g:=ge a
  rw[he]at g
  cases ep:(live mask owner)[a]? with
  |none=>rw[ep]at g;cases g
  |some p =>
   rw[ep]at g
   exact⟨p.2,by simp[ep],(zAi g).symm⟩
 ·intro i hi
  obtain⟨h,hh⟩:∃h,(es.map (·.1)).toList[i]?=some h:=⟨_,zAB (by rw[hsl];exact hi)⟩
  obtain⟨j,oj,_⟩:=O.at_ i h hh
  obtain⟨a,la,ea⟩:=zBM ((gf O).mpr oj)
  exact⟨a,by simp[zAB la,ea]⟩
 ·intro a b i ha hb
  have ha':((live mask owner).map (·.2))[a]?=some i:=by simpa using ha
  have hb':((live mask owner).map (·.2))[b]?=some i:=by simpa using hb
  rw[zAH]at ha' hb'
  obtain⟨p,ep,e1⟩:=zBB.mp ha'
  obtain⟨q,eq,e2⟩:=zBB.mp hb'
  have o1:=(gf O).mp (show(p.1,p.2)∈live mask owner from zAT ep)
  have o2:=(gf O).mp (show(q.1,q.2)∈live mask owner from zAT eq)
  have ej:=O.inj p.1 q.1 i (by rw[<- e1];exact o1) (by rw[<- e2];exact o2)
  have r:=qz mask owner
  have la:=(zAE.mp ep)
  have lb:=(zAE.mp eq)
  obtain⟨la1,la2⟩:=la
  obtain⟨lb1,lb2⟩:=lb
  rcases zCd a b with z|z|z
  ·have:=zAy.mp r a b (by rw[zAA];exact la1) (by rw[zAA];exact lb1) z
   rw[zAz,zAz,la2,lb2]at this
   omega
  ·exact z
  ·have:=zAy.mp r b a (by rw[zAA];exact lb1) (by rw[zAA];exact la1) z
   rw[zAz,zAz,la2,lb2]at this
   omega
theorem q9:∀(fuel size n:Nat),n<size*2 ^ fuel->∃m,sizeAbove.go n fuel size=size*2 ^ m/\n<size*2 ^ m
 |0,size,n,h=>⟨0,by simp[sizeAbove.go],h⟩
 |fuel+1,size,n,h=>by
  unfold sizeAbove.go
  by_cases c:size<=n
  ·rw[if_pos c]
   obtain⟨m,e1,e2⟩:=q9 fuel (size*2) n (by rw[zBN]at h;rw[Nat.mul_assoc,Nat.mul_comm 2];exact h)
   refine⟨m+1,?_,?_⟩
   ·rw[e1,zBN,Nat.mul_assoc,Nat.mul_comm 2]
   ·rw[zBN,Nat.mul_comm (2 ^ m),<- Nat.mul_assoc];exact e2
  ·rw[if_neg c]
   exact⟨0,by simp,by simp;omega⟩
theorem above{n:Nat}(h:n<2 ^ 60):∃k,sizeAbove n - 1+1=2 ^ (k+1)/\n<=sizeAbove n - 1:=by
 obtain⟨m,e1,e2⟩:=q9 64 8 n (zAW h (by decide))
 have e:sizeAbove n=8*2 ^ m:=e1
 have hp:=Nat.two_pow_pos m
 refine⟨m+2,?_,by omega⟩
 rw[e,show 2 ^ (m+2+1)=8*2 ^ m by rw[zBN,zBN,zBN];omega]
 omega
end ST
namespace SW
open PySem PySem.SetTable ST
section
variable{prog:Program}{w:World}{A:Around}{E:Value->Shared->Prop}{s:Shared}
abbrev TK(prog:Program)(w:World):HeapKind prog w (List Int):=tupleKind (intKind prog w)
theorem items_int:∀{ks:List Int} {vs:List Value},ItemsAre (intKind prog w) ks vs->∀v∈vs,∃n t,v=Value.int n t
 |_,_,.nil,v,h=>by cases h
 |_,_,.cons h t,v,hv=>by
  rcases zAC.mp hv with z|z
  ·subst z
   obtain⟨t,e⟩:=Value.isInt_shape h
   exact⟨_,t,e⟩
  ·exact items_int t v z
theorem Bv(d:Nat)(n:Int)(t:Tok):ofAClassStatement d (.int n t)=pure false:=by cases d<;>rfl
theorem qC{k:List Int}{b:Addr}{Q:Bool->Shared->Prop}(hk:(TK prog w).is s.heap k b)(hQ:Q false s):wpAny (model prog w) A (ofAClassStatement 8 (.ref b)) Q E s:=by
 obtain⟨o,items,n,ho,hc,hd,hi⟩:=hk
 unfold ofAClassStatement
 refine wpAny_bind (wpAny_typeOf (T := "tuple") ⟨o,ho,hc⟩ ?_)
 dsimp only
 rw[if_pos (by decide)]
 refine wpAny_bind (wpAny_pure ?_)
 rw[if_neg (by decide)]
 refine wpAny_bind (wpAny_seqItems ho hd ?_)
 dsimp only
 refine wpAny_bind ?_
 rw[<- Array.forIn_toList]
 refine wpAny_forIn_list _ (fun rest r s'=>r.1=none/\s'=s/\∀v∈rest,∃n t,v=Value.int n t) _ ?_ ?_ _ _ ⟨rfl,rfl,items_int hi⟩
 ·rintro v rest r s' ⟨hr,rfl,hall⟩
  obtain⟨m,t,rfl⟩:=hall v zAY
  rw[Bv]
  refine wpAny_bind (wpAny_pure ?_)
  simp only[zAa,if_false]
  exact wpAny_pure ⟨rfl,rfl,fun u hu'=>hall u (zAD _ hu')⟩
 ·rintro⟨r1,r2⟩ s' ⟨hr,rfl,_⟩
  simp only at hr
  subst hr
  exact wpAny_pure hQ
theorem Bl(d:Nat)(n:Int)(t:Tok):hashByValue d (.int n t)=pure true:=by cases d<;>rfl
theorem xv{k:List Int}{b:Addr}{Q:Bool->Shared->Prop}(hk:(TK prog w).is s.heap k b)(hQ:Q true s):wpAny (model prog w) A (hashByValue 8 (.ref b)) Q E s:=by
 obtain⟨o,items,n,ho,hc,hd,hi⟩:=hk
 unfold hashByValue
 refine wpAny_bind (wpAny_specialOf (T := "tuple") ⟨o,ho,hc⟩ F.slot_tuple_hash.lookup ?_)
 show wpAny _ _ (seqItems? (.ref b) >>= _) _ _ s
 refine wpAny_bind (wpAny_seqItems ho hd ?_)
 dsimp only[zB9]
 refine wpAny_bind ?_
 rw[<- Array.forIn_toList]
 refine wpAny_forIn_list _ (fun rest r s'=>r.1=none/\s'=s/\∀v∈rest,∃n t,v=Value.int n t) _ ?_ ?_ _ _ ⟨rfl,rfl,items_int hi⟩
 ·rintro v rest r s' ⟨hr,rfl,hall⟩
  obtain⟨m,t,rfl⟩:=hall v zAY
  rw[Bl]
  refine wpAny_bind (wpAny_pure ?_)
  simp only[zCo,zAa,if_false]
  exact wpAny_pure ⟨rfl,rfl,fun u hu'=>hall u (zAD _ hu')⟩
 ·rintro⟨r1,r2⟩ s' ⟨hr,rfl,_⟩
  simp only at hr
  subst hr
  exact wpAny_pure hQ
theorem wH{k:List Int}{b:Addr}{vs:List Value}{Q:Bool->Shared->Prop}(hk:(TK prog w).is s.heap k b)(hv:∀v∈vs,∃k' c,v=Value.ref c/\(TK prog w).is s.heap k' c)(hQ:Q false s) :
  wpAny (model prog w) A (searchCouldBeSeen (.ref b) vs) Q E s:=by
 unfold searchCouldBeSeen
 refine wpAny_bind (wpAny_forIn_list _ (fun rest r s'=>r.1=none/\s'=s/\∀v∈rest,∃k' c,v=Value.ref c/\(TK prog w).is s.heap k' c) _ ?_ ?_ _ _ ⟨rfl,rfl,hv⟩)
 ·rintro v rest r s' ⟨hr,rfl,hall⟩
  have rest':∀u∈rest,∃k' c,u=Value.ref c/\(TK prog w).is s'.heap k' c:=fun u hu=>hall u (zAD _ hu)
  obtain⟨k',c,rfl,hc⟩:=hall v zAY
  dsimp only
  by_cases very:((b==c) || (carriedByValue (.ref b) && carriedByValue (.ref c)))=true
  ·rw[if_pos very]
   exact wpAny_pure ⟨rfl,rfl,rest'⟩
  ·rw[if_neg very]
   refine wpAny_bind ((TK prog w).quiet hk ?_)
   simp only[zCo,zAa,if_false]
   refine wpAny_bind ((TK prog w).quiet hc ?_)
   simp only[zCo,zAa,if_false]
   refine wpAny_bind (qC hk ?_)
   simp only[zAa,if_false]
   refine wpAny_bind (qC hc ?_)
   simp only[zAa,if_false]
   exact wpAny_pure ⟨rfl,rfl,rest'⟩
 ·rintro⟨r1,r2⟩ s' ⟨hr,rfl,_⟩
  simp only at hr
  subst hr
  exact wpAny_pure hQ
theorem mG{a b:Addr}{k:List Int}{o:Obj}{es:Array (Int×Value)}{ep:Nat}{t:SetTable}{xs:List (List Int×Addr)}{Q:SetFound->Shared->Prop}(hu:A.units<cLine)(hk:(TK prog w).is s.heap k b)
  (ho:s.heap.get? a=some o) (hd:o.data=.set es ep t) (he:es.toList=xs.map fun x=>((TK prog w).hash x.1,Value.ref x.2)) (his:∀x∈xs,(TK prog w).is s.heap x.1 x.2) (T:Tab t (xs.map fun x=>(TK prog w).hash x.1))
  (hin:k∈xs.map (·.1)->Q (.there none) s) (hno:k∉xs.map (·.1)->∀j pre post,cg t.mask ((TK prog w).hash k)=pre++j::post->(∀y∈pre,y∈t.place.toList)->j∉t.place.toList->Q (.free j false) s) :
  ∀ (fuel:Nat) (l done:List Nat) (c:Nat) (st:Option Probe),ahead t.mask c (st.getD (t.probeStart ((TK prog w).hash k)))=l->cg t.mask ((TK prog w).hash k)=done++l →
   (∀y∈done,∃(i:Nat) (x:List Int×Addr),t.place[i]?=some y/\xs[i]?=some x/\x.1≠k)->l.length<fuel->(st.getD (t.probeStart ((TK prog w).hash k))).dummy=none->wpAny (model prog w) A (setSearchFrom a (.ref b) ((TK prog w).hash k) true fuel st) Q E s
 |0,_,_,_,_,_,_,_,hf,_=>absurd hf (zCu _)
 |fuel+1,l,done,c,st,e1,e2,hdn,hf,hdm=>by
  have sz:es.size=xs.length:=by rw[<- zAZ,he,zAA]
  have fits:t.fits es.size=true:=by have:=T.fits;rw[zAA]at this;rw[sz];exact this
  have psz:t.place.size=xs.length:=by have:=T.len;rw[zAA]at this;exact this
  have entry:∀(i:Nat) (x:List Int×Addr),xs[i]?=some x->es[i]?=some ((TK prog w).hash x.1,Value.ref x.2):=fun i x hx=>by
   rw[<- zAl,he,zAH,hx]
   rfl
  have ofPlace:∀i y:Nat,t.place[i]?=some y->∃x,xs[i]?=some x:=fun i y hy=>by
   have:=(dm hy).2
   exact⟨xs[i]'(by omega),zAB (by omega)⟩
  have hat:∀(i:Nat) (x:List Int×Addr),xs[i]?=some x->(es[i]?.map (·.1)).getD 0=(TK prog w).hash x.1:=fun i x hx=>by rw[entry i x hx];rfl
  have dpl:∀y∈done,y∈t.place.toList:=fun y hy=>let ⟨i,_,h1,_⟩:=hdn y hy;get_mem h1
  have emp:∃x∈l,x∉t.place.toList:=by
   obtain⟨x,hx,nx⟩:=T.empty ((TK prog w).hash k)
   rw[e2]at hx
   rcases zAI.mp hx with z|z
   ·exact absurd (dpl x z) nx
   ·exact⟨x,z,nx⟩
  have ll:l.length<=10*turns t.mask:=by
   have:=oJ t.mask ((TK prog w).hash k)
   rw[e2,zAO]at this
   omega
  unfold setSearchFrom
  refine wpAny_bind (wpAny_setState_of ho hd fits ?_)
  dsimp only
  rw[T.stays]
  simp only[zAa,if_false]
  generalize hm:t.probe _ ((TK prog w).hash k) (st.getD (t.probeStart ((TK prog w).hash k)))=m
  rcases tu T.rise T.dum (fun i=>(es[i]?.map (·.1)).getD 0) ((TK prog w).hash k) l (10*turns t.mask) c _ e1 ll emp hdm with⟨pre,j,post,q1,q2,q3,q4⟩| ⟨pre,j,post,i,q,c',q1,q2,q3,q4,q5,q6,q7⟩
  ·have em:m=some (.empty j none):=hm.symm.trans q4
   subst em
   dsimp only
   have hv:cg t.mask ((TK prog w).hash k)=(done++pre)++j::post:=by rw[e2,q1,zA7]
   have hpp:∀y∈done++pre,y∈t.place.toList:=fun y hy=>by
    rcases zAI.mp hy with z|z
    ·exact dpl y z
    ·obtain⟨i,h1,_⟩:=q2 y z
     exact get_mem h1
   refine wpAny_pure (hno (fun hin'=>?_) j _ post hv hpp q3)
   obtain⟨x,hx,ek⟩:=zAQ.mp hin'
   obtain⟨i0,li,ei⟩:=zBM hx
   have gx:xs[i0]?=some x:=by rw[zAB li,ei]
   have gp0:=nS (xs:=t.place) (a:=i0) (by omega)
   obtain⟨pre0,post0,v0,p0⟩:=T.reach i0 _ ((TK prog w).hash k) gp0 (by rw[zAH,gx,<- ek];rfl)
   have x0:t.place.getD i0 0∈done++pre:=by
    have hz:pre0.length<(done++pre).length:=by
     refine zCJ fun nl=>?_
     have g1:(cg t.mask ((TK prog w).hash k))[(done++pre).length]?=some j:=by rw[hv,zAf (zAM _),Nat.sub_self];rfl
     rw[v0]at g1
     by_cases c1:(done++pre).length<pre0.length
     ·rw[zAq c1]at g1
      exact q3 (p0 j (zAT g1))
     ·have c2:(done++pre).length=pre0.length:=by omega
      rw[c2,zAf (zAM _),Nat.sub_self]at g1
      have:t.place.getD i0 0=j:=zAi g1
      exact q3 (by rw[<- this];exact get_mem gp0)
    have g2:(cg t.mask ((TK prog w).hash k))[pre0.length]?=some (t.place.getD i0 0):=by rw[v0,zAf (zAM _),Nat.sub_self];rfl
    rw[hv,zAq hz]at g2
    exact zAT g2
   have same:∀i':Nat,t.place[i']?=some (t.place.getD i0 0)->i'=i0:=fun i' h'=>(below_at T.rise h').symm.trans (below_at T.rise gp0)
   rcases zAI.mp x0 with z|z
   ·obtain⟨i',x',h1,h2,h3⟩:=hdn _ z
    have:=same i' h1
    subst this
    rw[gx]at h2
    cases h2
    exact h3 ek
   ·obtain⟨i',h1,h2⟩:=q2 _ z
    have:=same i' h1
    subst this
    exact h2 (by rw[hat i' x gx,ek])
  ·have em:m=some (.candidate j i q):=hm.symm.trans q7
   subst em
   dsimp only
   obtain⟨x,gx⟩:=ofPlace i j q3
   have hx:=his x (zAT gx)
   have stored:∀v∈(es.filter (·.1==(TK prog w).hash k)).toList.map (·.2),∃k' c,v=Value.ref c/\(TK prog w).is s.heap k' c:=fun v hv=>by
    obtain⟨e,he',rfl⟩:=zAQ.mp hv
    have he2:e∈es.toList:=by
     have:=Array.mem_toList_iff.mp he'
     exact Array.mem_toList_iff.mpr (Array.mem_filter.mp this).1
    rw[he]at he2
    obtain⟨y,hy,rfl⟩:=zAQ.mp he2
    exact⟨y.1,y.2,rfl,his y hy⟩
   have go:wpAny (model prog w) A (do
     let some (_,y):=es[i]?|unsupported "internal:set-entry"
     let equal←holding [y] (eqBool y (.ref b))
     let (es',_,t')←setState a
     if true && equal then return SetFound.there none
     let some same:=t'.sameMemory t.moves t.mask|unsupported "set.changed-during-lookup:is-the-new-block-at-the-old-address"
     let still←match(if same then t'.slot j else .empty)with
      |.live i'=>match es'[i']? with
       |some (_,y')=>do pure (if←isSame y' y then some i' else none)
       |none=>pure none
      |_=>pure none
     match still with
     |none=>rule "set.search.anew"; setSearchFrom a (.ref b) ((TK prog w).hash k) true fuel none
     |some i'=>if equal then return .there (some i')else setSearchFrom a (.ref b) ((TK prog w).hash k) true fuel (some q)) Q E s:=by
    rw[entry i x gx]
    dsimp only
    refine wpAny_bind (wpAny_holding ((TK prog w).eqBool hu hx hk ?_))
    refine wpAny_bind (wpAny_setState_of ho hd fits ?_)
    dsimp only
    by_cases ek:x.1=k
    ·rw[if_pos (by simp[ek])]
     exact wpAny_pure (hin (zAQ.mpr ⟨x,zAT gx,ek⟩))
    ·rw[if_neg (by simp[ek])]
     have sm:t.sameMemory t.moves t.mask=some true:=by unfold SetTable.sameMemory;simp
     rw[sm]
     dsimp only
     rw[if_pos rfl,qG T.rise q3]
     dsimp only
     rw[entry i x gx]
     dsimp only
     refine wpAny_bind (wpAny_isSame_ref_self ?_)
     simp only[if_true]
     refine wpAny_bind (wpAny_pure ?_)
     dsimp only
     rw[if_neg (by simp[ek])]
     refine mG hu hk ho hd he his T hin hno fuel post (done++pre++[j]) c' (some q) q5.symm (by rw[e2,q1];simp) (fun y hy=>?_) (by rw[q1,zAO,zAb]at hf;omega) q6
     rcases zAI.mp hy with z|z
     ·rcases zAI.mp z with z|z
      ·exact hdn y z
      ·obtain⟨i',h1,h2⟩:=q2 y z
       obtain⟨x',gx'⟩:=ofPlace i' y h1
       exact⟨i',x',h1,gx',fun ek'=>h2 (by rw[hat i' x' gx',ek'])⟩
     ·simp at z
      subst z
      exact⟨i,x,q3,gx,ek⟩
   by_cases hled:t.led=true
   ·rw[if_neg (by simp[hled])]
    exact go
   ·rw[if_pos (by simp[hled])]
    refine wpAny_bind (wH hk stored ?_)
    simp only[zAa,if_false]
    exact go
theorem rf:∀(fuel size n:Nat),sizeAbove.go n fuel size<=max size (2*n)
 |0,size,n=>by unfold sizeAbove.go;omega
 |fuel+1,size,n=>by
  unfold sizeAbove.go
  split
  ·have:=rf fuel (size*2) n
   omega
  ·omega
structure hV(prog:Program)(w:World)(h:Heap)(a:Addr)(xs:List (List Int×Addr)):Prop where
 ex:∃o es ep t,h.get? a=some o/\o.ExactSet/\o.data=.set es ep t/\es.toList=xs.map (fun x=>((TK prog w).hash x.1,Value.ref x.2))/\Tab t (xs.map fun x=>(TK prog w).hash x.1)/\(t.plain=true/\t.led=!w.params.followText "set-order")/\t.place.size*5<t.mask*3/\t.mask<=8191
 is_:∀x∈xs,(TK prog w).is h x.1 x.2
 nd:(xs.map (·.1)).Nodup
theorem ji {h h':Heap} {a b:Addr} {k:List Int} {o:Obj} (hk:(TK prog w).is h k b) (ho:h.get? a=some o) (hc:o.cls=.type "set") (hs:Heap.SameBut a h h'):(TK prog w).is h' k b:=by
 obtain⟨o',items,n,ho',hc',hd,hi⟩:=hk
 have ne:b≠a:=fun e=>by
  subst e
  rw[ho]at ho'
  cases ho'
  rw[hc]at hc'
  injection hc' with z
  exact absurd z (by decide)
 exact⟨o',items,n,hs.extBut b o' ne ho',hc',hd,hi⟩
theorem Ac{a:Addr}{xs:List (List Int×Addr)}{o:Obj}{es:Array (Int×Value)}{ep wanted:Nat}{t:SetTable}{Q:Unit->Shared->Prop}(ho:s.heap.get? a=some o)(hex:o.ExactSet)(hd:o.data=.set es ep t)(he:es.toList=xs.map fun x=>((TK prog w).hash x.1,Value.ref x.2))
  (T:Tab t (xs.map fun x=>(TK prog w).hash x.1)) (hpl:t.plain=true/\t.led=!w.params.followText "set-order") (his:∀x∈xs,(TK prog w).is s.heap x.1 x.2) (nd:(xs.map (·.1)).Nodup) (hw:wanted=4*xs.length) (hn:0<xs.length) (hl:xs.length<=1000)
  (hQ:∀h' ys,Heap.SameBut a s.heap h'->hV prog w h' a ys->ys.length=xs.length->(∀y,y∈ys↔y∈xs)->Q () {s with heap:=h'}):wpAny (model prog w) A (setRelay a wanted) Q E s:=by
 have sz:es.size=xs.length:=by rw[<- zAZ,he,zAA]
 have fits:t.fits es.size=true:=by have:=T.fits;rw[zAA]at this;rw[sz];exact this
 obtain⟨k,ek,eb⟩:=above (n:=wanted) (by omega)
 have up:sizeAbove wanted<=max 8 (2*wanted):=rf 64 8 wanted
 generalize hzs:(xs.map fun x=>((TK prog w).hash x.1,x)).toArray=zs
 have zz:zs.size=xs.length:=by rw[<- hzs];simp
 have zg:∀i:Nat,zs[i]?=xs[i]?.map fun x=>((TK prog w).hash x.1,x):=fun i=>by rw[<- hzs];simp
 have eg:∀i:Nat,es[i]?=xs[i]?.map fun x=>((TK prog w).hash x.1,Value.ref x.2):=fun i=>by rw[<- zAl,he,zAH]
 have em:es.map (·.1)=zs.map (·.1):=by
  apply Array.ext_getElem?
  intro i
  rw[Array.getElem?_map,Array.getElem?_map,zg,eg]
  cases xs[i]?<;>rfl
 obtain⟨t',order,el,m1,m2,m3,es',f1,f2,T',f3,f4,f5,f6⟩:=Bq ek t.finger (t.movedTo (sizeAbove wanted - 1)) t.led t.plain zs (by omega)
 have er:t.relaid (es.map (·.1)) wanted=some (t',order):=by unfold SetTable.relaid;rw[em];exact el
 generalize hys:es'.map (·.2)=ys
 have fo:∀l:List Nat,(l.filterMap fun i=>es[i]?)=(l.filterMap fun i=>zs[i]?).map fun z=>(z.1,Value.ref z.2.2):=fun l=>by
  induction l with
  |nil=>rfl
  |cons i r ih =>
   cases e:xs[i]? with
   |none=>rw[List.filterMap_cons_none (by rw[eg,e];rfl),List.filterMap_cons_none (by rw[zg,e];rfl),ih]
   |some x=>rw[zCL (by rw[eg,e];rfl),zCL (by rw[zg,e];rfl),zAK,ih]
 have f1':order.toList.filterMap (fun i=>zs[i]?)=es':=by rw[<- f1];simp
 have zform:∀z∈es',z=((TK prog w).hash z.2.1,z.2)/\z.2∈xs:=fun z hz=>by
  obtain⟨q,lq,eq⟩:=zBM hz
  obtain⟨i,_,hi⟩:=f4 q z (by rw[zAB lq,eq])
  rw[zg]at hi
  obtain⟨x,ex,e⟩:=zBB.mp hi
  subst e
  exact⟨rfl,zAT ex⟩
 have new:(order.filterMap fun i=>es[i]?).toList=ys.map fun x=>((TK prog w).hash x.1,Value.ref x.2):=by
  have:(order.filterMap fun i=>es[i]?).toList=order.toList.filterMap fun i=>es[i]?:=by simp
  rw[this,fo,f1',<- hys,zAo]
  apply zBd
  intro z hz
  obtain⟨e,_⟩:=zform z hz
  show(z.1,Value.ref z.2.2)=((TK prog w).hash z.2.1,Value.ref z.2.2)
  rw[show z.1=(TK prog w).hash z.2.1 from congrArg (·.1) e]
 have hsh:es'.map (·.1)=ys.map fun x=>(TK prog w).hash x.1:=by
  rw[<- hys,zAo]
  apply zBd
  intro z hz
  obtain⟨e,_⟩:=zform z hz
  exact congrArg (·.1) e
 have yl:ys.length=xs.length:=by rw[<- hys,zAA,f2,zz]
 have ym:∀y,y∈ys↔y∈xs:=fun y=>by
  rw[<- hys]
  constructor
  ·intro hy
   obtain⟨z,hz,rfl⟩:=zAQ.mp hy
   exact(zform z hz).2
  ·intro hy
   obtain⟨i,li,ei⟩:=zBM hy
   obtain⟨q,hq⟩:=f5 i (by rw[zz];exact li)
   have hz:((TK prog w).hash y.1,y)∈es':=by
    rw[<- f1',zCU]
    refine⟨i,?_,by rw[zg,zAB li,ei];rfl⟩
    rw[<- zAl]at hq
    exact zAT hq
   exact zAQ.mpr ⟨_,hz,rfl⟩
 have ynd:(ys.map (·.1)).Nodup:=by
  rw[<- hys,zAo]
  refine zAy.mpr fun p q lp lq hpq e=>?_
  rw[zAA]at lp lq
  simp only[zAz,Function.comp]at e
  obtain⟨i,oi,gi⟩:=f4 p es'[p] (zAB lp)
  obtain⟨i',oi',gi'⟩:=f4 q es'[q] (zAB lq)
  rw[zg]at gi gi'
  obtain⟨x,ex,e1⟩:=zBB.mp gi
  obtain⟨x',ex',e1'⟩:=zBB.mp gi'
  rw[<- e1,<- e1']at e
  have e2:x.1=x'.1:=e
  obtain⟨l1,l2⟩:=zAE.mp ex
  obtain⟨l1',l2'⟩:=zAE.mp ex'
  have ii:i=i':=by
   rcases zCd i i' with z|z|z
   ·have:=zAy.mp nd i i' (by rw[zAA];exact l1) (by rw[zAA];exact l1') z
    rw[zAz,zAz,l2,l2']at this
    exact absurd e2 this
   ·exact z
   ·have:=zAy.mp nd i' i (by rw[zAA];exact l1') (by rw[zAA];exact l1) z
    rw[zAz,zAz,l2,l2']at this
    exact absurd e2.symm this
  subst ii
  have:=f6 p q i oi oi'
  omega
 unfold setRelay
 refine wpAny_bind (wpAny_setState_of ho hd fits ?_)
 dsimp only
 rw[if_neg (by rw[sizeLine_eq];omega),er]
 have nsz:(order.filterMap fun i=>es[i]?).size=es.size:=by rw[<- zAZ,new,zAA,yl,sz]
 refine wpAny_bind ?_
 show wpAny _ _ (if((order.filterMap fun i=>es[i]?).size != es.size)=true then _ else pure (order.filterMap (fun i=>es[i]?),t')) _ _ _
 rw[if_neg (by rw[nsz];simp)]
 refine wpAny_pure ?_
 refine wpAny_storeSet_of ho hd ?_ (by rw[nsz,sz,sizeLine_eq];omega)
 have hg:(s.heap.update a (Obj.putSet (order.filterMap fun i=>es[i]?) t')).get? a=some {o with data:=.set (order.filterMap fun i=>es[i]?) (ep+1) t'}:=by
  have:=zBi (Obj.putSet (order.filterMap fun i=>es[i]?) t') ho (by rw[putSet_of _ _ hd];rfl)
  rw[putSet_of _ _ hd]at this
  exact this
 rw[hsh]at T'
 refine hQ _ ys (zBc ..) ⟨⟨_,_,ep+1,t',hg,hex,rfl,new,T',⟨by rw[m3];exact hpl.1,by rw[m2];exact hpl.2⟩,by rw[m1,f3,zz];omega,by rw[m1];omega⟩,fun y hy=>ji (his y ((ym y).mp hy)) ho hex.1 (zBc ..),ynd⟩ yl ym
theorem Ck{a b:Addr}{k:List Int}{xs:List (List Int×Addr)}{Q:Bool->Shared->Prop}(hu:A.units<cLine)(S:hV prog w s.heap a xs)(hk:(TK prog w).is s.heap k b)(hl:xs.length<1000)
  (hQ:∀h' ys b',Heap.SameBut a s.heap h'->hV prog w h' a ys->ys.length<=xs.length+1->(∀k',k'∈ys.map (·.1)↔k'∈xs.map (·.1)∨k'=k)->(∀y∈ys,y∈xs∨y=(k,b))->Q b' {s with heap:=h',toks:=s.toks+(TK prog w).draws k}) :
  wpAny (model prog w) A (setAdd a (.ref b)) Q E s:=by
 unfold setAdd
 refine wpAny_holding (wpAny_bind ((TK prog w).pyHash hu hk ?_))
 generalize hs':({s with toks:=s.toks+(TK prog w).draws k}:Shared)=s'
 have hh:s'.heap=s.heap:=by rw[<- hs']
 obtain⟨⟨o,es,ep,t,ho,hex,hd,he,T,hpl,hlo,hma⟩,his,nd⟩:=S
 rw[<- hh]at ho hk
 have his':∀x∈xs,(TK prog w).is s'.heap x.1 x.2:=by rw[hh];exact his
 have sz:es.size=xs.length:=by rw[<- zAZ,he,zAA]
 have fits:t.fits es.size=true:=by have:=T.fits;rw[zAA]at this;rw[sz];exact this
 have psz:t.place.size=xs.length:=by have:=T.len;rw[zAA]at this;exact this
 have back:∀(h':Heap) (b':Bool),Q b' {s with heap:=h',toks:=s.toks+(TK prog w).draws k}->Q b' {s' with heap:=h'}:=fun h' b' q=>by rw[<- hs'];exact q
 unfold setAddHashed
 refine wpAny_holding ?_
 unfold setAddHashedIn
 refine wpAny_bind (wpAny_setState_of ho hd fits ?_)
 dsimp only
 rw[if_neg (by unfold byScan;simp[Value.scannable])]
 obtain⟨c,ec⟩:=tT t ((TK prog w).hash k)
 have vl:=oJ t.mask ((TK prog w).hash k)
 unfold setSearch
 refine wpAny_bind (mG hu hk ho hd he his' T (fun hin=>?_) (fun hno j pre post hv hp hj=>?_) 100000 _ [] c none ec.symm (by simp) (by simp) (by unfold turns at vl;omega) rfl)
 ·dsimp only
  refine wpAny_pure ?_
  have e:s'={s' with heap:=s'.heap}:=by cases s';rfl
  rw[e]
  refine back _ _ (hQ s'.heap xs _ (by rw[hh];exact Heap.SameBut.refl a s.heap) ⟨⟨o,es,ep,t,ho,hex,hd,he,T,hpl,hlo,hma⟩,his',nd⟩ (by omega) (fun k'=>⟨.inl,fun z=>z.elim id fun z=>by subst z;exact hin⟩) fun y hy=>.inl hy)
 ·dsimp only
  refine wpAny_bind (wpAny_setState_of ho hd fits ?_)
  dsimp only
  obtain⟨T',pl,pm,ps⟩:=T.put hj hv hp (by omega)
  rw[zAA]at pl
  have hpp:(t.put j).1.plain=true:=hpl.1
  have hpq:(t.put j).1.plain=true/\(t.put j).1.led=!w.params.followText "set-order" := hpl
  rw[hpp]
  simp only[if_true]
  refine wpAny_bind (xv hk ?_)
  simp only[if_true]
  generalize hp2:(t.put j).2=p at *
  generalize ht2:(t.put j).1=t2 at *
  have isz:(insertAt es p ((TK prog w).hash k,Value.ref b)).toList=(xs.take p++(k,b)::xs.drop p).map fun x=>((TK prog w).hash x.1,Value.ref x.2):=by
   rw[kh,he,zA0,zAK,List.map_take,List.map_drop]
  have hlen:(xs.take p++(k,b)::xs.drop p).length=xs.length+1:=by
   rw[zAO,zBF,zAb,zBr]
   omega
  have isz2:(insertAt es p ((TK prog w).hash k,Value.ref b)).size=xs.length+1:=by rw[<- zAZ,isz,zAA,hlen]
  have mem:∀y,y∈xs.take p++(k,b)::xs.drop p↔y=(k,b)∨y∈xs:=fun y=>by
   rw[zAI,zAC]
   constructor
   ·rintro(z|z|z)
    ·exact .inr (List.mem_of_mem_take z)
    ·exact .inl z
    ·exact .inr (List.mem_of_mem_drop z)
   ·rintro(z|z)
    ·exact .inr (.inl z)
    ·rw[<- zBu p xs]at z
     rcases zAI.mp z with q|q
     ·exact .inl q
     ·exact .inr (.inr q)
  have nd2:((xs.take p++(k,b)::xs.drop p).map (·.1)).Nodup:=by
   rw[zA0,zAK]
   have n0:=nd
   have h0:=hno
   rw[<- zBu p xs,zA0]at n0 h0
   rw[List.nodup_append]at n0 ⊢
   obtain⟨n1,n2,n3⟩:=n0
   rw[zAI,not_or]at h0
   refine⟨n1,zBh.mpr ⟨h0.2,n2⟩,fun x hx y hy=>?_⟩
   rcases zAC.mp hy with z|z
   ·intro e;subst e;subst z;exact h0.1 hx
   ·exact n3 x hx y z
  have keyiff:∀zs:List (List Int×Addr),(∀y,y∈zs↔y∈xs.take p++(k,b)::xs.drop p)->∀k',k'∈zs.map (·.1)↔k'∈xs.map (·.1)∨k'=k:=fun zs hz k'=>by
   constructor
   ·intro h1
    obtain⟨y,hy,e⟩:=zAQ.mp h1
    rcases(mem y).mp ((hz y).mp hy)with q|q
    ·subst q;exact .inr e.symm
    ·exact .inl (zAQ.mpr ⟨y,q,e⟩)
   ·rintro(h1|h1)
    ·obtain⟨y,hy,e⟩:=zAQ.mp h1
     exact zAQ.mpr ⟨y,(hz y).mpr ((mem y).mpr (.inr hy)),e⟩
    ·subst h1
     exact zAQ.mpr ⟨(k',b),(hz _).mpr ((mem _).mpr (.inl rfl)),rfl⟩
  refine wpAny_bind (wpAny_storeSet_of ho hd ?_ (by rw[isz2,sizeLine_eq];omega))
  have hg:(s'.heap.update a (Obj.putSet (insertAt es p ((TK prog w).hash k,Value.ref b)) t2)).get? a=some {o with data:=.set (insertAt es p ((TK prog w).hash k,Value.ref b)) (ep+1) t2}:=by
   have:=zBi (Obj.putSet (insertAt es p ((TK prog w).hash k,Value.ref b)) t2) ho (by rw[putSet_of _ _ hd];rfl)
   rw[putSet_of _ _ hd]at this
   exact this
  have sb:=zBc s'.heap a (Obj.putSet (insertAt es p ((TK prog w).hash k,Value.ref b)) t2)
  generalize hh2:s'.heap.update a (Obj.putSet (insertAt es p ((TK prog w).hash k,Value.ref b)) t2)=h2 at hg sb ⊢
  have T2:Tab t2 ((xs.take p++(k,b)::xs.drop p).map fun x=>(TK prog w).hash x.1):=by
   rw[zA0,zAK,List.map_take,List.map_drop]
   exact T'
  have is2:∀x∈xs.take p++(k,b)::xs.drop p,(TK prog w).is h2 x.1 x.2:=fun x hx=>by
   rcases(mem x).mp hx with z|z
   ·subst z;exact ji hk ho hex.1 sb
   ·exact ji (his' x z) ho hex.1 sb
  by_cases tf:t2.tooFull=true
  ·rw[if_pos (by simp[tf])]
   refine wpAny_bind (Ac (s:={s' with heap:=h2}) (xs:=xs.take p++(k,b)::xs.drop p) hg hex rfl isz T2 hpq is2 nd2 ?_ (by omega) (by omega) fun h3 ys sb3 S3 yl ym=>?_)
   ·rw[hlen,sz]
    unfold SetTable.grown
    rw[if_neg (by omega)]
    omega
   ·refine wpAny_pure (back h3 true (hQ h3 ys true (by rw[<- hh];exact sb.trans sb3) S3 ?_ (keyiff ys ym) fun y hy=>?_))
    ·omega
    ·rcases(mem y).mp ((ym y).mp hy)with q|q
     ·exact .inr q
     ·exact .inl q
  ·rw[if_neg (by simp[tf])]
   refine wpAny_pure (back h2 true (hQ h2 _ true (by rw[<- hh];exact sb) ⟨⟨_,_,ep+1,t2,hg,hex,rfl,isz,T2,hpq,?_,by rw[pm];exact hma⟩,is2,nd2⟩ (by omega) (keyiff _ fun _=>Iff.rfl) fun y hy=>?_))
   ·have tf':t2.tooFull=false:=by simpa using tf
    unfold SetTable.tooFull SetTable.fill at tf'
    rw[T2.dum]at tf'
    simp at tf'
    omega
   ·rcases(mem y).mp hy with q|q
    ·exact .inr q
    ·exact .inl q
end
end SW
namespace SW
open PySem PySem.SetTable ST
theorem qh:entryFor table "set.update.loop" = some Builtin.«set.update.loop»:=entryFor_of_tree (by kernel_rfl)
theorem lB:plainId "set.update.loop" = true:=by decide +kernel
section
variable{prog:Program}{w:World}{A:Around}{E:Value->Shared->Prop}{s:Shared}
theorem jN{h h':Heap}{b:Addr}{k:List Int}(hk:(TK prog w).is h k b)(e:∀o,h.get? b=some o->h'.get? b=some o):(TK prog w).is h' k b:=by
 obtain⟨o',items,n,ho',r⟩:=hk
 exact⟨o',items,n,e o' ho',r⟩
theorem key_ne {h:Heap} {a b:Addr} {k:List Int} {o:Obj} {T:String} (hk:(TK prog w).is h k b) (ho:h.get? a=some o) (hc:o.cls=.type T) (hT:T ≠ "tuple"):b≠a:=fun e=>by
 subst e
 obtain⟨o',items,n,ho',hc',_⟩:=hk
 rw[ho]at ho'
 cases ho'
 rw[hc]at hc'
 injection hc' with z
 exact hT z
theorem hV.ext{h h':Heap}{a:Addr}{xs:List (List Int×Addr)}(S:hV prog w h a xs)(e:∀o,h.get? a=some o->h'.get? a=some o)(hk:∀x∈xs,(TK prog w).is h' x.1 x.2):hV prog w h' a xs:=by
 obtain⟨⟨o,es,ep,t,ho,r⟩,_,nd⟩:=S
 exact⟨⟨o,es,ep,t,e o ho,r⟩,hk,nd⟩
theorem Bs {a I l : Addr} {items : Array Value} {R : Result -> Shared -> Prop} (hh : A.handled = none) (hu : A.in1.units < cLine) (haI : a ≠ I) (hal : a ≠ l) (hlI : l ≠ I) (hn : items.size <= 900) (ks : Nat -> List Int) :
  ∀ (m i : Nat) (s : Shared) (xs : List (List Int × Addr)), items.size - i = m -> i <= items.size -> (s.heap.IsListIter I l i /\ s.heap.IsList l items) -> hV prog w s.heap a xs -> xs.length <= i →
   (∀ (j : Nat) (v : Value), items[j]? = some v -> ∃ c, v = .ref c /\ (TK prog w).is s.heap (ks j) c) -> (∀ k, k ∈ xs.map (·.1) ↔ ∃ j, j < i /\ k = ks j) -> (∀ x ∈ xs, ∃ j, j < i /\ items[j]? = some (.ref x.2)) →
   (∀ h' tk ys, (∀ b o, b ≠ a -> b ≠ I -> s.heap.get? b = some o -> h'.get? b = some o) -> hV prog w h' a ys -> ys.length <= items.size -> (∀ k, k ∈ ys.map (·.1) ↔ ∃ j, j < items.size /\ k = ks j) -> (∀ x ∈ ys, ∃ j, j < items.size /\ items[j]? = some (.ref x.2)) →
    R (.ok (.ret .none)) { s with heap := h', toks := tk }) -> codeAny (model prog w) A (.builtin "set.update.loop" ⟨[.ref a, .ref I], []⟩) R s := by
 have W := Walks.list (prog := prog) (w := w) (A := A.in1) (show A.in1.handled = none from hh) I l hlI items
 intro m
 induction m with
 | zero =>
  intro i s xs hm hi st S hx hk hks hxi hR
  have e : i = items.size := by omega
  subst e
  refine codeAny_builtin qh ?_
  rw [Around.under_plainId lB _]
  show wpAny _ A.in1 (pyNext (.ref I) >>= _) _ _ s
  refine wpAny_bind (W.done s _ _ st fun h' tk kp => ?_)
  obtain ⟨⟨o, ho, hc, _⟩, _⟩ := st
  have kp' : ∀ b o, b ≠ I -> s.heap.get? b = some o -> h'.get? b = some o := fun b o hb e => kp b o (by simpa using hb) e
  refine wpAny_pure (hR h' tk xs (fun b o _ hb e => kp' b o hb e) (S.ext (fun o e => kp' a o haI e) fun x hx' => ?_) hx hks hxi)
  exact jN (S.is_ x hx') fun o' e => kp' _ o' (key_ne (S.is_ x hx') ho hc (by decide)) e
 | succ m ih =>
  intro i s xs hm hi st S hx hk hks hxi hR
  have hlt : i < items.size := by omega
  refine codeAny_builtin qh ?_
  rw [Around.under_plainId lB _]
  show wpAny _ A.in1 (pyNext (.ref I) >>= _) _ _ s
  refine wpAny_bind (W.item i s _ _ hlt st fun v h' tk hv st' kp => ?_)
  obtain ⟨⟨o, ho, hc, _⟩, _⟩ := id st
  have kp' : ∀ b o, b ≠ I -> s.heap.get? b = some o -> h'.get? b = some o := fun b o hb e => kp b o (by simpa using hb) e
  have up : ∀ {k : List Int} {c : Addr}, (TK prog w).is s.heap k c -> (TK prog w).is h' k c := fun q => jN q fun o' e => kp' _ o' (key_ne q ho hc (by decide)) e
  have S' : hV prog w h' a xs := S.ext (fun o e => kp' a o haI e) fun x hx' => up (S.is_ x hx')
  obtain ⟨c, rfl, hkc⟩ := hk i v hv
  show wpAny _ A.in1 (holding [.ref c] (setAdd a (.ref c)) >>= _) _ _ _
  refine wpAny_bind (wpAny_holding (Ck (s := { s with heap := h', toks := tk }) hu S' (up hkc) (by omega) fun h2 ys b' sb S2 yl km ym => ?_))
  obtain ⟨⟨o2, _, _, _, ho2, hex2, _⟩, _, _⟩ := id S'
  have up2 : ∀ {k : List Int} {c : Addr}, (TK prog w).is h' k c -> (TK prog w).is h2 k c := fun q => ji q ho2 hex2.1 sb
  have st2 : h2.IsListIter I l (i + 1) /\ h2.IsList l items := W.frame _ _ _ st' fun b hb o e => by
   refine sb.extBut b o (fun q => ?_) e
   subst q
   simp only [zAC, zAS, or_false] at hb
   rcases hb with z | z
   ·exact haI z
   ·exact hal z
  refine wpAny_pure ⟨plainId_quiet lB _, ih (i + 1) _ ys (by omega) hlt st2 S2 (by omega) (fun j v hj => ?_) (fun k => ?_) (fun x hx' => ?_) fun h3 tk3 zs kp3 S3 zl zk zi => ?_⟩
  ·obtain ⟨c', e, q⟩ := hk j v hj
   exact ⟨c', e, up2 (up q)⟩
  ·rw [km k, hks k]
   constructor
   ·rintro (⟨j, hj, e⟩ | e)
    ·exact ⟨j, by omega, e⟩
    ·exact ⟨i, by omega, e⟩
   ·rintro ⟨j, hj, e⟩
    by_cases z : j < i
    ·exact .inl ⟨j, z, e⟩
    ·have : j = i := by omega
     subst this
     exact .inr e
  ·rcases ym x hx' with z | z
   ·obtain ⟨j, hj, e⟩ := hxi x z
    exact ⟨j, by omega, e⟩
   ·subst z
    exact ⟨i, by omega, hv⟩
  ·exact hR h3 tk3 zs (fun b o h1 h2' e => kp3 b o h1 h2' (sb.extBut b o h1 (kp' b o h2' e))) S3 zl zk zi
end
end SW
namespace SW
open PySem PySem.SetTable ST
theorem qP (a:Value):checkTypeCall "set" ⟨[a],[]⟩=pure ():=by kernel_rfl
theorem sR (a:Value):checkBuiltinCall "set.__new__" ⟨[.type "set", a],[]⟩=pure ():=by kernel_rfl
section
variable{prog:Program}{w:World}{A:Around}{E:Value->Shared->Prop}{s:Shared}
theorem qK(a:Value){Q₁:Value->Shared->Prop}
  (h:∀led:Bool,led=(!w.params.followText "set-order")->Q₁ (.ref s.heap.objs.size) {s with heap:=s.heap.push {cls:=.type "set", dict:=none,data:=.set #[] 0 (.fresh 0 0 led)} }) :
  codeAny (model prog w) A (.call (.builtin "set.__new__") ⟨[.type "set", a],[]⟩) (wants Q₁ E) s:=by
 refine codeAny_of_tree ?_
 show wpAny _ A.in1 (do checkBuiltinCall "set.__new__" ⟨[.type "set", a],[]⟩;again (.builtin "set.__new__" ⟨[.type "set", a],[]⟩)) _ _ s
 refine wpAny_bind (wpAny_of_eq (sR a) (wpAny_pure ⟨plainId_quiet F.plain_set_new _,codeAny_builtin F.entry_set_new ?_⟩));rw[Around.under_plainId F.plain_set_new _]
 unfold Builtin.«set.__new__» Builtin.Frozenset.newClass;have hsub:=sub_set_self;obtain⟨hp,g,d,tk,os⟩:=s
 dsimp only;wp_walk;refine wpAny_askSetting (wpAny_pure ?_);dsimp only;simp only[newObj];refine wpAny_bind (wpAny_alloc (wpAny_pure ?_))
 exact wpAny_pure (h _ rfl)
theorem tW {M:Model} {self x:Value} {Q:Unit->Shared->Prop} (hT:s.TypeIs self "set") (hQ:Q () s):wpAny M A (checkBuiltinCall "set.__init__" ⟨[self,x],[]⟩) Q E s:=by
 simp only[checkBuiltinCall,kind_set_init,split_set_init,sig_set_init];refine wpAny_bind (wpAny_isInstance hT sub_set_self ?_)
 simp only[zCo,zAa,if_false];unfold Bind.checkArgs;dsimp only
 refine wpAny_bind (m:=Bind.printed "set" true _ _) (PyProof.Rows.printed_name (by decide) ?_);refine wpAny_bind (m:=Bind.printed "*" false _ _) (PyProof.Rows.printed_star (self:=self) rfl hT fun short=>?_)
 have hrn:(Manifest.Receiver.self==Manifest.Receiver.none)=false:=by decide
 rw[show(if(Manifest.Receiver.self==Manifest.Receiver.none)=true then[self,x].length else[self,x].length - 1)=1 by simp[hrn]]
 simp only[zBZ]
 rw[show Bind.check ⟨.positional,"set", "*", .self,[⟨"iterable", .posOnly,false⟩]⟩ "set" short 1 []=pure ()by(simp[Bind.check,Bind.checkCount,Bind.isPositional];intro z;exact absurd z (by decide))]
 exact wpAny_pure hQ
set_option maxHeartbeats 1000000 in
theorem w8 {x:Value} {Q:Value->Shared->Prop} (h:∀led:Bool,led=(!w.params.followText "set-order")->wpAny (model prog w) A.in1.in1 (Builtin.«set.__init__» ⟨[.ref s.heap.objs.size,x],[]⟩)
   (fun fin s'=>match fin with|.done f=>wants (fun r s₂=>r=.none/\Q (.ref s.heap.objs.size) s₂) E (.ok f) s'|.again c'=>c'.quiet=true/\codeAny (model prog w) A.in1 c' (wants (fun r s₂=>r=.none/\Q (.ref s.heap.objs.size) s₂) E) s')
   (fun e s'=>wants (fun r s₂=>r=.none/\Q (.ref s.heap.objs.size) s₂) E (.error e) s') {s with heap:=s.heap.push {cls:=.type "set", dict:=none,data:=.set #[] 0 (.fresh 0 0 led)} }) :
  wpAny (model prog w) A (call (.type "set") [x]) Q E s:=by
 obtain⟨c,tl,hmro⟩:=F.called_set.mro;have hmade:=F.called_set.made;have hsub:=F.called_set.sub
 refine wpAny_call (codeAny_of_tree ?_);show wpAny _ _ (callAny (.type "set") _) _ _ _
 refine wpAny_pure ⟨Code.quiet_builtin _ (by decide +kernel),codeAny_builtin F.entry_type_call ?_⟩;rw[Around.under_plain (weight_type_call_type "set" [x] []) rfl]
 have h1:=F.called_set.notType;have h2:=F.called_set.canCreate;have hct:=qP x
 repeat (any_goals (first|assumption|wp_step))
 refine codeAny_mono (qK (E:=E) x (Q₁:=fun obj s₁=>∃led:Bool,led=(!w.params.followText "set-order")/\obj=.ref s.heap.objs.size/\s₁={s with heap:=s.heap.push {cls:=.type "set", dict:=none,data:=.set #[] 0 (.fresh 0 0 led)} }) fun led hle=>⟨led,hle,rfl,rfl⟩) fun r s₁ hr=>?_
 cases r with
 |error e=>exact hr
 |ok fl =>
  cases fl with
  |ret obj =>
   obtain⟨led,hle,rfl,rfl⟩:=hr
   have hT:Shared.TypeIs {s with heap:=s.heap.push {cls:=.type "set", dict:=none,data:=.set #[] 0 (.fresh 0 0 led)} } (.ref s.heap.objs.size) "set" := ⟨_,zAU _ rfl,rfl⟩
   have hli:=F.called_set.init.lookup;have hbi:=F.called_set.init.bind (.ref s.heap.objs.size)
   repeat (any_goals (first|assumption|wp_step))
   refine codeAny_mono (codeAny_call_builtin (R:=wants (fun r s₂=>r=.none/\Q (.ref s.heap.objs.size) s₂) E) F.called_set.init.plain F.entry_set_init (tW hT (h led hle))) fun r₂ s₂ hr₂=>?_
   cases r₂ with
   |error e=>exact hr₂
   |ok fl₂ =>
    cases fl₂ with
    |ret r =>
     obtain⟨rfl,hq⟩:=hr₂
     repeat (any_goals (first|assumption|wp_step))
    |_=>exact hr₂.elim
  |_=>exact hr.elim
theorem Bh (led:Bool) (hle:led=!w.params.followText "set-order"):hV prog w (s.heap.push {cls:=.type "set", dict:=none,data:=.set #[] 0 (.fresh 0 0 led)}) s.heap.objs.size []:=by
 refine⟨⟨_,#[],0,_,zAU _ rfl,⟨rfl,rfl,rfl⟩,rfl,rfl,?_,⟨rfl,hle⟩,by show 0*5<7*3;decide,by show 7<=8191;decide⟩,by simp,by simp⟩
 refine⟨⟨2,rfl⟩,fun a b _ hb=>absurd hb (zCu _),(fun x hx=>by cases hx),rfl,rfl,zAk _,fun a x h hx=>?_⟩
 have:(#[]:Array Nat)[a]?=some x:=hx
 simp at this
theorem DU:isSubtype (.type "list") (.type "set")=pure false:=by rw[isSubtype_type];kernel_rfl
theorem DR:isSubtype (.type "list") (.type "frozenset")=pure false:=by rw[isSubtype_type];kernel_rfl
theorem call_set_list {l : Addr} {items : Array Value} {Q : Value -> Shared -> Prop} (hh : A.handled = none) (hu : A.in1.in1.in1.units < cLine) (hl : s.heap.IsList l items) (hn : items.size <= 900) (ks : Nat -> List Int)
  (hk : ∀ (j : Nat) (v : Value), items[j]? = some v -> ∃ c, v = .ref c /\ (TK prog w).is s.heap (ks j) c)
  (hQ : ∀ h' tk ys, (∀ b o, s.heap.get? b = some o -> h'.get? b = some o) -> hV prog w h' s.heap.objs.size ys -> ys.length <= items.size -> (∀ k, k ∈ ys.map (·.1) ↔ ∃ j, j < items.size /\ k = ks j) -> (∀ x ∈ ys, ∃ j, j < items.size /\ items[j]? = some (.ref x.2)) →
   Q (.ref s.heap.objs.size) { s with heap := h', toks := tk }) : wpAny (model prog w) A (call (.type "set") [.ref l]) Q E s := by
 refine w8 fun led hle => ?_
 have hS : (s.heap.push { cls := .type "set", dict := none, data := .set #[] 0 (.fresh 0 0 led) }).get? s.heap.objs.size = some { cls := .type "set", dict := none, data := .set #[] 0 (.fresh 0 0 led) } := zAU _ rfl
 have hT : Shared.TypeIs { s with heap := s.heap.push { cls := .type "set", dict := none, data := .set #[] 0 (.fresh 0 0 led) } } (.ref s.heap.objs.size) "set" := ⟨_, hS, rfl⟩
 have ll : l < s.heap.objs.size := by obtain ⟨o, ho, _⟩ := hl; exact zAJ ho
 have hT2 : Shared.TypeIs { s with heap := s.heap.push { cls := .type "set", dict := none, data := .set #[] 0 (.fresh 0 0 led) } } (.ref l) "list" := by
  obtain ⟨o, ho, hc, _⟩ := hl
  exact ⟨o, zAF _ ho, hc⟩
 have S0 := Bh (prog := prog) (w := w) (s := s) led hle
 have hl1 : (s.heap.push { cls := .type "set", dict := none, data := .set #[] 0 (.fresh 0 0 led) }).IsList l items := hl.push _
 have sz1 : (s.heap.push { cls := .type "set", dict := none, data := .set #[] 0 (.fresh 0 0 led) }).objs.size = s.heap.objs.size + 1 := zB6 ..
 have kp1 : ∀ b o, s.heap.get? b = some o -> (s.heap.push { cls := .type "set", dict := none, data := .set #[] 0 (.fresh 0 0 led) }).get? b = some o := fun b o e => zAF _ e
 unfold Builtin.«set.__init__» noKeywords
 wp_walk
 refine wpAny_of_eq DU ?_
 show wpAny _ _ (isInstance (.ref l) (.type "frozenset")) _ _ _
 refine wpAny_isInstance hT2 DR ?_
 simp only [zAa, if_false]
 refine wpAny_bind (wpAny_typeOf hT2 ?_)
 rw [if_neg (by decide)]
 generalize s.heap.push { cls := .type "set", dict := none, data := .set #[] 0 (.fresh 0 0 led) } = h1 at *
 refine wpAny_bind (wpAny_pyIter_list hl1 ?_)
 refine wpAny_bind (wpAny_runValue ?_)
 have ne1 : s.heap.objs.size ≠ h1.objs.size := by omega
 refine Bs (A := A.in1.in1) (I := h1.objs.size) (l := l) (items := items) hh hu ne1 (zCD ll) (zAr (by rw [sz1]; exact zBm ll)) hn ks items.size 0 { s with heap := h1.push { cls := .type "list_iterator", data := .fields #[.ref l, .int 0 0] } } [] (by omega) (zAk _) ⟨⟨_, zAU _ rfl, rfl, rfl⟩, hl1.push _⟩ (S0.ext (fun o e => zAF _ e) (by simp)) (zAM _) (fun j v hj => ?_) (by simp) (by simp) fun h' tk ys kp S yl yk yi => ?_
 ·obtain ⟨c, e, q⟩ := hk j v hj
  exact ⟨c, e, jN q fun o e => zAF _ (kp1 c o e)⟩
 ·refine wpAny_pure (wpAny_pure ⟨rfl, hQ h' tk ys (fun b o e => ?_) S yl yk yi⟩)
  have lb : b < s.heap.objs.size := zAJ e
  exact kp b o (zAr lb) (zAr (by rw [sz1]; exact zBm lb)) (zAF _ (kp1 b o e))
end
end SW
namespace SW
open PySem PySem.SetTable ST
theorem nN{α:Type}:∀(l:List α) (i:Nat) (h:i<l.length),(l[i]::l.eraseIdx i).Perm l
 |[],_,h=>absurd h (zCu _)
 |x::l,0,_=>List.Perm.refl _
 |x::l,i+1,h=>by
  have r:=nN l i (by simpa using h)
  show(l[i]'(by simpa using h)::x::l.eraseIdx i).Perm (x::l)
  exact(List.Perm.swap x _ _).trans (List.Perm.cons x r)
theorem uS{α:Type}(next:Nat->Nat):∀(fuel k:Nat) (left:List α) (out:Array α),left.length=fuel->(pickOrder.go next fuel k left out).toList.Perm (out.toList++left)
 |0,k,left,out,e=>by
  have:left=[]:=List.length_eq_zero_iff.mp e
  subst this
  simp[pickOrder.go]
 |fuel+1,k,left,out,e=>by
  have hp:0<left.length:=by omega
  have hm:next k % left.length<left.length:=zB1 _ hp
  unfold pickOrder.go
  rw[zAB hm]
  dsimp only
  have r:=uS next fuel (k+1) (left.eraseIdx (next k % left.length)) (out.push left[next k % left.length]) (by rw[List.length_eraseIdx,if_pos hm];omega)
  refine r.trans ?_
  rw[Array.toList_push,zA7]
  exact(List.perm_append_left_iff _).mpr (nN left _ hm)
theorem xW{α:Type}(next:Nat->Nat)(xs:Array α):(pickOrder next xs).toList.Perm xs.toList:=by
 have:=uS next xs.size 0 xs.toList #[] (by simp)
 simpa [pickOrder]using this
theorem vy{xs:Array Nat}(hr:hU xs):below xs 0=0:=by
 obtain⟨h1,h2,h3⟩:=iC hr 0
 rcases Nat.eq_zero_or_pos (below xs 0)with z|z
 ·exact z
 ·have:=h2 0 z;omega
theorem vx{xs:Array Nat}(hr:hU xs){a j:Nat}(h:xs[a]?=some j):below xs (j+1)=a+1:=by
 obtain⟨h1,h2,h3⟩:=iC hr (j+1)
 obtain⟨la,ea⟩:=zBE.mp h
 have ga:xs.getD a 0=j:=by simp[Array.getD,la,ea]
 rcases zCd (below xs (j+1)) (a+1)with z|z|z
 ·have:=h3 a (by omega) la
  omega
 ·exact z
 ·have q:=h2 (a+1) z
  have lb:a+1<xs.size:=by omega
  have:=hr a (a+1) (by omega) lb
  omega
theorem tq:Manifest.owners.lookup (String.ofList ['r','o','t','a','r','e','t','i','_','t','e','s'].reverse)=some Manifest.sig_set_iterator:=by kernel_rfl
theorem cS:Slot "set_iterator" "__next__" "set_iterator.__next__" :=
 .of (owner := "set_iterator") (n := "__next__") (by rw[typeLookup_type,builtinLookup_eq_fast];kernel_rfl) (by decide +kernel) (by decide +kernel) (by decide +kernel) (.inl (by decide +kernel)) (by rw[isSubtype_type];kernel_rfl)
theorem lL:Slot "set_iterator" "__iter__" "set_iterator.__iter__" :=
 .of (owner := "set_iterator") (n := "__iter__") (by rw[typeLookup_type,builtinLookup_eq_fast];kernel_rfl) (by decide +kernel) (by decide +kernel) (by decide +kernel) (.inl (by decide +kernel)) (by rw[isSubtype_type];kernel_rfl)
theorem kN:entryFor table "set_iterator.__next__" = some Builtin.«set_iterator.__next__»:=entryFor_of_tree (by kernel_rfl)
theorem qL:entryFor table "set_iterator.__iter__" = some Builtin.«dict_keyiterator.__iter__»:=entryFor_alias (id' := "dict_keyiterator.__iter__") (by kernel_rfl) rfl (by decide +kernel) (by kernel_rfl)
theorem r9:entryFor table "set.__iter__" = some Builtin.«frozenset.__iter__»:=entryFor_alias (id' := "frozenset.__iter__") (by kernel_rfl) rfl (by decide +kernel) (by kernel_rfl)
theorem kR (a:Value):argsOk "set_iterator.__next__" ⟨[a],[]⟩:=by
 unfold argsOk;rw[signature?_of (id := "set_iterator.__next__") (n:=['_','_','t','x','e','n','_','_']) (o:=['r','o','t','a','r','e','t','i','_','t','e','s']) (by kernel_rfl) tq];kernel_rfl
theorem ro (a:Value):argsOk "set_iterator.__iter__" ⟨[a],[]⟩:=by
 unfold argsOk;rw[signature?_of (id := "set_iterator.__iter__") (n:=['_','_','r','e','t','i','_','_']) (o:=['r','o','t','a','r','e','t','i','_','t','e','s']) (by kernel_rfl) tq];kernel_rfl
def d6 (w:World) (a:Addr) (es:Array (Int×Value)) (ep:Nat):Array (Int×Value):=if w.params.followText "set-order" = true then pickOrder (w.params.setOrder a ep) es else es
theorem mL(w:World)(a:Addr)(es:Array (Int×Value))(ep:Nat):(d6 w a es ep).toList.Perm es.toList:=by
 unfold d6
 split
 ·exact xW _ _
 ·exact List.Perm.refl _
theorem jI(w:World)(a:Addr)(es:Array (Int×Value))(ep:Nat):(d6 w a es ep).size=es.size:=by
 have:=(mL w a es ep).length_eq
 simpa using this
def oP(w:World)(h:Heap)(I a:Addr)(t:SetTable)(n ep i:Nat):Prop :=
 ∃ o slot,h.get? I=some o/\o.cls=.type "set_iterator" /\ o.data=.fields #[.int (slot:Nat) 0,.int (i:Nat) 0,.ref a,.int (n:Nat) 0,.int (ep:Nat) 0]/\(w.params.followText "set-order" = false->below t.place slot=i)
section
variable{prog:Program}{w:World}{A:Around}{E:Value->Shared->Prop}{s:Shared}
theorem pQ {I a:Addr} {t:SetTable} {n ep i:Nat} (x:oP w s.heap I a t n ep i):s.TypeIs (.ref I) "set_iterator" := by
 obtain⟨o,_,ho,hc,_⟩:=x
 exact⟨o,ho,hc⟩
theorem oz{a:Addr}{o:Obj}{es:Array (Int×Value)}{ep slot i:Nat}{t:SetTable}{hs:List Int}{Q:Option (Value×Nat)->Shared->Prop}(ho:s.heap.get? a=some o)(hd:o.data=.set es ep t)(T:Tab t hs)(he:hs.length=es.size)
  (hpl:t.plain=true/\t.led=!w.params.followText "set-order") (hb:w.params.followText "set-order" = false->below t.place slot=i)
  (hQ:∀z,(d6 w a es ep)[i]?.map (·.2)=z.map (·.1)->(∀p,z=some p->w.params.followText "set-order" = false->below t.place p.2=i+1)->Q z s):wpAny (model prog w) A (setNext a slot i ep) Q E s:=by
 have fits:t.fits es.size=true:=by rw[<- he];exact T.fits
 unfold setNext
 refine wpAny_bind (wpAny_setState_of ho hd fits ?_)
 dsimp only
 unfold setsByText
 refine wpAny_bind (wpAny_bind (wpAny_askSetting (wpAny_pure ?_)))
 show wpAny _ _ (if w.params.followText "set-order" = true then _ else _) _ _ _
 by_cases hf:w.params.followText "set-order" = true
 ·rw[if_pos hf]
  simp only[bne_self_eq_false,zAa,if_false]
  unfold setWalk setsByText
  refine wpAny_bind (wpAny_bind (wpAny_setState_of ho hd fits ?_))
  dsimp only
  refine wpAny_bind (wpAny_bind (wpAny_askSetting (wpAny_pure ?_)))
  show wpAny _ _ (if w.params.followText "set-order" = true then _ else _) _ _ _
  rw[if_pos hf]
  refine wpAny_bind (wpAny_askSetting (wpAny_pure ?_))
  show wpAny _ _ (pure _) _ _ _
  refine wpAny_pure (hQ _ ?_ ?_)
  ·unfold d6
   rw[if_pos hf]
   show _=Option.map _ (Option.map _ (pickOrder (w.params.setOrder a ep) es)[i]?)
   cases(pickOrder (w.params.setOrder a ep) es)[i]?<;>rfl
  ·intro p _ h
   rw[hf]at h
   cases h
 ·have hf':w.params.followText "set-order" = false:=by simpa using hf
  rw[if_neg hf]
  split
  ·rename_i h
   have h':(!t.plain && decide (es.size > 1))=true:=h
   rw[hpl.1]at h'
   simp at h'
  ·refine wpAny_bind ?_
   show wpAny _ _ (if(!t.led && !es.isEmpty)=true then unsupported "set:maker-not-led" else pure ()) _ _ _
   rw[if_neg (by rw[hpl.2,hf'];simp)]
   refine wpAny_pure (wpAny_pure (hQ _ ?_ ?_))
   ·unfold d6
    rw[if_neg hf,hb hf']
    cases e:es[i]? with
    |none=>rfl
    |some z =>
     have li:i<es.size:=(zBE.mp e).1
     have e2:t.place[i]?=some (t.place[i]'(by rw[T.len,he];exact li)):=zAm _
     rw[e2]
     rfl
   ·intro p hp _
    rw[hb hf']at hp
    split at hp
    ·rename_i j e
     cases hp
     exact vx T.rise e
    ·cases hp
theorem BZ{I a:Addr}{o:Obj}{es:Array (Int×Value)}{ep i:Nat}{t:SetTable}{hs:List Int}{x:Int×Value}{Q:Option Value->Shared->Prop}(ho:s.heap.get? a=some o)(hd:o.data=.set es ep t)(T:Tab t hs)(he:hs.length=es.size)
  (hpl:t.plain=true/\t.led=!w.params.followText "set-order") (st:oP w s.heap I a t es.size ep i) (hx:(d6 w a es ep)[i]?=some x)
  (hQ:∀h',oP w h' I a t es.size ep (i+1)->Heap.SameBut I s.heap h'->Q (some x.2) {s with heap:=h'}):wpAny (model prog w) A (pyNext (.ref I)) Q E s:=by
 obtain⟨oi,slot,hoi,hci,hdi,hb⟩:=id st
 have hT:=pQ st
 have fits:t.fits es.size=true:=by rw[<- he];exact T.fits
 unfold pyNext
 refine wpAny_bind (wpAny_attempt (wpAny_callSpecial?_slot (name:=Str.ofString "__next__") hT cS (wpAny_call_entry cS hT kN ?_ (kR _))))
 unfold Builtin.«set_iterator.__next__»
 refine wpAny_bind (m:=slotArgs "__next__" 0 ⟨[.ref I],[]⟩) (wpAny_pure ?_)
 dsimp only
 refine wpAny_bind (wpAny_fieldsOf hoi hdi ?_)
 dsimp only
 unfold setEntries
 refine wpAny_bind (wpAny_bind (wpAny_setState_of ho hd fits (wpAny_pure ?_)))
 dsimp only
 rw[if_neg (by simp)]
 simp only[zCb]
 refine wpAny_bind (oz ho hd T he hpl hb fun z hz hn=>?_)
 rw[hx]at hz
 cases z with
 |none=>cases hz
 |some p =>
  obtain⟨v,nx⟩:=p
  have ev:x.2=v:=zAi hz
  subst ev
  dsimp only
  refine wpAny_bind (wpAny_setField hoi hdi (by simp) ?_)
  have h1:=zBi (Obj.mapFields (·.setIfInBounds 0 (rawInt (nx:Nat)))) hoi (Obj.isFreed_of_fields (Obj.data_mapFields hdi _))
  have d1:=Obj.data_mapFields hdi (·.setIfInBounds 0 (rawInt (nx:Nat)))
  refine wpAny_bind (wpAny_setField h1 d1 (by simp) ?_)
  refine wpAny_pure ⟨_,rfl,wpAny_pure (hQ _ ⟨_,nx,zBi _ h1 (Obj.isFreed_of_fields (Obj.data_mapFields d1 _)),(Obj.cls_mapFields ..).trans ((Obj.cls_mapFields ..).trans hci),?_,hn _ rfl⟩ ((zBc ..).trans (zBc ..)))⟩
  rw[Obj.data_mapFields d1]
  simp[rawInt]
theorem DL{I a:Addr}{o:Obj}{es:Array (Int×Value)}{ep i:Nat}{t:SetTable}{hs:List Int}{Q:Option Value->Shared->Prop}(hh:A.handled=none)(ho:s.heap.get? a=some o)(hd:o.data=.set es ep t)(T:Tab t hs)(he:hs.length=es.size)
  (hpl:t.plain=true/\t.led=!w.params.followText "set-order") (st:oP w s.heap I a t es.size ep i) (hx:(d6 w a es ep)[i]?=none)
  (hQ:∀h',Heap.ExtBut I s.heap h'->Q none {s with heap:=h'}):wpAny (model prog w) A (pyNext (.ref I)) Q E s:=by
 obtain⟨oi,slot,hoi,hci,hdi,hb⟩:=id st
 have hT:=pQ st
 have fits:t.fits es.size=true:=by rw[<- he];exact T.fits
 unfold pyNext
 refine wpAny_bind (wpAny_attempt (wpAny_callSpecial?_slot (name:=Str.ofString "__next__") hT cS (wpAny_call_entry cS hT kN ?_ (kR _))))
 unfold Builtin.«set_iterator.__next__»
 refine wpAny_bind (m:=slotArgs "__next__" 0 ⟨[.ref I],[]⟩) (wpAny_pure ?_)
 dsimp only
 refine wpAny_bind (wpAny_fieldsOf hoi hdi ?_)
 dsimp only
 unfold setEntries
 refine wpAny_bind (wpAny_bind (wpAny_setState_of ho hd fits (wpAny_pure ?_)))
 dsimp only
 rw[if_neg (by simp)]
 simp only[zCb]
 refine wpAny_bind (oz ho hd T he hpl hb fun z hz hn=>?_)
 rw[hx]at hz
 cases z with
 |some p=>cases hz
 |none =>
  dsimp only
  refine wpAny_bind (wpAny_setField hoi hdi (by simp) ?_)
  show wpAny _ _ (newExc (.type "StopIteration") [] >>= _) _ _ _
  refine wpAny_bind ?_
  simp only[newExc,newTuple]
  refine wpAny_bind (wpAny_newObj_type ?_ (by size_fits))
  refine wpAny_bind (m:=firstArgMember _ _) (wpAny_of_eq (a:=Value.none) (by first|rfl|(simp only[firstArgMember];rfl)) ?_)
  refine wpAny_newObj_type ?_ (by size_fits)
  simp only[raiseNew]
  refine wpAny_bind (wpAny_handled ?_)
  rw[show A.in1.handled=none from hh]
  refine wpAny_bind (wpAny_pure (wpAny_throw ?_))
  refine wpAny_bind (wpAny_isInstance (T := "StopIteration") (b:=true) ⟨_,zAU _ rfl,rfl⟩ isSubtype_stop ?_)
  exact wpAny_pure (hQ _ (((zBc ..).extBut.push _).push _))
theorem B2{I a:Addr}{t:SetTable}{n ep i:Nat}{Q:Value->Shared->Prop}(st:oP w s.heap I a t n ep i)(h:Q (.ref I) s):wpAny (model prog w) A (pyIter (.ref I)) Q E s:=by
 have hT:=pQ st
 refine wpAny_pyIter_slot hT lL (wpAny_call_entry lL hT qL ?_ (ro _))
 show wpAny _ _ (ret (.ref I)) _ _ s
 exact wpAny_pure ⟨_,rfl,"set_iterator", _,hT,cS.lookup,h⟩
theorem yC (hh:A.handled=none) (I a:Addr) (hne:a≠I) {o:Obj} {es:Array (Int×Value)} {ep:Nat} {t:SetTable} {hs:List Int} (hd:o.data=.set es ep t) (T:Tab t hs) (he:hs.length=es.size) (hpl:t.plain=true/\t.led=!w.params.followText "set-order") :
  Walks prog w A I [I,a] [I] es.size (fun i v=>∃x,(d6 w a es ep)[i]?=some x/\x.2=v) (fun i h=>oP w h I a t es.size ep i/\h.get? a=some o) where
 sub:=fun b hb=>by simp at hb;simp[hb]
 frame:=fun _ _ _ st hk=>⟨by obtain⟨⟨o,sl,ho,r⟩,_⟩:=st;exact⟨o,sl,hk I (by simp) o ho,r⟩,hk a (by simp) o st.2⟩
 item:=fun i s Q E hi st hQ=>by
  have lw:i<(d6 w a es ep).size:=by rw[jI];exact hi
  refine BZ st.2 hd T he hpl st.1 (zAm lw) fun h' st' sb=>?_
  exact hQ _ h' s.toks ⟨_,zAm lw,rfl⟩ ⟨st',sb.extBut a o hne st.2⟩ fun b o hb e=>sb.extBut b o (fun h=>hb (by simp[h])) e
 done:=fun s Q E st hQ=>DL hh st.2 hd T he hpl st.1 (by rw[zCY];rw[jI];exact zAM _) fun h' sb=>hQ h' s.toks fun b o hb e=>sb b o (fun h=>hb (by simp[h])) e
 self:=fun _ _ _ _ st hQ=>B2 st.1 hQ
theorem zD {a:Addr} {o:Obj} {es:Array (Int×Value)} {ep:Nat} {t:SetTable} {hs:List Int} {Q:Value->Shared->Prop} (ho:s.heap.get? a=some o) (hc:o.cls=.type "set") (hd:o.data=.set es ep t) (T:Tab t hs) (he:hs.length=es.size) (hpl:t.plain=true)
  (hQ:Q (.ref s.heap.objs.size) {s with heap:=s.heap.push {cls:=.type "set_iterator", data:=.fields #[.int 0 0,.int 0 0,.ref a,.int (es.size:Nat) 0,.int (ep:Nat) 0]} }):wpAny (model prog w) A (pyIter (.ref a)) Q E s:=by
 have hT:s.TypeIs (.ref a) "set" := ⟨o,ho,hc⟩
 have fits:t.fits es.size=true:=by rw[<- he];exact T.fits
 refine wpAny_pyIter_slot hT F.slot_set_iter (wpAny_call_entry F.slot_set_iter hT r9 ?_ (F.args_set_iter_1 _))
 unfold Builtin.«frozenset.__iter__»
 refine wpAny_bind (m:=Builtin.Frozenset.slot0 "__iter__" ⟨[.ref a],[]⟩) (wpAny_pure ?_)
 unfold Builtin.Frozenset.sizeOf setEntries setDrawn setEpoch setsByText
 refine wpAny_bind (wpAny_bind (wpAny_bind (wpAny_setState_of ho hd fits (wpAny_pure (wpAny_pure ?_)))))
 refine wpAny_bind (wpAny_bind (wpAny_setState_of ho hd fits ?_))
 dsimp only
 refine wpAny_bind (wpAny_bind (wpAny_askSetting (wpAny_pure (wpAny_pure ?_))))
 split
 ·rename_i h
  have h':(!(w.params.followText "set-order") && (!t.plain && decide (es.size > 1)))=true:=h
  rw[hpl]at h'
  simp at h'
 ·refine wpAny_bind (wpAny_pure ?_)
  refine wpAny_bind (wpAny_bind (wpAny_setState_of ho hd fits (wpAny_pure ?_)))
  unfold newFields
  refine wpAny_bind (wpAny_newObj_type ?_ (by size_fits))
  exact wpAny_pure ⟨_,rfl,"set_iterator", _,⟨_,zAU _ rfl,rfl⟩,cS.lookup,hQ⟩
theorem tX {a:Addr} {o:Obj} {es:Array (Int×Value)} {ep:Nat} {t:SetTable} {hs:List Int} {Q:List Value->Shared->Prop} (hh:A.handled=none) (ho:s.heap.get? a=some o) (hc:o.cls=.type "set") (hd:o.data=.set es ep t) (T:Tab t hs) (he:hs.length=es.size) (hpl:t.plain=true/\t.led=!w.params.followText "set-order") (hn:es.size<=1000)
  (hQ:∀s' (acc:List Value),(∀b o,s.heap.get? b=some o->s'.heap.get? b=some o)->s'.gens=s.gens->s'.drawn=s.drawn->s'.os=s.os->s.heap.objs.size<=s'.heap.objs.size->acc=(d6 w a es ep).toList.map (·.2)->Q acc s'):wpAny (model prog w) A (collect (.ref a)) Q E s:=by
 unfold collect
 have la:a<s.heap.objs.size:=zAJ ho
 refine wpAny_bind (wpAny_runValue (codeAny_builtin F.entry_proto_collect ?_))
 rw[Around.under_plainId F.plain_proto_collect _]
 show wpAny _ A.in1 (newList [] >>= fun l=>again (.builtin "list.__iadd__" ⟨[l,.ref a],[]⟩)) _ _ s
 refine wpAny_bind (wpAny_newObj_type ?_)
 refine wpAny_pure ⟨plainId_quiet F.plain_list_iadd _,codeAny_builtin F.entry_list_iadd ?_⟩
 rw[Around.under_plainId F.plain_list_iadd _]
 show wpAny _ A.in1 (Builtin.List.listExtendWith (.ref s.heap.objs.size) (.ref a) (.ref s.heap.objs.size)) _ _ _
 generalize hH:s.heap.push {cls:=.type "list", data:=.seq ([]:List Value).toArray}=H
 have hHs:H.objs.size=s.heap.objs.size+1:=by rw[<- hH,zB6]
 have ho1:H.get? a=some o:=hH ▸ zAF _ ho
 have hT:Shared.TypeIs {s with heap:=H} (.ref a) "set" := ⟨o,ho1,hc⟩
 unfold Builtin.List.listExtendWith
 refine wpAny_bind (wpAny_typeOf hT ?_)
 have h1:Builtin.List.listSameRef (.ref s.heap.objs.size) (.ref a)=false:=by have:s.heap.objs.size≠a:=zCD la;simp[Builtin.List.listSameRef,this]
 have h2:(Value.type "set" == Value.type "list")=false:=by decide
 have h3:(Value.type "set" == Value.type "tuple")=false:=by decide
 simp only[h1,h2,h3,Bool.or_false,zAa,if_false]
 refine wpAny_bind (zD ho1 hc hd T he hpl.1 ?_)
 generalize hH2:H.push {cls:=.type "set_iterator", data:=.fields #[.int 0 0,.int 0 0,.ref a,.int (es.size:Nat) 0,.int (ep:Nat) 0]}=H2
 have hT2:Shared.TypeIs {s with heap:=H2} (.ref a) "set" := ⟨o,hH2 ▸ zAF _ ho1,hc⟩
 refine wpAny_bind (wpAny_holding ?_)
 unfold Builtin.List.listLengthHint
 refine wpAny_bind (wpAny_specialOf hT2 F.slot_set_len.lookup ?_)
 wp_delta
 refine wpAny_bind (wpAny_isInstance (T := "set") (b:=true) hT2 (by rw[isSubtype_type];kernel_rfl) ?_)
 show wpAny _ A.in1 (typeOf (Value.ref a) >>= _) _ _ _
 refine wpAny_bind (wpAny_typeOf hT2 ?_)
 refine wpAny_pure ?_
 rw[if_pos (by decide)]
 show wpAny _ A.in1 (rule "list.extend.makes-room" >>= fun _=>Builtin.List.listTouch (.ref s.heap.objs.size) >>= fun _ =>
  again (.builtin "list.extend.loop" ⟨[.ref s.heap.objs.size,.ref H.objs.size,.ref s.heap.objs.size],[]⟩)) _ _ _
 refine wpAny_bind (wpAny_rule ?_)
 refine wpAny_bind ?_
 show wpAny _ A.in1 (updateSeq s.heap.objs.size (·.push .none) >>= fun _=>updateSeq s.heap.objs.size (·.pop)) _ _ _
 have hS:H2.get? s.heap.objs.size=some {cls:=.type "list", data:=.seq ([]:List Value).toArray}:=hH2 ▸ zAF _ (hH ▸ zAU _ rfl)
 refine wpAny_bind (wpAny_updateSeq hS rfl ?_)
 have hS₂:=zBi (Obj.mapSeq (·.push Value.none)) hS rfl
 refine wpAny_updateSeq (hz:=by seq_fits) hS₂ rfl ?_
 have hS₃:=zBi (Obj.mapSeq (·.pop)) hS₂ rfl
 have oth:∀b o,b≠s.heap.objs.size->H2.get? b=some o->((H2.update s.heap.objs.size (Obj.mapSeq (·.push Value.none))).update s.heap.objs.size (Obj.mapSeq (·.pop))).get? b=some o :=
  fun b o hb e=>(zBo _ _ (Ne.symm hb)).trans ((zBo _ _ (Ne.symm hb)).trans e)
 have hI:H2.get? H.objs.size=some {cls:=.type "set_iterator", data:=.fields #[.int 0 0,.int 0 0,.ref a,.int (es.size:Nat) 0,.int (ep:Nat) 0]}:=hH2 ▸ zAU _ rfl
 have nSI:H.objs.size≠s.heap.objs.size:=by omega
 have naI:a≠H.objs.size:=zAr (by rw[hHs];exact zBm la)
 have hSf:s.heap.objs.size ∉ [H.objs.size,a]:=fun hm=>by
  rcases zAC.mp hm with z|z
  ·exact nSI z.symm
  ·exact absurd (zAP.mp z) (zCD la)
 have W:=yC (prog:=prog) (w:=w) (A:=A.in1) hh H.objs.size a naI hd T he hpl
 refine wpAny_pure ⟨plainId_quiet F.plain_extend_loop _,codeAny_extend_loopS W.toS (by rw[sizeLine_eq];omega) _ hSf _ es.size 0 _ _ _ rfl (zAk _)
  ⟨⟨_,0,oth _ _ nSI hI,rfl,rfl,fun _=>vy T.rise⟩,oth _ _ (zAr la) (hH2 ▸ zAF _ ho1)⟩ hS₃ (ItemsOf.nil _) fun s' acc' c' hm hS' hacc=>?_⟩
 show wpAny _ A (load s.heap.objs.size >>= _) _ _ s'
 refine wpAny_bind (wpAny_load hS' ?_)
 have big:∀b o,s.heap.get? b=some o->s'.heap.get? b=some o:=fun b ob e=>by
  have lb:=zAJ e
  refine hm.heap b ob (fun hb=>?_) (oth _ _ (zAr lb) (hH2 ▸ zAF _ (hH ▸ zAF _ e)))
  rcases zAC.mp hb with z|z
  ·exact absurd lb (z ▸ zBG _)
  ·rw[zAP.mp z,hHs]at lb;exact absurd lb (zB2.mpr (Nat.le_succ _))
 refine wpAny_pure (hQ s' acc'.toList big hm.gens hm.drawn hm.os (zB0 (zAJ hS')) ?_)
 obtain⟨q1,q2⟩:=hacc
 apply List.ext_getElem?
 intro j
 rw[zAl,zAH,zAl]
 by_cases lj:j<es.size
 ·have l1:j<acc'.size:=by omega
  obtain⟨x,ex,ev⟩:=q2 j _ (zAm l1)
  rw[zAm l1,ex]
  simp[ev]
 ·rw[zCY (by omega),zCY (by rw[jI];omega)]
  rfl
end
end SW
namespace SS
open PySem PySem.W PyProof.Rows
def good{α:Type}(r:Nat->Nat)(n:Nat)(G:α->Prop):KasT α->Prop
 |.ret a=>G a
 |.ask i j k=>i<n/\j<n/\good r n G (k (decide (r i<r j)))
theorem fx{α β:Type}{r:Nat->Nat}{n:Nat}{G:α->Prop}{G':β->Prop}{f:α->KasT β}(hf:∀a,G a->good r n G' (f a)):∀t:KasT α,good r n G t->good r n G' (t.bind f)
 |.ret a,h=>hf a h
 |.ask _ _ k,⟨h1,h2,h3⟩=>⟨h1,h2,fx hf _ h3⟩
theorem good_mono{α:Type}{r:Nat->Nat}{n:Nat}{G G':α->Prop}(hq:∀a,G a->G' a):∀t:KasT α,good r n G t->good r n G' t
 |.ret a,h=>hq a h
 |.ask _ _ _,⟨h1,h2,h3⟩=>⟨h1,h2,good_mono hq _ h3⟩
theorem uD{α:Type}{r:Nat->Nat}{n:Nat}{G:α->Prop}{cmp:Nat->Nat->(Bool->Shared->Prop)->Shared->Prop}{s:Shared}{Q:α->Shared->Prop}(hc:∀i j C,i<n->j<n->C (decide (r i<r j)) s->cmp i j C s)(hq:∀a,G a->Q a s):∀t:KasT α,good r n G t->t.kasWp cmp Q s
 |.ret a,h=>hq a h
 |.ask i j k,⟨h1,h2,h3⟩=>hc i j _ h1 h2 (uD hc hq _ h3)
section
variable{r:Nat->Nat}{n:Nat}
def v(r:Nat->Nat)(p:Array Nat)(k:Nat):Nat:=r (p.getD k 0)
def S(r:Nat->Nat)(p:Array Nat)(k:Nat):Prop:=∀i j,i<=j->j<k->v r p i<=v r p j
def D(r:Nat->Nat)(p:Array Nat)(k:Nat):Prop:=∀i j,i<=j->j<k->v r p j<=v r p i
structure Ok(n:Nat)(p:Array Nat):Prop where
 perm:p.Perm (List.toArray (List.range n))
theorem Ok.size{p:Array Nat}(h:Ok n p):p.size=n:=by have:=h.perm.size_eq;simpa using this
theorem Ok.lt{p:Array Nat}(h:Ok n p){k:Nat}(hk:k<n):p.getD k 0<n:=by
 have hs:=h.size
 have e:p.getD k 0=p[k]'(by omega):=by simp[Array.getD,hs,hk]
 have m:p[k]'(by omega)∈p.toList:=by simp
 have:=(zCn.mp h.perm).mem_iff.mp m
 rw[e]
 simpa using this
theorem tO{p q:Array Nat}{a b:Nat}(h:p[a]?=q[b]?):v r p a=v r q b:=by
 unfold v
 rw[Array.getD_eq_getD_getElem?,Array.getD_eq_getD_getElem?,h]
theorem wR{p:Array Nat}{i j:Nat}(hj:j<=p.size)(k:Nat):v r (kas_rev p i j) k=if i<=k/\k<j then v r p (i+j - 1 - k)else v r p k:=by
 have h:=getElem?_mirror_all (i:=i) hj k
 unfold kas_rev
 split
 ·rename_i c
  rw[if_pos c]at h
  exact tO h
 ·rename_i c
  rw[if_neg c]at h
  exact tO h
theorem Ok.rev{p:Array Nat}(h:Ok n p)(i j:Nat):Ok n (kas_rev p i j):=⟨(mirror_perm p i j _).trans h.perm⟩
theorem Ok.bubble{p:Array Nat}(h:Ok n p)(k d:Nat):Ok n (PyProof.Rows.bubble p k d):=⟨(bubble_perm p k d).trans h.perm⟩
theorem tN{p:Array Nat}{k l:Nat}(hk:k<p.size)(hl:l<=k)(a:Nat):v r (PyProof.Rows.bubble p k (k - l)) a=if a=l then v r p k else if l<a/\a<=k then v r p (a - 1)else v r p a:=by
 have h:=getElem?_bubble hk (k - l) (by omega) a
 rw[show k - (k - l)=l by omega]at h
 split
 ·rename_i c
  rw[if_pos c]at h
  exact tO h
 ·rename_i c
  rw[if_neg c]at h
  split
  ·rename_i c2
   rw[if_pos c2]at h
   exact tO h
  ·rename_i c2
   rw[if_neg c2]at h
   exact tO h
theorem rq{p:Array Nat}(O:Ok n p):∀(f m:Nat),1<=m->m+f<=n->S r p m->good r n (fun m'=>m<=m'/\m'<=m+f/\S r p m'/\(m'<m+f->v r p m'<v r p (m' - 1))) (kas_asc p f m)
 |0,m,_,_,h=>⟨zAM _,zAM _,h,fun z=>absurd z (zBG _)⟩
 |f+1,m,h1,h2,h=>by
  unfold kas_asc
  refine⟨O.lt (by omega),O.lt (by omega),?_⟩
  by_cases c:r (p.getD m 0)<r (p.getD (m - 1) 0)
  ·simp only[c,decide_true,if_true]
   exact⟨zAM _,by omega,h,fun _=>c⟩
  ·simp only[c,decide_false,zAa,if_false]
   have h':S r p (m+1):=fun i j hij hj=>by
    rcases zCC j m with z|z
    ·exact h i j hij z
    ·have:j=m:=by omega
     subst this
     rcases zCC i j with y|y
     ·have:=h i (j - 1) (by omega) (by omega)
      have c':v r p (j - 1)<=v r p j:=zBl c
      omega
     ·have:i=j:=by omega
      subst this
      exact zAM _
   exact good_mono (fun m' ⟨a1,a2,a3,a4⟩=>⟨by omega,by omega,a3,fun z=>a4 (by omega)⟩) _ (rq O f (m+1) (by omega) (by omega) h')
theorem v_eq{p:Array Nat}{i j:Nat}(hj:j<=p.size)(h:∀a,i<=a->a<j->v r p a=v r p (j - 1))(k:Nat):v r (kas_rev p i j) k=v r p k:=by
 rw[wR hj]
 split
 ·rename_i c
  rw[h k c.1 c.2,h (i+j - 1 - k) (by omega) (by omega)]
 ·rfl
theorem D.cong{p q:Array Nat}{k:Nat}(e:∀a,v r q a=v r p a)(h:D r p k):D r q k:=fun i j a b=>by rw[e,e];exact h i j a b
theorem lY:∀(f:Nat) (p:Array Nat) (m q:Nat),Ok n p->m+f<=n->q+1<=m->D r p m->(∀a,m - (q+1)<=a->a<m->v r p a=v r p (m - 1)) →
  good r n (fun z=>Ok n z.1/\m<=z.2.1/\z.2.1<=m+f/\D r z.1 z.2.1/\z.2.2+1<=z.2.1/\∀a,z.2.1 - (z.2.2+1)<=a->a<z.2.1->v r z.1 a=v r z.1 (z.2.1 - 1)) (kas_desc f p m q)
 |0,p,m,q,O,_,hq,hd,he=>⟨O,zAM _,zAM _,hd,hq,he⟩
 |f+1,p,m,q,O,hm,hq,hd,he=>by
  have os:=O.size
  unfold kas_desc
  refine⟨O.lt (by omega),O.lt (by omega),?_⟩
  have up:v r p m<=v r p (m - 1)->D r p (m+1):=fun c i j hij hj=>by
   rcases zCC j m with z|z
   ·exact hd i j hij z
   ·have:j=m:=by omega
    subst this
    rcases zCC i j with y|y
    ·have:=hd i (j - 1) (by omega) (by omega)
     omega
    ·have:i=j:=by omega
     subst this
     exact zAM _
  by_cases c:r (p.getD m 0)<r (p.getD (m - 1) 0)
  ·simp only[c,decide_true,if_true]
   have h1:D r p (m+1):=up (zB0 c)
   split
   ·have e:=v_eq (r:=r) (p:=p) (i:=m - (q+1)) (j:=m) (by omega) he
    exact good_mono (fun z ⟨a1,a2,a3,a4,a5,a6⟩=>⟨a1,by omega,by omega,a4,a5,a6⟩) _ (lY f (kas_rev p (m - (q+1)) m) (m+1) 0 (O.rev _ _) (by omega) (by omega) (h1.cong e) fun a h2 h3=>by
     have:a=m:=by omega
     subst this
     rfl)
   ·exact good_mono (fun z ⟨a1,a2,a3,a4,a5,a6⟩=>⟨a1,by omega,by omega,a4,a5,a6⟩) _ (lY f p (m+1) 0 O (by omega) (by omega) h1 fun a h2 h3=>by
     have:a=m:=by omega
     subst this
     rfl)
  ·simp only[c,decide_false,zAa,if_false]
   refine⟨O.lt (by omega),O.lt (by omega),?_⟩
   by_cases c2:r (p.getD (m - 1) 0)<r (p.getD m 0)
   ·simp only[c2,decide_true,if_true]
    exact⟨O,zAM _,zCl _ _,hd,hq,he⟩
   ·simp only[c2,decide_false,zAa,if_false]
    have ee:v r p m=v r p (m - 1):=by unfold v;omega
    exact good_mono (fun z ⟨a1,a2,a3,a4,a5,a6⟩=>⟨a1,by omega,by omega,a4,a5,a6⟩) _ (lY f p (m+1) (q+1) O (by omega) (by omega) (up (Nat.le_of_eq ee)) fun a h2 h3=>by
     rcases zCC a m with z|z
     ·rw[he a (by omega) z];exact ee.symm
     ·have:a=m:=by omega
      subst this
      rfl)
theorem u7{p:Array Nat}{m:Nat}(O:Ok n p)(h1:1<=m)(hm:m<=n)(hd:D r p m):good r n (fun z=>Ok n z.2/\1<=z.1/\z.1<=n/\S r z.2 z.1) (kas_tail3 m n p):=by
 have os:=O.size
 unfold kas_tail3
 have hs:S r (kas_rev p 0 m) m:=fun i j hij hj=>by
  rw[wR (by omega),wR (by omega),if_pos (by omega),if_pos (by omega)]
  exact hd _ _ (by omega) (by omega)
 refine fx (fun m' ⟨a1,a2,a3,_⟩=>?_) _ (rq (O.rev 0 m) (n - m) m h1 (by omega) hs)
 exact⟨O.rev _ _,zAw h1 a1,zAw a2 (by omega),a3⟩
theorem uR{p:Array Nat}{m:Nat}(O:Ok n p)(hm:m+1<=n)(hd:D r p (m+1)):good r n (fun z=>Ok n z.2/\1<=z.1/\z.1<=n/\S r z.2 z.1) (kas_descPart m n p):=by
 unfold kas_descPart
 refine fx (fun z ⟨a1,a2,a3,a4,a5,a6⟩=>?_) _ (lY (n - (m+1)) p (m+1) 0 O (by omega) (by omega) hd fun a h2 h3=>by
  have:a=m:=by omega
  subst this
  rfl)
 have os:=a1.size
 split
 ·exact u7 (a1.rev _ _) (by omega) (by omega) (a4.cong (v_eq (by omega) a6))
 ·exact u7 a1 (by omega) (by omega) a4
theorem yU{p:Array Nat}(O:Ok n p)(hn:1<=n):good r n (fun z=>Ok n z.2/\1<=z.1/\z.1<=n/\S r z.2 z.1) (kas_count n p):=by
 have os:=O.size
 unfold kas_count
 refine fx (fun m ⟨a1,a2,a3,a4⟩=>?_) _ (rq (r:=r) O (n - 1) 1 (zAM _) (by omega) fun i j hij hj=>by
  have:i=j:=by omega
  subst this
  exact zAM _)
 split
 ·rename_i c
  have c':m=n:=by simpa using c
  exact⟨O,a1,by omega,a3⟩
 ·rename_i c
  have c':m≠n:=by simpa using c
  have lt:=a4 (by omega)
  split
  ·refine⟨O.lt (by omega),O.lt (by omega),?_⟩
   by_cases c2:r (p.getD 0 0)<r (p.getD (m - 1) 0)
   ·simp only[c2,decide_true,if_true]
    exact⟨O,a1,by omega,a3⟩
   ·simp only[c2,decide_false,zAa,if_false]
    have eq:∀a,0<=a->a<m->v r p a=v r p (m - 1):=fun a _ ha=>by
     have h1:=a3 0 a (by omega) ha
     have h2:=a3 a (m - 1) (by omega) (by omega)
     have h3:v r p (m - 1)<=v r p 0:=zBl c2
     omega
    have e:=v_eq (r:=r) (p:=p) (i:=0) (j:=m) (by omega) eq
    refine uR (O.rev _ _) (by omega) fun i j hij hj=>?_
    rw[e,e]
    rcases zCC j m with z|z
    ·rw[eq i (by omega) (by omega),eq j (by omega) z]
     exact zAM _
    ·have:j=m:=by omega
     subst this
     rcases zCC i j with y|y
     ·rw[eq i (by omega) y];exact zB0 lt
     ·have:i=j:=by omega
      subst this
      exact zAM _
  ·have m1:m=1:=by omega
   subst m1
   refine uR O (by omega) fun i j hij hj=>?_
   rcases zCC i j with y|y
   ·have e1:i=0:=by omega
    have e2:j=1:=by omega
    subst e1 e2
    exact zB0 lt
   ·have:i=j:=by omega
    subst this
    exact zAM _
theorem mX{p:Array Nat}{k:Nat}(O:Ok n p)(hk:k<n)(hs:S r p k):∀(f l h:Nat),l<=h->h<=k->h - l<=f->(∀a,a<l->v r p a<=v r p k)->(∀a,h<=a->a<k->v r p k<=v r p a) →
  good r n (fun l'=>l'<=k/\(∀a,a<l'->v r p a<=v r p k)/\∀a,l'<=a->a<k->v r p k<=v r p a) (kas_place p k f l h)
 |0,l,h,h1,h2,h3,h4,h5=>by
  have:l=h:=by omega
  subst this
  exact⟨h2,h4,h5⟩
 |f+1,l,h,h1,h2,h3,h4,h5=>by
  unfold kas_place
  split
  ·have:l=h:=by omega
   subst this
   exact⟨h2,h4,h5⟩
  ·refine⟨O.lt (by omega),O.lt (by omega),?_⟩
   by_cases c:r (p.getD k 0)<r (p.getD ((l+h) / 2) 0)
   ·simp only[c,decide_true,if_true]
    refine mX O hk hs f l ((l+h) / 2) (by omega) (by omega) (by omega) h4 fun a ha1 ha2=>?_
    have:=hs ((l+h) / 2) a ha1 ha2
    have c':v r p k<v r p ((l+h) / 2):=c
    omega
   ·simp only[c,decide_false,zAa,if_false]
    refine mX O hk hs f ((l+h) / 2+1) h (by omega) (by omega) (by omega) (fun a ha=>?_) h5
    have:=hs a ((l+h) / 2) (by omega) (by omega)
    have c':v r p ((l+h) / 2)<=v r p k:=zBl c
    omega
theorem w4:∀(f:Nat) (p:Array Nat) (k:Nat),Ok n p->k+f=n->S r p k->good r n (fun z=>Ok n z/\S r z n) (kas_bin f p k)
 |0,p,k,O,hk,hs=>by
  have:k=n:=by omega
  subst this
  exact⟨O,hs⟩
 |f+1,p,k,O,hk,hs=>by
  have os:=O.size
  unfold kas_bin
  refine fx (fun l ⟨a1,a2,a3⟩=>w4 f _ (k+1) (O.bubble k (k - l)) (by omega) fun i j hij hj=>?_) _ (mX O (by omega) hs k 0 k (by omega) (by omega) (by omega) (fun a ha=>absurd ha (zCu _)) fun a h1 h2=>by omega)
  rw[tN (by omega) a1,tN (by omega) a1]
  repeat' split
  all_goals first
   |exact zAM _
   |(exfalso;omega)
   |exact a3 _ (by omega) (by omega)
   |exact a2 _ (by omega)
   |exact hs _ _ (by omega) (by omega)
theorem B3(hn:1<=n):good r n (fun z=>Ok n z/\S r z n) (kas_sort n):=by
 unfold kas_sort
 refine fx (fun z ⟨a1,a2,a3,a4⟩=>?_) _ (yU (r:=r) ⟨Array.Perm.refl _⟩ hn)
 split
 ·rw[show max z.1 1=z.1 by omega]
  exact w4 _ _ _ a1 (by omega) a4
 ·have:z.1=n:=by omega
  rw[this]at a4
  exact⟨a1,a4⟩
end
end SS
namespace SW
open PySem PySem.SetTable ST PySem.W PyProof.Rows
def lexLt:List Int->List Int->Bool
 |_,[]=>false
 |[],_::_=>true
 |a::x,b::y=>if a=b then lexLt x y else decide (a<b)
theorem i4:∀x,lexLt x x=false
 |[]=>rfl
 |a::x=>by unfold lexLt;rw[if_pos rfl];exact i4 x
theorem mE:∀x y z,lexLt x y=true->lexLt y z=true->lexLt x z=true
 |_,[],_,h,_=>by unfold lexLt at h;cases h
 |_,_::_,[],_,h=>by unfold lexLt at h;cases h
 |[],_::_,_::_,_,_=>rfl
 |a::x,b::y,c::z,h1,h2=>by
  unfold lexLt at h1 h2 ⊢
  split at h1<;>split at h2
  ·rename_i e1 e2
   rw[if_pos (e1.trans e2)]
   exact mE x y z h1 h2
  ·rename_i e1 e2
   subst e1
   rw[if_neg e2]
   exact h2
  ·rename_i e1 e2
   subst e2
   rw[if_neg e1]
   exact h1
  ·have q1:a<b:=by simpa using h1
   have q2:b<c:=by simpa using h2
   rw[if_neg (by omega)]
   simp
   omega
theorem jA:∀x y,lexLt x y=false->x=y∨lexLt y x=true
 |[],[],_=>.inl rfl
 |[],_::_,h=>by unfold lexLt at h;cases h
 |_::_,[],_=>.inr rfl
 |a::x,b::y,h=>by
  unfold lexLt at h ⊢
  split at h
  ·rename_i e
   subst e
   rw[if_pos rfl]
   rcases jA x y h with z|z
   ·exact .inl (by rw[z])
   ·exact .inr z
  ·rename_i e
   have q:¬a<b:=by simpa using h
   right
   rw[if_neg (fun z=>e z.symm)]
   simp
   omega
theorem rG{α:Type}(p q:α->Bool):∀l:List α,(∀z∈l,p z=true->q z=true)->(∃z∈l,p z=false/\q z=true)->l.countP p<l.countP q
 |[],_,⟨_,h,_⟩=>by cases h
 |x::l,h,⟨z,hz,e1,e2⟩=>by
  rw[List.countP_cons,List.countP_cons]
  have le:l.countP p<=l.countP q:=List.countP_mono_left fun z hz=>h z (zAD _ hz)
  rcases zAC.mp hz with y|y
  ·subst y
   rw[e1,e2]
   simp
   omega
  ·have ih:=rG p q l (fun z hz=>h z (zAD _ hz)) ⟨z,y,e1,e2⟩
   by_cases px:p x=true
   ·have:=h x zAY px
    simp[px,this]
    omega
   ·have px':p x=false:=by simpa using px
    rw[px']
    cases q x with
    |true=>simp;omega
    |false=>simpa using ih
def rank(K:List (List Int))(x:List Int):Nat:=K.countP fun y=>lexLt y x
theorem uV{K:List (List Int)}{x y:List Int}(hx:x∈K)(hy:y∈K):decide (rank K x<rank K y)=lexLt x y:=by
 have up:∀a b,a∈K->lexLt a b=true->rank K a<rank K b:=fun a b ha h=>rG _ _ K (fun z _ hz=>mE z a b hz h) ⟨a,ha,i4 a,h⟩
 cases e:lexLt x y with
 |true=>simpa using up x y hx e
 |false =>
  rcases jA x y e with z|z
  ·subst z;simp
  ·have:=up y x hy z
   simp
   omega
section
variable{prog:Program}{w:World}{A:Around}{E:Value->Shared->Prop}{s:Shared}
theorem Dg{b fin:Bool}{Q:Bool->Shared->Prop}:∀{k k':List Int} {us vs:List Value} (i:Nat),PySem.ItemsAre (intKind prog w) k us->PySem.ItemsAre (intKind prog w) k' vs->fin=decide (k.length<k'.length)->Q (lexLt k k') s->KatLex prog w A b fin Q (us.zip vs) i s:=by
 intro k k' us vs i h
 induction h generalizing k' vs i with
 |nil =>
  intro h' ef q
  refine kat_nil ?_
  cases h' with
  |nil=>rw[ef];exact q
  |cons _ _=>rw[ef];exact q
 |@cons a u x us h1 t1 ih =>
  intro h' ef q
  cases h' with
  |nil=>refine kat_nil ?_;rw[ef];exact q
  |@cons c u' y vs h2 t2 =>
   obtain⟨t,rfl⟩:=Value.isInt_shape h1
   obtain⟨t',rfl⟩:=Value.isInt_shape h2
   refine kat_cons (wpAny_eqBool_int ?_)
   by_cases e:a=c
   ·subst e
    rw[show(a==a)=true by simp]
    refine kat_yes (ih (i+1) t2 ?_ ?_)
    ·rw[ef];simp
    ·unfold lexLt at q
     rw[if_pos rfl]at q
     exact q
   ·rw[show(a==c)=false by simp[e]]
    unfold lexLt at q
    rw[if_neg e]at q
    refine kat_no ?_
    cases(b && i==0)with
    |true=>exact oneLt_int q
    |false=>exact kat_one _ _ (PySem.P.lt_int q)
theorem w9{x y:Addr}{k k':List Int}{b:Bool}{Q:Bool->Shared->Prop}(hx:(TK prog w).is s.heap k x)(hy:(TK prog w).is s.heap k' y)(q:Q (lexLt k k') s):wpAny (model prog w) A (keyLt' (tuples' b) (.ref x) (.ref y)) Q E s:=by
 obtain⟨o,items,n,ho,hc,hd,hi⟩:=hx
 obtain⟨o',items',n',ho',hc',hd',hi'⟩:=hy
 have len:∀{k:List Int} {us:List Value},PySem.ItemsAre (intKind prog w) k us->k.length=us.length:=fun h=>by
  induction h with
  |nil=>rfl
  |cons _ _ ih=>simp[ih]
 refine kat_lt ho hd ho' hd' (Dg 0 hi hi' ?_ q)
 rw[len hi,len hi',zAZ,zAZ]
theorem va:∀{cs:List Addr} (K:Nat->List Int) (off:Nat),(∀(j:Nat) (c:Addr),cs[j]?=some c->(TK prog w).is s.heap (K (off+j)) c/\K (off+j) ≠ [])->∃fs,KatTups s.heap (cs.map Value.ref) fs/\fs.length=cs.length/\∀v∈fs,∃n t,v=Value.int n t
 |[],_,_,_=>⟨[],KatTups.nil,rfl,fun _ h=>by cases h⟩
 |c::cs,K,off,h=>by
  obtain⟨fs,t,l,hi⟩:=va (cs:=cs) K (off+1) fun j c hj=>by
   have:=h (j+1) c hj
   rw[show off+(j+1)=off+1+j by omega]at this
   exact this
  obtain⟨⟨o,items,n,ho,hc,hd,hit⟩,ne⟩:=h 0 c rfl
  rw[Nat.add_zero]at hit ne
  generalize K off=k0 at hit ne
  generalize hL:items.toList=L at hit
  cases hit with
  |nil=>exact absurd rfl ne
  |@cons a u x us h1 t1 =>
   obtain⟨tk,rfl⟩:=Value.isInt_shape h1
   refine⟨.int a tk::fs,KatTups.cons ho hc hd ?_ t,by simp[l],fun v hv=>?_⟩
   ·rw[<- zAl,hL];rfl
   ·rcases zAC.mp hv with z|z
    ·exact⟨a,tk,z⟩
    ·exact hi v z
theorem tZ{cs:List Addr}{K:Nat->List Int}{Q:SortKind->Shared->Prop}(hne:0<cs.length)(h:∀(j:Nat) (c:Addr),cs[j]?=some c->(TK prog w).is s.heap (K j) c/\K j ≠ [])(q:Q (tuples' true) s):wpAny (model prog w) A (keyKind' (cs.map Value.ref).toArray) Q E s:=by
 obtain⟨fs,t,l,hi⟩:=va (s:=s) (cs:=cs) K 0 fun j c hj=>by rw[zA6];exact h j c hj
 refine kat_kind (T:=.type "int") t (by omega) (fun v hv=>?_) (by decide) q
 obtain⟨n,tk,rfl⟩:=hi v hv
 exact Looks.of_pure rfl
theorem AS{cs:List Addr}{K:Nat->List Int}{G:Array Nat->Shared->Prop}(hn:1<=cs.length)(h:∀(j:Nat) (c:Addr),cs[j]?=some c->(TK prog w).is s.heap (K j) c)
  (hq:∀p:Array Nat,SS.Ok cs.length p->(∀i j,i<=j->j<cs.length->lexLt (K (p.getD j 0)) (K (p.getD i 0))=false)->G p s):(kas_sort cs.length).kasWp (kas_ask prog w A (tuples' true) (cs.map Value.ref)) G s:=by
 have mem:∀i,i<cs.length->K i∈(List.range cs.length).map K:=fun i hi=>zAQ.mpr ⟨i,zCz.mpr hi,rfl⟩
 refine SS.uD (r:=fun i=>rank ((List.range cs.length).map K) (K i)) (n:=cs.length) (fun i j C hi hj hc=>?_) (fun p ⟨O,S⟩=>hq p O fun i j hij hj=>?_) _ (SS.B3 hn)
 ·unfold kas_ask
  have ei:(cs.map Value.ref).getD i Value.none=.ref cs[i]:=by simp[hi]
  have ej:(cs.map Value.ref).getD j Value.none=.ref cs[j]:=by simp[hj]
  rw[ei,ej]
  refine w9 (h i _ (zAB hi)) (h j _ (zAB hj)) ?_
  rw[uV (mem i hi) (mem j hj)]at hc
  exact hc
 ·have:=S i j hij hj
  unfold SS.v at this
  have e:=uV (mem _ (O.lt hj)) (mem _ (O.lt (zCx hij hj)))
  rw[<- e]
  exact decide_eq_false (zB2.mpr this)
theorem vf{α:Type}:∀l:List α,(l.zip l).map (·.2)=l
 |[]=>rfl
 |x::l=>by simp[vf l]
theorem range_getD{α:Type}(l:List α)(d:α):(List.range l.length).map (fun i=>l.getD i d)=l:=by
 apply List.ext_getElem
 ·simp
 ·intro i h1 h2
  simp
  rw[zAB h2]
  rfl
theorem sN {a : Addr} {cs : List Addr} {n : Nat} {K : Nat -> List Int} {P : PySem.Fin -> Shared -> Prop} (ho : s.heap.get? a = some (seqObj "list" (cs.map Value.ref).toArray n)) (h64 : cs.length < 64)
  (h : ∀ (j : Nat) (c : Addr), cs[j]? = some c -> (TK prog w).is s.heap (K j) c /\ K j ≠ [])
  (hP : ∀ h' (p : Array Nat) c2, SS.Ok cs.length p -> (∀ i j, i <= j -> j < cs.length -> lexLt (K (p.getD j 0)) (K (p.getD i 0)) = false) -> (∀ b o, b ≠ a -> s.heap.get? b = some o -> h'.get? b = some o) →
   h'.get? a = some (seqObj "list" (List.toArray (p.toList.map fun i => (cs.map Value.ref).getD i Value.none)) c2) -> P (.done (.ret .none)) { s with heap := h' }) : wpAny (model prog w) A (Builtin.«list.sort» ⟨[.ref a], []⟩) P E s := by
 have ha : a < s.heap.objs.size := zAJ ho
 have lv : (cs.map Value.ref).length = cs.length := zAA ..
 obtain ⟨e1, ho1⟩ : ∃ e1, (s.heap.update a (Obj.mapSeq fun _ => (#[] : Array Value))).get? a = some (seqObj "list" #[] e1) := ⟨_, get?_update_seq ho fun _ => #[]⟩
 rw [list_sort_plain]
 refine wpAny_bind (listItems_at ho rfl ?_)
 refine wpAny_bind (listUpdate_at ho rfl ?_ (by rw [zAX, sizeLine_eq]; omega) (zAk _))
 refine wpAny_bind (seqEpoch_at ho1 rfl ?_)
 refine wpAny_bind (wpAny_newTuple ?_ (by show (cs.map Value.ref).length <= _; rw [sizeLine_eq]; omega))
 refine wpAny_bind (wpAny_newList ?_ (zAk _))
 refine wpAny_holding ?_
 show wpAny (model prog w) A _ P E { s with heap := ((s.heap.update a (Obj.mapSeq fun _ => (#[] : Array Value))).push (seqObj "tuple" (cs.map Value.ref).toArray 0)).push (seqObj "list" #[] 0) }
 have ho2 : (((s.heap.update a (Obj.mapSeq fun _ => (#[] : Array Value))).push (seqObj "tuple" (cs.map Value.ref).toArray 0)).push (seqObj "list" #[] 0)).get? a = some (seqObj "list" #[] e1) := zAF _ (zAF _ ho1)
 have oth : ∀ b o, b ≠ a -> s.heap.get? b = some o -> (((s.heap.update a (Obj.mapSeq fun _ => (#[] : Array Value))).push (seqObj "tuple" (cs.map Value.ref).toArray 0)).push (seqObj "list" #[] 0)).get? b = some o := fun b o hb e =>
  zAF _ (zAF _ ((zBo _ _ (Ne.symm hb)).trans e))
 generalize ((s.heap.update a (Obj.mapSeq fun _ => (#[] : Array Value))).push (seqObj "tuple" (cs.map Value.ref).toArray 0)).push (seqObj "list" #[] 0) = H at ho2 oth ⊢
 have fin : ∀ (p : Array Nat) (out : Array Value), SS.Ok cs.length p -> (∀ i j, i <= j -> j < cs.length -> lexLt (K (p.getD j 0)) (K (p.getD i 0)) = false) -> out = List.toArray (p.toList.map fun i => (cs.map Value.ref).getD i Value.none) -> P (.done (.ret .none)) { s with heap := H.update a (Obj.mapSeq fun _ => out) } := fun p out O S e => by
  subst e
  obtain ⟨c2, hc2⟩ : ∃ c2, (H.update a (Obj.mapSeq fun _ => List.toArray (p.toList.map fun i => (cs.map Value.ref).getD i Value.none))).get? a = some (seqObj "list" (List.toArray (p.toList.map fun i => (cs.map Value.ref).getD i Value.none)) c2) := ⟨_, get?_update_seq ho2 fun _ => List.toArray (p.toList.map fun i => (cs.map Value.ref).getD i Value.none)⟩
  exact hP _ p c2 O S (fun b o hb e => (zBo _ _ (Ne.symm hb)).trans (oth b o hb e)) hc2
 dsimp only
 by_cases hn : (cs.map Value.ref).toArray.size < 2
 ·rw [if_pos hn, if_pos hn]
  refine wpAny_bind (wpAny_pure ?_)
  rw [StateT.run_pure]
  refine wpAny_bind (wpAny_pure ?_)
  dsimp only
  refine wpAny_bind (seqEpoch_at ho2 rfl ?_)
  refine wpAny_bind (listUpdate_at ho2 rfl ?_ (hsz2 := by rw [Array.size_map]; show (pairsOf (cs.map Value.ref)).size <= _; rw [pairsOf_size, sizeLine_eq]; omega))
  simp only [bne_self_eq_false, zAa, if_false]
  refine wpAny_pure (fin (List.toArray (List.range cs.length)) _ ⟨Array.Perm.refl _⟩ (fun i j hij hj => ?_) ?_)
  ·have : i = j := by rw [zAX, lv] at hn; omega
   subst this
   exact i4 _
  ·show ((cs.map Value.ref).toArray.zip (cs.map Value.ref).toArray).map (·.2) = _
   have e := range_getD (cs.map Value.ref) Value.none
   rw [lv] at e
   show _ = List.toArray ((List.range cs.length).map fun i => (cs.map Value.ref).getD i Value.none)
   rw [e]
   simp [vf]
 ·rw [if_neg hn, if_neg hn]
  rw [zAX, lv] at hn
  have hH : ∀ (j : Nat) (c : Addr), cs[j]? = some c -> (TK prog w).is H (K j) c /\ K j ≠ [] := fun j c hj => by
   obtain ⟨q1, q2⟩ := h j c hj
   exact ⟨jN q1 fun o e => oth c o (key_ne q1 ho rfl (by decide)) e, q2⟩
  refine wpAny_bind (tZ (s := { s with heap := H }) (by omega) hH ?_)
  refine wpAny_bind (wpAny_mono (kat_run (s := { s with heap := H }) (ks := cs.map Value.ref) (vs := cs.map Value.ref) (Q := fun st' s' => s' = { s with heap := H } /\ ∃ p : Array Nat, arrOf st' = p.map (kas_item ((cs.map Value.ref).toArray.zip (cs.map Value.ref).toArray)) /\ failedOf st' = none /\ SS.Ok cs.length p /\ ∀ i j, i <= j -> j < cs.length -> lexLt (K (p.getD j 0)) (K (p.getD i 0)) = false)
   (G := fun p s' => s' = { s with heap := H } /\ SS.Ok cs.length p /\ ∀ i j, i <= j -> j < cs.length -> lexLt (K (p.getD j 0)) (K (p.getD i 0)) = false)
   rfl (by rw [lv]; omega) (by rw [lv]; exact h64) (fun p st' s' a1 a2 a3 ⟨a4, a5, a6⟩ => ⟨a4, p, a2, a3, a5, a6⟩) ?_) ?_ fun _ _ e => e)
  ·rw [lv]
   exact AS (s := { s with heap := H }) (by omega) (fun j c hj => (hH j c hj).1) fun p O S => ⟨rfl, O, S⟩
  ·rintro ⟨⟨⟩, st'⟩ s' ⟨rfl, p, har, hf, O, S⟩
   dsimp only
   have hout := kat_snds (ks := cs.map Value.ref) (vs := cs.map Value.ref) rfl har
   rw [hout]
   refine wpAny_bind (seqEpoch_at ho2 rfl ?_)
   refine wpAny_bind (listUpdate_at ho2 rfl ?_ (zAk _) (by rw [zAX, zAA, zAZ, O.size, sizeLine_eq]; omega))
   rw [hf]
   simp only [bne_self_eq_false, zAa, if_false]
   exact wpAny_pure (fin p _ O S rfl)
theorem zU{α β:Type}{f:α->β}{l m:List β}(h:l.Perm m):∀xs:List α,m=xs.map f->∃zs:List α,zs.Perm xs/\l=zs.map f:=by
 induction h with
 |nil=>intro xs e;exact⟨xs,List.Perm.refl _,e⟩
 |cons a _ ih =>
  intro xs e
  cases xs with
  |nil=>cases e
  |cons x xs =>
   rw[zAK]at e
   injection e with e1 e2
   obtain⟨zs,p,q⟩:=ih xs e2
   exact⟨x::zs,p.cons x,by rw[zAK,q,e1]⟩
 |swap a b l =>
  intro xs e
  match xs,e with
  |[],e=>cases e
  |[_],e=>simp at e
  |x::y::xs,e =>
   simp only[zAK,zAL]at e
   obtain⟨e1,e2,e3⟩:=e
   exact⟨y::x::xs,List.Perm.swap x y xs,by simp only[zAK];rw[e1,e2,e3]⟩
 |trans _ _ ih1 ih2 =>
  intro xs e
  obtain⟨zs,p,q⟩:=ih2 xs e
  obtain⟨zs',p',q'⟩:=ih1 zs q
  exact⟨zs',p'.trans p,q'⟩
theorem wJ {a : Addr} {xs : List (List Int × Addr)} {Q : Value -> Shared -> Prop} (hh : A.handled = none) (X : hV prog w s.heap a xs) (h64 : xs.length < 64) (hne : ∀ x ∈ xs, x.1 ≠ [])
  (hQ : ∀ s' (D : Addr) (ys : List (List Int × Addr)) c, (∀ b o, s.heap.get? b = some o -> s'.heap.get? b = some o) -> s'.gens = s.gens -> s'.drawn = s.drawn -> s'.os = s.os -> s.heap.objs.size <= D -> ys.Perm xs -> ys.Pairwise (fun x y => lexLt x.1 y.1 = true) →
   s'.heap.get? D = some (seqObj "list" (ys.map fun y => Value.ref y.2).toArray c) -> Q (.ref D) s') : wpAny (model prog w) A (call (.builtin "sorted") [.ref a]) Q E s := by
 obtain ⟨⟨o, es, ep, t, ho, hex, hd, he, T, hpl, _, _⟩, his, nd⟩ := X
 have sz : es.size = xs.length := by rw [<- zAZ, he, zAA]
 refine Calls.call_function_entry kind_sorted plain_sorted entry_sorted (args_sorted1 _) ?_
 unfold Builtin.«sorted»
 refine wpAny_bind (m := checkCount "sorted" 1 1 _) (wpAny_pure ?_)
 refine wpAny_bind (tX (show A.in1.handled = none from hh) ho hex.1 hd T (by rw [zAA, sz]) hpl (by omega) fun s1 acc kp g1 g2 g3 le ea => ?_)
 obtain ⟨zs, pz, ez⟩ := zU (mL w a es ep) xs he
 have ea' : acc = (zs.map (·.2)).map Value.ref := by rw [ea, ez, zAo, zAo]; rfl
 have lz : zs.length = xs.length := pz.length_eq
 have lcs : (zs.map (·.2)).length = xs.length := by rw [zAA, lz]
 subst ea'
 refine wpAny_bind (wpAny_newList ?_ (by rw [zAA, lcs, sizeLine_eq]; omega))
 have hoL : (s1.heap.push (seqObj "list" ((zs.map (·.2)).map Value.ref).toArray 0)).get? s1.heap.objs.size = some (seqObj "list" ((zs.map (·.2)).map Value.ref).toArray 0) := zAU _ rfl
 have kp2 : ∀ b o, s.heap.get? b = some o -> (s1.heap.push (seqObj "list" ((zs.map (·.2)).map Value.ref).toArray 0)).get? b = some o := fun b o e => zAF _ (kp b o e)
 show wpAny _ _ _ _ _ { s1 with heap := s1.heap.push (seqObj "list" ((zs.map (·.2)).map Value.ref).toArray 0) }
 refine wpAny_bind (wpAny_holding (wpAny_call_entry slot_list_sort ⟨_, hoL, rfl⟩ entry_list_sort ?body (args_list_sort _)))
 case body =>
  refine sN (s := { s1 with heap := s1.heap.push (seqObj "list" ((zs.map (·.2)).map Value.ref).toArray 0) }) (K := fun j => (zs.getD j ([], 0)).1) hoL (by omega) (fun j c hj => ?_) fun h' p c2 O S oth hD => ?_
  ·rw [zAH] at hj
   obtain ⟨z, ez, e⟩ := zBB.mp hj
   have g : zs.getD j ([], 0) = z := by rw [zAG, ez]; rfl
   have mz : z ∈ xs := pz.mem_iff.mp (zAT ez)
   subst e
   dsimp only
   rw [g]
   exact ⟨jN (his z mz) fun o e => kp2 _ o e, hne z mz⟩
  ·have py : (p.toList.map fun i => zs.getD i ([], 0)).Perm xs := by
    have h1 := (zCn.mp O.perm).map fun i => zs.getD i ([], 0)
    have h2 := range_getD zs ([], 0)
    rw [lz, <- lcs] at h2
    refine (h1.trans ?_).trans pz
    show ((List.range (zs.map (·.2)).length).map fun i => zs.getD i ([], 0)).Perm zs
    rw [h2]
   refine ⟨_, rfl, wpAny_pure ⟨_, rfl, hQ _ s1.heap.objs.size (p.toList.map fun i => zs.getD i ([], 0)) c2 (fun b o e => ?_) g1 g2 g3 le py ?_ ?_⟩⟩
   ·exact oth b o (zAr (zAW (zAJ e) le)) (kp2 b o e)
   ·refine zAy.mpr fun i j hi hj hij => ?_
    have nd2 : ((p.toList.map fun i => zs.getD i ([], 0)).map (·.1)).Nodup := (py.map (·.1)).nodup_iff.mpr nd
    have ni := zAy.mp nd2 i j (by rw [zAA]; exact hi) (by rw [zAA]; exact hj) hij
    rw [zAA, zAZ] at hi hj
    have ss := S i j (by omega) (by rw [<- O.size]; exact hj)
    have gi : p.getD i 0 = p[i] := by simp [Array.getD, hi]
    have gj : p.getD j 0 = p[j] := by simp [Array.getD, hj]
    rw [gi, gj] at ss
    simp only [zAz, Array.getElem_toList] at ni ⊢
    rcases jA _ _ ss with e | e
    ·exact absurd e.symm ni
    ·exact e
   ·refine hD.trans ?_
    congr 3
    rw [zAo (l := p.toList)]
    refine zBd fun i hi => ?_
    have li : i < zs.length := by
     have := (zCn.mp O.perm).mem_iff.mp hi
     simpa using this
    simp [li]
end
end SW
namespace PD
open PySem PySem.Spec PyProof.Rows L2
section
variable{X:Cx}{pos:Pos}
theorem boot_sorted:bootBuiltins "sorted" = some (.builtin "sorted"):=by kernel_rfl
theorem boot_set:bootBuiltins "set" = some (.type "set"):=by kernel_rfl
theorem nU{prog:Program}{w:World}:∀{ns:List Int} {us:List Value},Vals (ns.map V.int) us->PySem.ItemsAre (intKind prog w) ns us
 |[],us,r=>by rw[zBZ]at r;cases r;exact .nil
 |n::ns,us,r=>by
  rw[zAK]at r
  cases r with
  |cons h t =>
   obtain⟨tk,rfl⟩:=h
   exact .cons (by simp[intKind,Value.isInt]) (nU t)
theorem uI{pins:List (Addr×Obj)}{σ:St}{H:Hp}{s:Shared}{a:Addr}{k:List Int}(I:Inv X pins σ H s)(h:SqT X.K H a (k.map V.int)):(SW.TK X.prog X.w).is s.heap k a:=by
 obtain⟨its,r,⟨o,e,hc,n,hd⟩,_⟩:=I.tuple h.w
 exact⟨o,its.toArray,n,e,hc,hd,by simpa using nU r⟩
theorem C4{A:Around}{k:Nat}(hr:bX k A):A.in1.in1.in1.units<cLine:=zCx (Nat.add_le_add_left (by decide:3<=64) _) hr.units
def tupI(k:List Int):D:=.tup (k.map D.int)
theorem Eu{K:PySem.W.Frag}{P:Bool->Addr->Prop}{H:Hp}{k:List Int}{v:V}(h:Den K P H (tupI k) v):∃a,v=.ref a/\SqT K H a (k.map V.int):=by
 obtain⟨a,vs,e,q,hd⟩:=h.tup_
 rw[cR hd]at q
 exact⟨a,e,q⟩
def wU(ys ks:List (List Int)):Prop:=ys.Pairwise (fun x y=>SW.lexLt x y=true)/\∀k,k∈ys↔k∈ks
def za(te:DE):DA:=fun ρ Q=>te ρ fun d=>∃t ks,d=.lst t (ks.map tupI)/\ks.length<64/\(∀k∈ks,k ≠ [])/\∀ys,wU ys ks->Q (ys.map tupI)
theorem vS {e:Expr} {te:DE} {p p2 pos2:Pos} (hc:X.calm=true) (hu:X.A.in1.in1.in1.units<cLine) (hg:Gl X "sorted") (hm:X.mg "sorted" = none) (hg2:Gl X "set") (hm2:X.mg "set" = none) (he:PED X e te)
  (hst:starEach [.Call (.Name "set" p2) [e] [] pos2] X.env=(false,eval (.Call (.Name "set" p2) [e] [] pos2) X.env)::starEach [] X.env:=by rfl) (hpl:(backTo pos (starEach [] X.env)).any (·.1)=false:=by rfl)
  (hst2:starEach [e] X.env=(false,eval e X.env)::starEach [] X.env:=by rfl) (hpl2:(backTo pos2 (starEach [] X.env)).any (·.1)=false:=by rfl) :
  PEF X (.Call (.Name "sorted" p) [.Call (.Name "set" p2) [e] [] pos2] [] pos) (za te):=by
 intro pins s σ H W ρ Q I r h
 refine wpAny_Call_Name_kw (eQ I hg hm boot_sorted ?_ (by decide) (by decide))
 refine PyProof.Rows.callWith_builtin1 ?_ hst hpl
 rw[hst]
 show wpAny _ _ (spliced ((false,eval (.Call (.Name "set" p2) [e] [] pos2) X.env)::backTo pos (starEach [] X.env))) _ _ s
 refine Calls.spliced_cons ?_
 refine wpAny_Call_Name_kw (eQ I hg2 hm2 boot_set ?_ (by decide) (by decide))
 refine PyProof.Rows.callWith_type1 ?_ hst2 hpl2
 rw[hst2]
 show wpAny _ _ (spliced ((false,eval e X.env)::backTo pos2 (starEach [] X.env))) _ _ s
 refine Calls.spliced_cons (thn (he pins s σ H W ρ _ I r h) fun u s1 ⟨v,H1,d,I1,rv,e1,hd,t,ks,ed,lk,hne,q⟩=>?_)
 subst ed
 obtain⟨l,vs,ev,_,hq,hw⟩:=hd.lst_
 subst ev
 cases rv
 refine wpAny_pure ?_
 obtain⟨its,rv,pl,_⟩:=I1.list hq
 have hh:=I1.ok.hd hc
 have lvs:vs.length=ks.length:=by rw[hw.len,zAA]
 have lit:its.length=ks.length:=by rw[<- rv.length,lvs]
 have at_:∀(j:Nat) (k:List Int),ks[j]?=some k->∃c:Addr,its[j]?=some (Value.ref c)/\SqT X.K H1 c (k.map V.int):=fun j k hk=>by
  obtain⟨v,ev,hv⟩:=hw.get (i:=j) (d:=tupI k) (by rw[zAH,hk];rfl)
  obtain⟨c,rfl,hc⟩:=Eu hv
  obtain⟨u,eu,ru⟩:=rv.get ev
  cases ru
  exact⟨c,eu,hc⟩
 refine SW.call_set_list hh hu pl.isList (by rw[zAX];omega) (fun j=>ks.getD j []) (fun j v hj=>?_) fun h2 tk2 ys kp S yl yk yi=>?_
 ·have hj':its[j]?=some v:=by simpa using hj
  have lj:j<ks.length:=by rw[<- lit];exact(zAE.mp hj').1
  obtain⟨c,ec,hcc⟩:=at_ j ks[j] (zAB lj)
  rw[hj']at ec
  cases ec
  rw[show ks.getD j []=ks[j]by simp[lj]]
  exact⟨c,rfl,uI I1 hcc⟩
 ·have I2:L2.Inv X pins σ H1 {s1 with heap:=h2,toks:=tk2}:=I1.kept kp
  refine wpAny_pure ?_
  rw[zAX]at yl yk yi
  have memk:∀k,k∈ys.map (·.1)↔k∈ks:=fun k=>by
   rw[yk k]
   constructor
   ·rintro⟨j,lj,e⟩
    rw[lit]at lj
    rw[e,show ks.getD j []=ks[j]by simp[lj]]
    exact zBL lj
   ·intro hk
    obtain⟨j,lj,e⟩:=zBM hk
    exact⟨j,by rw[lit];exact lj,by rw[<- e];simp[lj]⟩
  have den:∀y∈ys,SqT X.K H1 y.2 (y.1.map V.int):=fun y hy=>by
   obtain⟨j,lj,ej⟩:=yi y hy
   have ej':its[j]?=some (.ref y.2):=by simpa using ej
   rw[lit]at lj
   obtain⟨c,ec,hcc⟩:=at_ j ks[j] (zAB lj)
   rw[ej']at ec
   cases ec
   have k1:=uI I2 hcc
   rw[(SW.TK X.prog X.w).inj (S.is_ y hy) k1]
   exact hcc
  refine SW.wJ (s:={s1 with heap:=h2,toks:=tk2}) hh S (by omega) (fun y hy=>hne _ ((memk _).mp (zAQ.mpr ⟨y,hy,rfl⟩))) fun s' D zs c kp' g1 g2 g3 le pz sz hD=>?_
  have lz:zs.length=ys.length:=pz.length_eq
  have es:s'={s1 with heap:=s'.heap,toks:=s'.toks}:=by cases s';dsimp only at g1 g2 g3 ⊢;subst g1 g2 g3;rfl
  have hz:s1.heap.objs.size<=D:=by
   obtain⟨_,_,_,_,ho,_⟩:=S.ex
   exact zB0 (zAW (zAJ ho) le)
  have nD:H1 D=none:=I1.hok.fresh hz
  have I3:L2.Inv X pins σ (L2.upd H1 D (.lst (zs.map fun z=>V.ref z.2))) s':=by
   rw[es]
   refine I1.laid (fun b u e=>kp' b u (kp b u e)) hz ⟨by rw[zAA,sizeLine_eq];omega,zs.map fun z=>Value.ref z.2,c,?_,hD⟩
   clear pz sz hD lz
   induction zs with
   |nil=>exact .nil
   |cons z zs ih=>exact .cons rfl ih
  have dz:af X.K W.bad H1 ((zs.map (·.1)).map tupI) (zs.map fun z=>V.ref z.2):=by
   have hall:∀z∈zs,SqT X.K H1 z.2 (z.1.map V.int):=fun z hz=>den z (pz.mem_iff.mp hz)
   clear pz sz hD lz I3
   induction zs with
   |nil=>exact rfl
   |cons z zs ih =>
    refine af.cons (Den.tup (hall z zAY) ?_) (ih fun z hz=>hall z (zAD _ hz))
    show af X.K W.bad H1 (z.1.map PD.D.int) (z.1.map V.int)
    generalize z.1=k
    induction k with
    |nil=>exact rfl
    |cons n k ih2=>exact af.cons (Den.int n) ih2
  have kn:=Inv.kno I3 aG
  refine⟨D,_,_,_,rfl,I3,e1.trans (ar.upd nD),e1.free nD,kn,aG,af.apart nD kn dz,q _ ⟨?_,fun k=>?_⟩⟩
  ·exact List.pairwise_map.mpr sz
  ·rw[(pz.map (·.1)).mem_iff]
   exact memk k
end
end PD
namespace HT
open PySem PyProof.Rows
section
open PySem.SeqAt
open PySem.AutoSeq1 (wpAny_loadPart')
open PySem.MeetsSeq PySem.MeetsSeq2 PySem.MeetsSeq3
end
section
variable{prog:Program}{w:World}{A:Around}{E:Value->Shared->Prop}{s:Shared}
end
end HT
namespace SW
open PySem PySem.SetTable ST PySem.W PyProof.Rows
section
variable{prog:Program}{w:World}{A:Around}{E:Value->Shared->Prop}{s:Shared}
end
end SW
namespace SW
open PySem PySem.SetTable ST PySem.W PyProof.Rows
section
variable{prog:Program}{w:World}{A:Around}{E:Value->Shared->Prop}{s:Shared}
end
end SW
namespace SW
open PySem PySem.SetTable ST PySem.W PyProof.Rows
section
variable{prog:Program}{w:World}{A:Around}{E:Value->Shared->Prop}{s:Shared}
end
end SW
namespace PD
open PySem PySem.Spec PyProof.Rows L2
section
variable{X:Cx}{pos:Pos}
end
end PD
namespace PD
open PySem PySem.Spec PyProof.Rows L2
section
variable{X:Cx}{pos:Pos}
theorem A0 (hc:X.calm=true):eS X (.builtin "min") (fun ds Q=>∃(t:Bool) (ns:List Int),ds=[.lst t (ns.map D.int)]/\0<ns.length/\∀m,m∈ns->(∀n∈ns,m<=n)->Q (.int m)):=by
 intro pins s σ H W ds vs us Q I tr r hd q
 obtain⟨t,ns,e,hne,q⟩:=q
 subst e
 obtain⟨v,rfl,h1⟩:=lX hd
 obtain⟨a,ws,ev,_,hq,hw⟩:=h1.lst_
 subst ev
 cases r with
 |cons r1 rr =>
  cases rr
  cases r1
  obtain⟨its,rv,pl,_⟩:=I.list hq
  rw[cR hw]at rv
  have ia:=intsAre_of rv
  obtain⟨xs,ex⟩:=ia.allInts.items
  have hl:s.heap.IsList a (intItems xs):=by rw[<- ex];exact pl.isList
  have hns:ns=xs.toList.map (·.1):=by rw[<- ia.numsOf,<- nums_intItems,<- ex]
  have hsz:0<xs.size:=by rw[hns,zAA,zAZ]at hne;exact hne
  refine min_intList (I.ok.hd hc) hl hsz fun y h' tk hy kp=>?_
  obtain⟨tt,rfl⟩:=intItems_at hy
  obtain⟨g1,g2⟩:=argBest_lt (numAt xs) (xs.size - 1)
  have at_:∀j,j<xs.size->xs.toList.map (·.1) ≠ []->numAt xs j∈ns:=fun j hj _=>by
   rw[hns,numAt_eq]
   have:(xs.toList.map (·.1))[j]?=some ((xs.toList.map (·.1)).getD j 0):=by simp[hj]
   exact zAT this
  refine⟨.int _,H,_,I.kept kp,⟨_,rfl⟩,ar.refl H,Den.int _,q _ (at_ _ (by omega) (by rw[<- hns];exact zBg hne)) fun n hn=>?_⟩
  rw[hns]at hn
  obtain⟨j,hj,ej⟩:=zBM hn
  have:numAt xs j=n:=by rw[numAt_eq,<- ej];simp only[zAG,zAB hj,zB9]
  rw[<- this]
  rw[zAA,zAZ]at hj
  exact g2 j (by omega)
end
theorem CZ(g1 g2 g3:DG)(a b c:D)(ρ:Ro)(Q:Ro->Prop):gF 3 (bH g1 (bH g2 (bH g3 jg))) (.tup [a,b,c]) ρ Q=g1 a ρ fun ρ1=>g2 b ρ1 fun ρ2=>g3 c ρ2 Q:=by
 rw[o7 3 _ _ rfl]
 simp only[gdc,gdn]
theorem C3(g1 g2 g3 g4 g5 g6:DG)(a b c d e f:D)(ρ:Ro)(Q:Ro->Prop):gF 6 (bH g1 (bH g2 (bH g3 (bH g4 (bH g5 (bH g6 jg)))))) (.tup [a,b,c,d,e,f]) ρ Q=g1 a ρ fun ρ1=>g2 b ρ1 fun ρ2=>g3 c ρ2 fun ρ3=>g4 d ρ3 fun ρ4=>g5 e ρ4 fun ρ5=>g6 f ρ5 Q:=by
 rw[o7 6 _ _ rfl]
 simp only[gdc,gdn]
end PD
namespace SW
open PySem PySem.SetTable ST PySem.W PyProof.Rows
section
variable{prog:Program}{w:World}{A:Around}{E:Value->Shared->Prop}{s:Shared}
structure E3(prog:Program)(w:World)(h:Heap)(a:Addr)(xs:List (Int×Tok)):Prop where
 ex:∃o es ep t,h.get? a=some o/\o.ExactSet/\o.data=.set es ep t/\es.toList=xs.map (fun x=>((intKind prog w).hash x.1,Value.int x.1 x.2))/\Tab t (xs.map fun x=>(intKind prog w).hash x.1)/\(t.plain=true/\t.led=!w.params.followText "set-order")/\7<=t.mask
 nd:(xs.map (·.1)).Nodup
end
end SW
namespace SW
open PySem PySem.SetTable ST PySem.W PyProof.Rows
section
variable{prog:Program}{w:World}{A:Around}{E:Value->Shared->Prop}{s:Shared}
end
end SW
namespace SW
open PySem PySem.SetTable ST PySem.W PyProof.Rows
section
variable{prog:Program}{w:World}{A:Around}{E:Value->Shared->Prop}{s:Shared}
end
end SW
namespace PD
open PySem PySem.Spec PyProof.Rows L2
section
variable{X:Cx}{pos:Pos}
theorem ju:∀{out:List Value} {ms:List Int},IntsAre out ms->Vals (ms.map V.int) out
 |_,_,.nil=>.nil
 |_,_,.cons n t r=>.cons ⟨t,rfl⟩ (ju r)
end
end PD
namespace PD
open PySem PySem.Spec PyProof.Rows L2
section
variable{X:Cx}
def BDP(X:Cx)(pins:List (Addr×Obj))(W:Own)(Q:D->Prop)(f:Flow)(s1:Shared):Prop :=
 ∃ u v d σ' H',f=.ret u/\Inv X pins σ' H' s1/\RelV v u/\ar X.H₀ H'/\Den X.K (fun t a=>W.B a∨(t=true/\W.S a)) H' d v/\Q d
abbrev DB:=(D->Prop)->Ro->Prop
def PBd(X:Cx)(ss:List Stmt)(t:DB):Prop :=
 ∀ (pins:List (Addr×Obj)) (s:Shared) (σ:St) (H:Hp) (W:Own) (ρ:Ro) (Q:D->Prop),Inv X pins σ H s->Rel X W H σ ρ->(∀a o,X.H₀ a=some o->W.S a)->t Q ρ →
  wpAny (model X.prog X.w) X.A (execs ss X.env) (BDP X pins W Q) X.xe s
theorem Fwd.ent{W W':Own}{H H':Hp}{σ:St}{ρ:Ro}(f:Fwd W H W' H')(r:Rel X W H σ ρ):ar X.H₀ H' where
 kp:=fun b o e n=>f.kp b o (fun i z=>by have:=r.ke i b z;rw[e]at this;cases this) (r.ent.kp b o e n) n
 tb:=fun b ps e=>by
  obtain⟨m1,h1⟩:=r.ent.tb b ps e
  obtain⟨m2,h2⟩:=f.tb b _ h1
  exact⟨m1++m2,by rw[h2,zCA]⟩
 ok:=fun k=>f.ok (r.ent.ok k)
theorem rV{K:PySem.W.Frag}{W W':Own}{H H':Hp}{d:D}{v:V}(f:Fwd W H W' H')(h:Den K W'.bad H' d v):Den K (fun t a=>W.B a∨(t=true/\W.S a)) H' d v:=h.fewer fun t a z=>by
 rcases z with z|z
 ·exact .inl (by rw[f.B];exact z)
 ·exact .inr (.inr ⟨z.1,by rw[f.S];exact z.2⟩)
def rQ(t:DS)(u:DB):DB:=fun Q ρ=>t {nx:=u Q,rt:=Q} ρ
theorem jJ{st:Stmt}{rest:List Stmt}{t:DS}{u:DB}(h1:PSD X st t)(h2:PBd X rest u):PBd X (st::rest) (rQ t u):=by
 intro pins s σ H W ρ Q I r s0 h
 refine wpAny_execs_cons (thn (h1 pins s σ H W ρ _ I r h) fun f s1 ⟨W',σ',H',I',fw,q⟩=>?_)
 cases f with
 |next =>
  obtain⟨ρ',r',q⟩:=q
  refine thn (h2 pins s1 σ' H' W' ρ' Q I' r' (by rw[fw.S];exact s0) q) fun f2 s2 ⟨w,v,d,σ2,H2,e,I2,rv,sm,hd,qd⟩=>⟨w,v,d,σ2,H2,e,I2,rv,sm,?_,qd⟩
  rw[fw.B,fw.S]at hd
  exact hd
 |ret w =>
  obtain⟨v,d,rv,hd,qd⟩:=q
  exact⟨w,v,d,σ',H',rfl,I',rv,fw.ent r,rV fw hd,qd⟩
 |brk=>obtain⟨_,_,q⟩:=q;exact q.elim
 |cont=>obtain⟨_,_,q⟩:=q;exact q.elim
def vR(t:DS):DB:=fun Q ρ=>t {nx:=fun _=>False,rt:=Q} ρ
theorem Cq{st:Stmt}{t:DS}(h1:PSD X st t):PBd X [st] (vR t):=by
 intro pins s σ H W ρ Q I r s0 h
 refine wpAny_execs_cons (thn (h1 pins s σ H W ρ _ I r h) fun f s1 ⟨W',σ',H',I',fw,q⟩=>?_)
 cases f with
 |next=>obtain⟨_,_,q⟩:=q;exact q.elim
 |ret w =>
  obtain⟨v,d,rv,hd,qd⟩:=q
  exact⟨w,v,d,σ',H',rfl,I',rv,fw.ent r,rV fw hd,qd⟩
 |brk=>obtain⟨_,_,q⟩:=q;exact q.elim
 |cont=>obtain⟨_,_,q⟩:=q;exact q.elim
def Ef(X:Cx)(t:DB):TS:=fun D σ H=>∃W ρ Q,Rel X W H σ ρ/\(∀a o,X.H₀ a=some o->W.S a)/\t Q ρ/\∀H' v d,ar X.H₀ H'->Den X.K (fun t a=>W.B a∨(t=true/\W.S a)) H' d v->Q d->D.rt v H'
theorem PBd.ps{ss:List Stmt}{t:DB}(h:PBd X ss t):PSs X ss (Ef X t):=by
 intro pins s σ H D I q
 obtain⟨W,ρ,Q,r,s0,ht,k⟩:=q
 refine thn (h pins s σ H W ρ Q I r s0 ht) fun f s1 ⟨u,v,d,σ',H',e,I1,rv,sm,hd,qd⟩=>?_
 subst e
 exact⟨v,σ',H',I1,rv,k H' v d sm hd qd⟩
theorem PBd.nox{ss:List Stmt}{t:DB}(h:PBd X.nox ss t):PBd X ss t:=fun pins s σ H W ρ Q I r s0 hw =>
 wpAny_mono (h pins s σ H W ρ Q (I.wish _) (r.wish _) s0 hw) (fun _ _ ⟨u,v,d,σ',H',e,I1,q⟩=>⟨u,v,d,σ',H',e,I1.unwish,q⟩) fun _ _ z=>False.elim z
end
section
variable{P:Program}{w:World}{K:PySem.W.Frag}{mg:Str->Option Value}{base:Heap}
theorem aB.okB {x qual : Str} {st : Stmt} {f : Addr} {fd : FuncData} {N ps : List Str} {k : Nat} {sp : DSp} (F : aB K x qual st f fd) (S : aC N ps (au st)) (len : ∀ ds Q E, sp ds Q E -> ds.length = ps.length)
  (hbody : ∀ (cdv : Value) (A : Around) (outer : List Env) (s : Shared) (H : Hp) (E : XK), bX k (A.deeper (envOfC qual (au st) s.heap.objs.size f cdv)) →
   ∃ t, PBd (cW (CX1 P w) P w K mg base N qual (au st) f cdv A outer s H E).nox (cu st) t /\ ∀ ds Q Ed, sp ds Q Ed -> t Q (aF N ds)) : aS P w K mg base (CX1 P w) (k + 1) f fd ps (aT K sp) := by
 obtain ⟨oc, od, dV, kV, doc, pm, an, cdv, ct, osl, rfl, lk, hcd⟩ := F.ex
 refine AD lk hcd S (fun vs H Q E h => ?_) fun A outer s H vs Q E hr h => ?_
 ·obtain ⟨_, ds, _, _, _, _, hd, hs, _⟩ := h
  rw [hd.len]
  exact len ds _ _ hs
 ·obtain ⟨Pb, ds, Qd, Ed, hT, hP, hd, hs, kq, ke⟩ := h
  obtain ⟨t, ht, k⟩ := hbody cdv A outer s H E hr
  refine ⟨_, ht.nox.ps, ⟨Pb, fun _ => none, fun a => ∃ o, H a = some o⟩, _, Qd, Rel.start hP hd rfl hT, fun a o e => ⟨o, e⟩, k ds Qd Ed hs, fun H' v d sm hd' q => ?_⟩
  exact kq d v H' sm hd' q
end
end PD
namespace PD
open PySem PySem.Spec PyProof.Rows L2
section
variable{X:Cx}
theorem Rel.forget{W:Own}{H:Hp}{σ:St}{ρ:Ro}(r:Rel X W H σ ρ)(i:Nat):Rel X W H σ (ρ.set i none) where
 val:=fun j d h=>by
  by_cases e:j=i
  ·subst e
   by_cases l:j<ρ.length
   ·rw[zAV l]at h;cases h
   ·rw[zAs (by rw[zBK];omega)]at h;cases h
  ·rw[zAN (Ne.symm e)]at h;exact r.val j d h
 own:=fun j d h=>by
  by_cases e:j=i
  ·subst e
   by_cases l:j<ρ.length
   ·rw[zAV l]at h;cases h
   ·rw[zAs (by rw[zBK];omega)]at h;cases h
  ·rw[zAN (Ne.symm e)]at h;exact r.own j d h
 inj:=r.inj
 kn:=r.kn
 ke:=r.ke
 bt:=r.bt
 st:=r.st
 ent:=r.ent
 tab:=r.tab
theorem Rel.apart{W:Own}{H H':Hp}{σ:St}{ρ:Ro}{Z:Addr->Prop}(r:Rel X W H σ ρ)(ag:∀a,¬Z a->H' a=H a)(ls:∀a,Z a->∃us us',H a=some (.lst us)/\H' a=some (.lst us'))(nO:∀i a,W.O i=some a->¬Z a)
  (hv:∀(j:Nat) (d:D) (v:V),ρ[j]?=some (some (Sl.val d))->σ[j]?=some (some v)->Den X.K W.bad H d v->Den X.K (fun t a=>W.bad t a∨Z a) H d v)
  (ho:∀(j:Nat) (x:OS),ρ[j]?=some (some (Sl.ob x))->∃zs,x=OS.lst zs/\cI zs=true) (ent:ar X.H₀ H') (tab:fD X.K H'):Rel X W H' σ ρ:=by
 have noT:∀c ws,SqT X.K H c ws->SqT X.K H' c ws:=fun c ws q=>by
  have q':H c=some (.tup ws):=q
  show H' c=_
  rw[ag c fun z=>by obtain⟨us,_,h1,_⟩:=ls c z;rw[h1]at q';cases q']
  exact q'
 have noX:∀c u,Sol u->H c=some u->H' c=some u:=fun c u n q=>by
  rw[ag c fun z=>by obtain⟨us,_,h1,_⟩:=ls c z;rw[h1]at q;cases q;exact n];exact q
 have noL:∀t c ws,¬(W.bad t c∨Z c)->SqG X.K H t c ws->¬W.bad t c/\SqG X.K H' t c ws:=fun t c ws n q=>by
  have e:=ag c fun z=>n (.inr z)
  refine⟨fun z=>n (.inl z),?_,fun z=>⟨by rw[e];exact(q.2 z).1,(q.2 z).2⟩⟩
  rcases q.1 with(q|⟨u,q⟩)|q
  ·exact .inl (.inl (by rw[e];exact q))
  ·exact .inl (.inr ⟨u,by rw[e];exact q⟩)
  ·exact .inr q
 have tr:∀c u,H c=some u->∃u',H' c=some u':=fun c u q=>by
  by_cases z:Z c
  ·obtain⟨_,us',_,h2⟩:=ls c z;exact⟨_,h2⟩
  ·exact⟨u,by rw[ag c z];exact q⟩
 refine⟨fun j d h=>?_,fun j x h=>?_,r.inj,fun j a h=>?_,r.ke,fun a h=>let ⟨u,q⟩:=r.bt a h;tr a u q,fun a h=>let ⟨u,q⟩:=r.st a h;tr a u q,ent,tab⟩
 ·obtain⟨v,h1,h2⟩:=r.val j d h
  exact⟨v,h1,Den.map noT noL noX d v (hv j d v h h1 h2)⟩
 ·obtain⟨zs,rfl,hz⟩:=ho j x h
  obtain⟨a,vs,h1,h2,h3,h4⟩:=r.ownL j zs h
  refine⟨a,.lst vs,h1,h2,by rw[ag a (nO j a h1)];exact h3,.lst ?_⟩
  exact af.map noT noL noX zs vs (af.nol zs vs hz h4)
 ·obtain⟨k1,k2,o,k3,k4⟩:=r.kn j a h
  exact⟨k1,k2,o,by rw[ag a (nO j a h)];exact k3,k4⟩
end
end PD
namespace PD
open PySem PySem.Spec PyProof.Rows L2
section
variable{X:Cx}
def tAp (K:PySem.W.Frag) (i:Nat) (k c:Int):TS:=wM (tBM K "list" pF (tOp (wA K) (wO i) (tC (.int k))) (oH (tC (.int c)) wN))
theorem Er {x:Str} {k c:Int} {px pk ps apos pc cpos pos:Pos} {j j':Nat} (i:Nat) (hi:X.N[i]?=some x:=by rfl) (hv:Vis X.env.scope x:=by first|exact Or.inl rfl|exact Or.inr (Or.inl rfl)|exact Or.inr (Or.inr rfl)) (hd:(x==("__debug__" : Str))=false:=by decide) (hcd:(x==("__classdict__" : Str))=false:=by decide)
  (hbase:attributeBase (.Subscript (.Name x px) (.Constant (.int k) j pk) ps) "append" X.env (eval (.Subscript (.Name x px) (.Constant (.int k) j pk) ps) X.env)=eval (.Subscript (.Name x px) (.Constant (.int k) j pk) ps) X.env:=by rfl)
  (hfew:((backTo cpos (starEach [.Constant (.int c) j' pc] X.env)).all (fun x=>!x.1) && (backToKw cpos (keywordEach [] X.env)).all (fun x=>x.1.isSome) && decide ([Expr.Constant (.int c) j' pc].length+([]:List Keyword).length+(if([]:List Keyword).isEmpty then 0 else 1)<30))=true:=by rfl)
  (hline:(apos.endLine==cpos.line)=true:=by rfl) (hst:starEach [.Constant (.int c) j' pc] X.env=(false,eval (.Constant (.int c) j' pc) X.env)::starEach [] X.env:=by rfl) (hplain:(backTo cpos (starEach [] X.env)).any (·.1)=false:=by rfl)
  (hs:swapsWith (.Call (.Attribute (.Subscript (.Name x px) (.Constant (.int k) j pk) ps) "append" apos) [.Constant (.int c) j' pc] [] cpos) none pos.line X.env=pure false:=by rfl) :
  PS X (.Expr (.Call (.Attribute (.Subscript (.Name x px) (.Constant (.int k) j pk) ps) "append" apos) [.Constant (.int c) j' pc] [] cpos) pos) (tAp X.K i k c) :=
 iQ (pos:=pos) (og PySem.F.plainAttrs_list PySem.F.slot_list_append PySem.F.type_list_append fy (oh nX (gQ hi hv hd hcd) gP (by intro _ _;rfl)) (fz gP i6 hst) hbase hfew hline hst hplain) hs
end
end PD
namespace PD
open PySem PySem.Spec PyProof.Rows L2
def FL(K:PySem.W.Frag)(x:Str)(st:Stmt):Prop:=∃(f:Addr) (oc:Value) (od:Option Addr) (kV dc pm:Value) (an:Option Addr) (cd ct:Value) (sl:Array (Option Value)),
 PySem.W.nsIn K mainGlobals x=some (some (.ref f))/\K.lookup f=some ⟨oc,od,.func (PySem.W.fnOf x x (eB st) (cu st) (au st) .none kV dc pm an cd ct),sl⟩/\PySem.W.codeIn K cd x=true/\PySem.W.keepIn K (.ref f)=true
theorem FL.mk{K:PySem.W.Frag}{x:Str}{st:Stmt}{f:Addr}{oc:Value}{od:Option Addr}{kV dc pm:Value}{an:Option Addr}{cd ct:Value}{sl:Array (Option Value)}(a:PySem.W.nsIn K mainGlobals x=some (some (.ref f)))
  (b:K.lookup f=some ⟨oc,od,.func (PySem.W.fnOf x x (eB st) (cu st) (au st) .none kV dc pm an cd ct),sl⟩) (c:PySem.W.codeIn K cd x=true) (d:PySem.W.keepIn K (.ref f)=true):FL K x st:=⟨f,oc,od,kV,dc,pm,an,cd,ct,sl,a,b,c,d⟩
theorem EJ{α:Type}:∀{us:List α},us.length=1->∃a,us=[a]
 |[a],_=>⟨a,rfl⟩
theorem EK{α:Type}:∀{us:List α},us.length=2->∃a b,us=[a,b]
 |[a,b],_=>⟨a,b,rfl⟩
theorem EL{α:Type}:∀{us:List α},us.length=3->∃a b c,us=[a,b,c]
 |[a,b,c],_=>⟨a,b,c,rfl⟩
theorem EM{α:Type}:∀{us:List α},us.length=4->∃a b c d,us=[a,b,c,d]
 |[a,b,c,d],_=>⟨a,b,c,d,rfl⟩
theorem EN{α:Type}:∀{us:List α},us.length=5->∃a b c d e,us=[a,b,c,d,e]
 |[a,b,c,d,e],_=>⟨a,b,c,d,e,rfl⟩
theorem FL.has {K : PySem.W.Frag} {x : Str} {st : Stmt} {h : Heap} {mg : Str -> Option Value} {k : Nat} {ps : List Str} {sp : DSp} (e : FL K x st) (P : Program) (w : World) (base : Heap) (X : K.In h) (G : h.Ns mainGlobals mg)
  (ok : ∀ {f : Addr} {fd : FuncData}, aB K x x st f fd -> aS P w K mg base (CX1 P w) k f fd ps (aT K sp))
  (hb : ∀ (kV dc pm : Value) (an : Option Addr) (cd ct : Value) (us : List Value), us.length = ps.length -> bindArgs (PySem.W.fnOf x x (eB st) (cu st) (au st) .none kV dc pm an cd ct) ⟨us, []⟩ = pure (ps.zip us) := by
   intro _ _ _ _ _ _ us hl
   first
    | (obtain ⟨a, e⟩ := EJ hl; subst e; rfl)
    | (obtain ⟨a, b, e⟩ := EK hl; subst e; rfl)
    | (obtain ⟨a, b, c, e⟩ := EL hl; subst e; rfl)
    | (obtain ⟨a, b, c, d, e⟩ := EM hl; subst e; rfl)
    | (obtain ⟨a, b, c, d, e', e⟩ := EN hl; subst e; rfl)) : Has P w K mg base x k ps sp := by
 obtain ⟨f, oc, od, kV, dc, pm, an, cd, ct, sl, a, b, c, d⟩ := e
 exact ⟨f, _, ok (uC b c d), PySem.W.mg_of X G a, d, .all fun us hl => hb kV dc pm an cd ct us hl⟩
section
variable{X:Cx}
def ze(i:Nat)(t:DB):DB:=fun Q ρ=>t Q (ρ.set i none)
theorem wZ{ss:List Stmt}{t:DB}(i:Nat)(h:PBd X ss t):PBd X ss (ze i t):=fun pins s σ H W ρ Q I r s0 ht=>h pins s σ H W _ Q I (r.forget i) s0 ht
end
end PD
namespace PD
open PySem PySem.Spec PyProof.Rows L2
section
variable{X:Cx}{pos:Pos}
end
end PD
namespace HT
open PySem PyProof.Rows
section
open PySem.SeqAt
open PySem.AutoSeq1 (wpAny_loadPart')
open PySem.MeetsSeq PySem.MeetsSeq2 PySem.MeetsSeq3
end
section
variable{prog:Program}{w:World}{A:Around}{E:Value->Shared->Prop}{s:Shared}
end
end HT
namespace PD
open PySem PySem.Spec PyProof.Rows L2
section
variable{X:Cx}
end
end PD
namespace PD
open PySem PySem.Spec PyProof.Rows L2
section
variable{prog:Program}{w:World}{A:Around}{E:Value->Shared->Prop}{s:Shared}{p:Addr}{us:List Value}{Q:Value->Shared->Prop}
end
section
variable{X:Cx}{pos:Pos}
end
end PD
namespace PD
open PySem PySem.Spec PyProof.Rows L2
section
variable{K:PySem.W.Frag}{P:Bool->Addr->Prop}{H:Hp}
end
section
variable{X:Cx}{k:Nat}{ps:List Str}{sp:DSp}{x m f:Str}{p pos apos:Pos}{e o:Expr}{es:List Expr}{te to:DE}{t:DA}{C:Addr}
end
end PD
namespace PD
open PySem PySem.Spec PyProof.Rows L2
section
variable{X:Cx}{k:Nat}{ps:List Str}{sp:DSp}{x m f:Str}{p pos apos:Pos}{e o:Expr}{es:List Expr}{te to:DE}{t:DA}{C:Addr}
end
end PD
namespace PD
open PySem PySem.Spec PyProof.Rows L2
section
variable{K:PySem.W.Frag}{C:Addr}{m qual:Str}{st:Stmt}{mg:Str->Option Value}{k:Nat}{ps:List Str}{sp:DSp}
end
end PD
namespace PD
open PySem PySem.Spec PyProof.Rows L2 PX
abbrev DM:=Ro->(LI->Prop)->Prop
def EA(K:PySem.W.Frag)(P:Bool->Addr->Prop)(H H':Hp):LI->V->Prop
 |.own ds,v=>∃a vs,v=.ref a/\H a=none/\K.lookup a=none/\H' a=some (.lst vs)/\af K (fun t b=>P t b∨b=a) H' ds vs
 |.val d,v=>Den K P H' d v
def PEM(X:Cx)(e:Expr)(t:DM):Prop :=
 ∀ (pins:List (Addr×Obj)) (s:Shared) (σ:St) (H:Hp) (W:Own) (ρ:Ro) (Q:LI->Prop),Inv X pins σ H s->Rel X W H σ ρ->t ρ Q →
  wpAny (model X.prog X.w) X.A (eval e X.env) (fun u s'=>∃v H' li,Inv X pins σ H' s'/\RelV v u/\ar H H'/\EA X.K W.bad H H' li v/\Q li) X.xe s
structure fZ(K:PySem.W.Frag)(H:Hp)(D:Addr)(n:Nat)(bs:Nat->Option Addr):Prop where
 ok:∀k b,bs k=some b->k<n/\H b=none/\K.lookup b=none/\b≠D
 inj:∀k l b,bs k=some b->bs l=some b->k=l
theorem fZ.nil{K:PySem.W.Frag}{H:Hp}{D:Addr}{n:Nat}:fZ K H D n fun _=>none:=⟨fun _ _ h=>(by cases h),fun _ _ _ h=>(by cases h)⟩
theorem fZ.up{K:PySem.W.Frag}{H:Hp}{D:Addr}{n m:Nat}{bs:Nat->Option Addr}(h:fZ K H D n bs)(l:n<=m):fZ K H D m bs:=⟨fun k b q=>let ⟨a,r⟩:=h.ok k b q;⟨zAW a l,r⟩,h.inj⟩
theorem fZ.put{K:PySem.W.Frag}{H:Hp}{D a:Addr}{out:List LI}{x:LI}{bs:Nat->Option Addr}(h:fZ K H D out.length bs)(n:H a=none)(k:K.lookup a=none)(nd:a≠D)(new:∀k,bs k=some a->False) :
  fZ K H D (out++[x]).length fun k=>if k=out.length then some a else bs k:=⟨fun l b q=>by
  rw[zAO,zCF]
  by_cases e:l=out.length
  ·rw[if_pos e]at q;cases q;exact⟨by omega,n,k,nd⟩
  ·rw[if_neg e]at q
   obtain⟨a1,a2⟩:=h.ok l b q
   exact⟨by omega,a2⟩,fun l m b q1 q2=>by
  by_cases e1:l=out.length
  ·by_cases e2:m=out.length
   ·rw[e1,e2]
   ·rw[if_pos e1]at q1;rw[if_neg e2]at q2;cases q1;exact(new m q2).elim
  ·by_cases e2:m=out.length
   ·rw[if_neg e1]at q1;rw[if_pos e2]at q2;cases q2;exact(new l q1).elim
   ·rw[if_neg e1]at q1;rw[if_neg e2]at q2;exact h.inj l m b q1 q2⟩
section
variable{K:PySem.W.Frag}{P:Bool->Addr->Prop}{H:Hp}{B:Nat->Option Addr}
theorem az.snoc_val{d:D}{v:V}(h1:Den K P H d v):∀{k:Nat} {xs:List LI} {vs:List V},az K P H B k xs vs->az K P H B k (xs++[.val d]) (vs++[v])
 |k,[],_,h=>by simp only[az]at h;subst h;simp only[zAv,az];exact⟨v,[],rfl,h1,rfl⟩
 |k,.own ds::r,_,h=>by
  simp only[az]at h
  obtain⟨b,us,u,rfl,q1,q2,q3,q4⟩:=h
  simp only[zAe,az]
  exact⟨b,us,_,rfl,q1,q2,q3,az.snoc_val h1 q4⟩
 |k,.val e::r,_,h=>by
  simp only[az]at h
  obtain⟨w,u,rfl,q1,q2⟩:=h
  simp only[zAe,az]
  exact⟨w,_,rfl,q1,az.snoc_val h1 q2⟩
theorem az.snoc_own{ds:List D}{a:Addr}{ws:List V}:∀{k:Nat} {xs:List LI} {vs:List V},az K P H B k xs vs->B (k+xs.length)=some a->H a=some (.lst ws)->af K P H ds ws->az K P H B k (xs++[.own ds]) (vs++[.ref a])
 |k,[],_,h,hb,ha,hd=>by simp only[az]at h;subst h;simp only[zAv,az];exact⟨a,ws,[],rfl,by simpa using hb,ha,hd,rfl⟩
 |k,.own es::r,_,h,hb,ha,hd=>by
  simp only[az]at h
  obtain⟨b,us,u,rfl,q1,q2,q3,q4⟩:=h
  simp only[zAe,az]
  exact⟨b,us,_,rfl,q1,q2,q3,az.snoc_own q4 (by rw[<- hb];congr 1;simp;omega) ha hd⟩
 |k,.val e::r,_,h,hb,ha,hd=>by
  simp only[az]at h
  obtain⟨w,u,rfl,q1,q2⟩:=h
  simp only[zAe,az]
  exact⟨w,_,rfl,q1,az.snoc_own q2 (by rw[<- hb];congr 1;simp;omega) ha hd⟩
end
section
variable{X:Cx}
theorem Rel.ban{W:Own}{H H':Hp}{σ:St}{ρ:Ro}{p:Addr}{o:HO}(r:Rel X W H σ ρ)(sm:ar H H')(hp:H p=none)(hk:X.K.lookup p=none)(h':H' p=some o) :
  Rel X ⟨fun b=>W.B b∨b=p,W.O,W.S⟩ H' σ ρ/\∀ds vs,af X.K W.bad H ds vs->af X.K (Own.bad ⟨fun b=>W.B b∨b=p,W.O,W.S⟩) H' ds vs:=by
 have bad':∀t a,Own.bad ⟨fun b=>W.B b∨b=p,W.O,W.S⟩ t a->W.bad t a∨a=p:=fun t a z=>by
  rcases z with(z|z)|z|z
  ·exact .inl (.inl z)
  ·exact .inr z
  ·exact .inl (.inr (.inl z))
  ·exact .inl (.inr (.inr z))
 have nb:∀{t:Bool} {a:Addr} {ws:List V},SqG X.K H t a ws->a≠p:=fun {t a ws} q z=>by
  subst z
  rcases q.1 with(q|⟨o,q⟩)|⟨o,its,n,q,_⟩
  ·rw[hp]at q;cases q
  ·rw[hp]at q;cases q
  ·rw[hk]at q;cases q
 have up:∀(d:D) (v:V),Den X.K W.bad H d v->Den X.K (Own.bad ⟨fun b=>W.B b∨b=p,W.O,W.S⟩) H' d v:=Den.map (fun _ _ q=>SqT.same sm q) (fun t a ws n q=>⟨fun z=>(bad' t a z).elim n (nb q),q.same sm⟩) (fun a _ n q=>sm.kp a _ q n.nt)
 have ups:∀(ds:List D) (vs':List V),af X.K W.bad H ds vs'->af X.K (Own.bad ⟨fun b=>W.B b∨b=p,W.O,W.S⟩) H' ds vs':=af.map (fun _ _ q=>SqT.same sm q) (fun t a ws n q=>⟨fun z=>(bad' t a z).elim n (nb q),q.same sm⟩) (fun a _ n q=>sm.kp a _ q n.nt)
 refine⟨⟨fun j d h=>?_,fun j x h=>?_,r.inj,fun j a h1=>?_,r.ke,fun a h=>?_,fun a h=>let ⟨_,q⟩:=r.st a h;sm.ex q,r.ent.trans sm,r.tab.same sm⟩,ups⟩
 ·obtain⟨w,h1,h2⟩:=r.val j d h
  exact⟨w,h1,up d w h2⟩
 ·obtain⟨a,ws,h1,h2,h3,h4⟩:=r.own j x h
  exact⟨a,ws,h1,h2,sm.kp _ _ h3 h4.mut.nt,h4.map ups fun l b q=>⟨q,fun _ z=>sm _ _ z⟩⟩
 ·obtain⟨a1,⟨n1,n2⟩,ws,a3,a4⟩:=r.kn j a h1
  exact⟨a1,⟨fun z=>z.elim n1 fun e=>(by subst e;rw[hp]at a3;cases a3),n2⟩,ws,sm.kp _ _ a3 a4.nt,a4⟩
 ·rcases h with h|h
  ·obtain⟨_,q⟩:=r.bt a h;exact sm.ex q
  ·exact⟨o,h ▸ h'⟩
end
section
variable{X:Cx}{pins:List (Addr×Obj)}{σ:St}{H:Hp}{s:Shared}{sc:Scope}{ns:List Str}{js:List Nat}{xs:List Str}{fp:List Addr}
theorem tY {elt iter tg : Expr} {ifs : List Expr} {pos : Pos} {g : DG} {te : DM} {tc : DT} {W : Own} {ρ : Ro} {J : It} {it : Addr} {tn : Nat -> Heap -> Prop} {ds : List D} {E : Value -> Shared -> Prop} {RR : Value -> Addr -> Result -> Shared -> Prop} (hc : X.calm = true) (S : CSc X.env.scope sc xs ns)
  (hj : js.length = ns.length /\ ∀ (i : Nat) (j : Nat) (n : Str), js[i]? = some j -> ns[i]? = some n -> X.N[j]? = some n)
  {Ed : Value -> Prop} (he : ∀ (C : Addr) (s₂ : Shared) (H₂ : Hp) (fp : List Addr) (XE : Value -> Shared -> Prop), cU (aN X sc ns xs C s₂ H₂ fp XE) Ed -> PEM (aN X sc ns xs C s₂ H₂ fp XE) elt te) (ht : ∀ (C : Addr) (s₂ : Shared) (H₂ : Hp) (fp : List Addr) (XE : Value -> Shared -> Prop), cU (aN X sc ns xs C s₂ H₂ fp XE) Ed -> TsD (aN X sc ns xs C s₂ H₂ fp XE) ifs tc)
  (hx : ∀ D C : Addr, cU (aN X sc ns xs C s H fp (bL X sc ns RR D C)) Ed) (I : Inv X pins σ H s) (r : Rel X W H σ ρ) (hg : ∀ (C : Addr) (s₂ : Shared) (H₂ : Hp) (fp : List Addr) (XE : Value -> Shared -> Prop), PGD (aN X sc ns xs C s₂ H₂ fp XE) tg g) (T : Turn X.prog X.w X.K tg J fp it tn) (st : tn 0 s.heap) (hfp : ∀ b ∈ fp, dI X pins H b) (yd : YD X.K W H J ds) (hz : ds.length <= sizeLine)
  (Pv : Nat -> List LI -> Prop) (p0 : Pv 0 []) (step : ∀ j d out ρ1, ds[j]? = some d -> Pv j out -> jw xs.length (js.map (bg ρ)) ρ1 -> g d ρ1 fun ρ2 => jw xs.length (js.map (bg ρ)) ρ2 /\ tc ρ2 fun b => if b = true then te ρ2 (fun e => Pv (j + 1) (out ++ [e])) else Pv (j + 1) out)
  (hRR : ∀ (D C : Addr) (s' : Shared) (H' : Hp) (m' : Str -> Option Value) (out : List LI) (bs : Nat -> Option Addr), Inv X pins σ H' s' -> ar H H' -> s'.heap.Ns C m' -> H' C = none -> C ≠ X.env.locals -> X.s₀.heap.objs.size <= C -> (∀ y c, X.env.cells.lookup y = some c -> c ≠ C) -> (∀ p ∈ X.pn ++ pins, p.1 ≠ C) →
   (H D = none /\ X.K.lookup D = none /\ ∃ vs, H' D = some (.lst vs) /\ fZ X.K H D out.length bs /\ (∀ k b, bs k = some b -> ∃ us, H' b = some (.lst us)) /\ az X.K (fun t b => W.bad t b ∨ b = D ∨ ∃ k, bs k = some b) H' bs 0 out vs) -> Pv ds.length out -> RR (.ref D) C (.ok .next) s') :
  wpAny (model X.prog X.w) X.A (newList []) (fun acc s₃ => wpAny (model X.prog X.w) X.A (newFunctionEnv sc X.env.globals (cV X.env ns) [] X.env.qual none .none (some X.env)) (fun cenv s₄ =>
   codeAny (model X.prog X.w) X.A (.compStart (.ListComp elt [⟨tg, iter, ifs, 0⟩] sc pos) 0 (.ref it) acc { cenv with scope := relabel sc X.env }) (RR acc cenv.locals) s₄) E s₃) E s := by
 refine wpAny_newObj_type (wpAny_newFunctionEnv S.nocell (by intro y hy; simp at hy) (fun h₁ hns₁ hsb₁ => ?_) S.kind)
 dsimp only at hns₁ hsb₁ ⊢
 generalize hH2 : s.heap.push { cls := .type "list", dict := none, data := .seq ([] : List Value).toArray } = HP at hns₁ hsb₁ ⊢
 have hC : HP.objs.size = s.heap.objs.size + 1 := by rw [<- hH2, zB6]
 have hDC : s.heap.objs.size ≠ HP.objs.size := by rw [hC]; exact zAr (zAx _)
 have hCle : s.heap.objs.size <= HP.objs.size := by rw [hC]; exact Nat.le_succ _
 have below : ∀ b, b < s.heap.objs.size -> b ≠ HP.objs.size := fun b hb => by rw [hC]; exact zAr (zBm hb)
 have old : ∀ b o, s.heap.get? b = some o -> h₁.get? b = some o := fun b o e => hsb₁.extBut b o (below b (zAJ e)) (zAF _ (hH2 ▸ zAF _ e))
 have hacc : h₁.get? s.heap.objs.size = some { cls := .type "list", data := .seq ([] : List Value).toArray } := hsb₁.extBut _ _ hDC (zAF _ (hH2 ▸ zAU _ rfl))
 generalize eD : s.heap.objs.size = D at hDC hacc
 generalize eC : HP.objs.size = C at *
 have hDf : H D = none := by rw [<- eD]; exact I.hok.fresh (zAM _)
 have hKD : X.K.lookup D = none := by rw [<- eD]; exact Inv.kfresh I
 have hCf : H C = none := I.hok.fresh hCle
 have hfo : ∀ b ∈ fp, ∃ o, s.heap.get? b = some o := fun b hb => let ⟨o, e, _⟩ := T.obj 0 s.heap st b hb; ⟨o, e⟩
 have leD : s.heap.objs.size <= D := Nat.le_of_eq eD
 have okk : HOk X.prog X.w (L2.upd H D (.lst [])) h₁ := I.hok.laid old leD ⟨zAk _, [], 0, .nil, hacc⟩
 have upCD : ∀ o, L2.upd H D o C = none := fun o => by rw [ay (Ne.symm hDC)]; exact hCf
 have I1 : Inv (aN X sc ns xs C s H fp (bL X sc ns RR D C)) [] (List.replicate xs.length none ++ js.map (fb σ)) (L2.upd H D (.lst [])) { s with heap := h₁, toks := s.toks + ([] : List (Str × Value)).length } :=
  Inv.comp I S hj hfp hfo hCle rfl I.bare old hns₁ (upCD _) (ar.upd hDf) (fun b o e n => by rw [ay (fun z => absurd (zAJ e) (by rw [z]; exact zB2.mpr leD))]; exact n) okk
 have nl : ∀ {a : Addr} {ws : List V}, SqL X.K H a ws -> a ≠ D := fun {a ws} q z => by
  subst z
  rcases q with (q | ⟨o, q⟩) | ⟨o, its, n, q, _⟩
  ·rw [hDf] at q; cases q
  ·rw [hDf] at q; cases q
  ·rw [hKD] at q; cases q
 let W' : Own := ⟨fun a => W.bad false a ∨ a = D, fun _ => none, W.S⟩
 have bad' : ∀ t a, W'.bad t a ↔ (W.bad t a ∨ a = D) := fun t a => ⟨fun z => by
  rcases z with (z | z) | ⟨_, q⟩ | ⟨z1, z2⟩
  ·exact .inl (Own.bad_up z)
  ·exact .inr z
  ·cases q
  ·exact .inl (.inr (.inr ⟨z1, z2⟩)), fun z => by
  rcases z with z | z
  ·rcases z with z | z | z
   ·exact .inl (.inl (.inl z))
   ·exact .inl (.inl (.inr (.inl z)))
   ·exact .inr (.inr z)
  ·exact .inl (.inr z)⟩
 have hT : ∀ {H' : Hp}, ar H H' -> ∀ a vs, SqT X.K H a vs -> SqT X.K H' a vs := fun sm a vs q => SqT.same sm q
 have hL : ∀ {H' : Hp}, ar H H' -> ∀ t a vs, ¬ W.bad t a -> SqG X.K H t a vs -> ¬ W'.bad t a /\ SqG X.K H' t a vs := fun sm t a vs n q => ⟨fun z => ((bad' t a).mp z).elim n (nl q.1), q.same sm⟩
 have relC : Rel (aN X sc ns xs C s H fp (bL X sc ns RR D C)) W' (L2.upd H D (.lst [])) (List.replicate xs.length none ++ js.map (fb σ)) (List.replicate xs.length none ++ js.map (bg ρ)) := by
  have sm : ar H (L2.upd H D (.lst [])) := ar.upd hDf
  have at_ : ∀ {i : Nat} {z : Sl}, (List.replicate xs.length none ++ js.map (bg ρ))[i]? = some (some z) -> ¬ i < xs.length /\ (js.map (bg ρ))[i - xs.length]? = some (some z) := fun {i z} h => by
   by_cases hi : i < xs.length
   ·rw [zAq (by simpa using hi), zBW, if_pos hi] at h
    cases h
   ·rw [zAf (by simpa using hi)] at h
    exact ⟨hi, by simpa using h⟩
  refine ⟨fun i d h => ?_, fun i x h => ?_, fun i j a h _ => (by cases h), fun i a h => (by cases h), fun i a h => (by cases h), fun a h => ?_, fun a h => ?_, sm, r.tab.same sm⟩
  ·obtain ⟨hi, h'⟩ := at_ h
   rw [zAH] at h'
   cases e : js[i - xs.length]? with
   | none => rw [e] at h'; cases h'
   | some j =>
    rw [e] at h'
    have h4 : bg ρ j = some (.val d) := zAi h'
    have h5 : ρ[j]? = some (some (.val d)) := by
     unfold bg at h4
     split at h4
     ·rename_i u q
      cases h4
      exact q
     ·cases h4
    obtain ⟨v, e1, e2⟩ := r.val j d h5
    refine ⟨v, ?_, Den.map (hT sm) (hL sm) (fun a _ n q => sm.kp a _ q n.nt) d v e2⟩
    rw [zAf (by simpa using hi)]
    show (js.map (fb σ))[i - (List.replicate xs.length (none : Option V)).length]? = some (some v)
    rw [List.length_replicate, zAH, e]
    show some (fb σ j) = some (some v)
    unfold fb
    rw [e1]
  ·obtain ⟨hi, h'⟩ := at_ h
   rw [zAH] at h'
   cases e : js[i - xs.length]? with
   | none => rw [e] at h'; cases h'
   | some j =>
    rw [e] at h'
    have h4 : bg ρ j = some (.ob x) := zAi h'
    unfold bg at h4
    split at h4 <;> cases h4
  ·rcases h with h | h
   ·obtain ⟨o, q⟩ := r.tracked false a h
    exact sm.ex q
   ·rw [h]; exact ⟨_, aG⟩
  ·obtain ⟨o, q⟩ := r.st a h
   exact sm.ex q
 have statC : ∀ {H' : Hp}, (∀ b ∈ fp, H' b = none) -> ∀ b ∈ fp, dI (aN X sc ns xs C s H fp (bL X sc ns RR D C)) [] H' b := fun hn b hb => by
  obtain ⟨f0, f1, f2, f3, f4, f5⟩ := hfp b hb
  obtain ⟨o, ho⟩ := hfo b hb
  refine ⟨hn b hb, fun z => ?_, fun z => ?_, .inl hb, fun y c e z => f4 y c (iX e) z, fun p hp => absurd (show p ∈ ([] : List (Addr × Obj)) from hp) (by simp)⟩
  ·have z' : b = C := z
   have hlt := zAJ ho
   rw [z'] at hlt
   exact absurd (zAW hlt hCle) (zBG _)
  ·rcases zAC.mp (I.stkSub b z) with e | e
   ·exact f1 e
   ·exact f2 e
 have hch : ∀ b ∈ fp, (b ∈ X.ex ∨ X.s₀.heap.objs.size <= b) /\ b ≠ X.env.locals /\ (∀ x c, X.env.cells.lookup x = some c -> c ≠ b) /\ ∀ p ∈ X.pn ++ pins, p.1 ≠ b := fun b hb => by
  obtain ⟨f0, f1, f2, f3, f4, f5⟩ := hfp b hb
  exact ⟨f3, f1, f4, f5⟩
 have BD0 : W'.B D := .inr rfl
 have loop : ∀ s₃ : Shared, s₃ = { s with heap := h₁, toks := s.toks + ([] : List (Str × Value)).length } →
   codeAny (model X.prog X.w) X.A (.compLoop (.ListComp elt [⟨tg, iter, ifs, 0⟩] sc pos) 0 (.ref it) (.ref D) (compEnvC sc (cV X.env ns) C X.env)) (RR (.ref D) C) s₃ := by
  rintro s₃ rfl
  refine p6 (fun n s' => ∃ (i : Nat) (W2 : Own) (σ2 : St) (ρ2 : Ro) (H' : Hp) (out : List LI) (vs : List V) (bs : Nat -> Option Addr), n = ds.length - i /\ i <= ds.length /\ Inv (aN X sc ns xs C s H fp (bL X sc ns RR D C)) [] σ2 H' s' /\ tn i s'.heap /\ (∀ b ∈ fp, H' b = none) ∧
   H' D = some (.lst vs) /\ (W2.B = (fun a => W'.B a ∨ ∃ k, bs k = some a) /\ W2.S = W'.S) /\ fZ X.K H D out.length bs /\ (∀ k b, bs k = some b -> ∃ us, H' b = some (.lst us)) /\ az X.K W2.bad H' bs 0 out vs /\ ar H H' /\ Rel (aN X sc ns xs C s H fp (bL X sc ns RR D C)) W2 H' σ2 ρ2 /\ jw xs.length (js.map (bg ρ)) ρ2 /\ Pv i out /\ out.length <= i) ?_ ds.length
   ⟨0, W', _, _, _, [], [], fun _ => none, by simp, zAk _, I1, T.keep 0 s.heap h₁ st (fun b hb o e => old b o e), fun b hb => ?_, aG, ⟨by funext a; simp, rfl⟩, fZ.nil, (fun _ _ h => by cases h), by simp only [az], ar.upd hDf, relC, ⟨_, by simp, rfl⟩, p0, zAM _⟩
  rotate_left
  ·obtain ⟨o, ho⟩ := hfo b hb
   rw [ay (fun z => absurd (zAJ ho) (by rw [z]; exact zB2.mpr leD))]
   exact (hfp b hb).1
  rintro n s3 ⟨i, W2, σ2, ρ2, H3, out, vs, bs, en, hle, I3, st3, fr3, hD3, hW2, hbs, hls, hds3, sm3, rl3, cap3, p3, ol⟩
  have nb2 : ∀ {W3 : Own} {H' : Hp} {σ3 : St} {ρ3 : Ro}, (W3.B = (fun a => W'.B a ∨ ∃ k, bs k = some a) /\ W3.S = W'.S) -> Rel (aN X sc ns xs C s H fp (bL X sc ns RR D C)) W3 H' σ3 ρ3 -> ar H H' -> ∀ t a vs, ¬ W.bad t a -> SqG X.K H t a vs -> ¬ W3.bad t a /\ SqG X.K H' t a vs := fun {W3 H' σ3 ρ3} hw rl sm t a vs n q => by
   refine ⟨fun z => ?_, q.same sm⟩
   rcases z with z | ⟨k, z⟩ | ⟨z1, z2⟩
   ·rw [hw.1] at z
    rcases z with z | ⟨k, z⟩
    ·exact (hL sm t a vs n q).1 (.inl z)
    ·obtain ⟨_, h0, kk, _⟩ := hbs.ok k a z
     rcases q.1 with (q1 | ⟨o, q1⟩) | ⟨o, its, m, q1, _⟩
     ·rw [h0] at q1; cases q1
     ·rw [h0] at q1; cases q1
     ·rw [kk] at q1; cases q1
   ·have h0 : H a = none := rl.ke k a z
    rcases q.1 with (q1 | ⟨o, q1⟩) | ⟨o, its, m, q1, _⟩
    ·rw [h0] at q1; cases q1
    ·rw [h0] at q1; cases q1
    ·have kk : X.K.lookup a = none := (rl.kn k a z).1
     rw [kk] at q1; cases q1
   ·rw [hw.2] at z2
    exact (hL sm t a vs n q).1 (.inr (.inr ⟨z1, z2⟩))
  obtain ⟨yg, yy, ys⟩ := yd W2.bad H3 (hT sm3) (nb2 hW2 rl3 sm3) (fun a _ n q => sm3.kp a _ q n.nt) i
  by_cases hlt : i < ds.length
  ·refine thn (T.item (aN X sc ns xs C s H fp (bL X sc ns RR D C)) rfl rfl rfl hc i [] s3 _ H3 _ I3 (statC fr3) st3 (yg hlt)) fun rr s4 ⟨u, hr, h4⟩ => ?_
   subst hr
   refine thn h4 fun _ s5 ⟨x5, H5, I5, r5, y5, st5, fr5⟩ => ?_
   obtain ⟨e5, d, hd, hden⟩ := yy x5 H5 y5 hlt
   have I5' := I5.pinned (statC fr5) (T.obj _ _ st5)
   have rl5 := rl3.same e5
   have sm5 : ar H H5 := sm3.trans e5
   refine wpAny_mono (hg C s H fp _ _ s5 σ2 H5 W2 ρ2 d x5 u _ I5' rl5 r5 hden (step i d out ρ2 hd p3 cap3)) (fun _ s6 ⟨W6, σ6, H6, ρ6, I6, f6, rl6, cap6, q6⟩ => ?_) (fun _ _ z => z)
   have hW6 : W6.B = (fun a => W'.B a ∨ ∃ k, bs k = some a) /\ W6.S = W'.S := ⟨f6.B.trans hW2.1, f6.S.trans hW2.2⟩
   have sm6 : ar H H6 := ⟨fun b o e n => f6.kp b o (fun k z => by have h0 : H b = none := rl5.ke k b z; rw [e] at h0; cases h0) (sm5.kp b o e n) n, (fun b ps e => by obtain ⟨m1, e1⟩ := sm5.tb b ps e; obtain ⟨m2, e2⟩ := f6.tb b _ e1; exact ⟨m1 ++ m2, by rw [e2, zCA]⟩), fun h => f6.ok (sm5.ok h)⟩
   have BD : W'.B D := .inr rfl
   have hD6 : H6 D = some (.lst vs) := f6.keep D _ (fun k z => (rl5.kn k D z).2.1.1 (by rw [hW2.1]; exact .inl BD)) (e5 _ _ hD3)
   have hds5 : az X.K W2.bad H5 bs 0 out vs := hds3.map (fun _ _ z => z.same e5) fun _ _ q => ⟨q, fun _ z => e5 _ _ z⟩
   have hls6 : ∀ k b, bs k = some b -> ∃ us, H6 b = some (.lst us) := fun k b q => let ⟨us, z⟩ := hls k b q; ⟨us, f6.keep b _ (fun l y => (rl5.kn l b y).2.1.1 (by rw [hW2.1]; exact .inr ⟨k, q⟩)) (e5 _ _ z)⟩
   have hds6 : az X.K W6.bad H6 bs 0 out vs := hds5.map (fun _ _ z => af.fwd rl5 rl6 f6 z) fun k b q => ⟨q, fun us z => f6.keep b _ (fun l y => (rl5.kn l b y).2.1.1 (by rw [hW2.1]; exact .inr ⟨k, q⟩)) z⟩
   have keepT : ∀ {σ7 : St} {H7 : Hp} {s7 : Shared}, Inv (aN X sc ns xs C s H fp (bL X sc ns RR D C)) ([] ++ lx fp s5.heap) σ7 H7 s7 -> tn (i + 1) s7.heap /\ ∀ b ∈ fp, H7 b = none := fun {σ7 H7 s7} I7 => by
    refine ⟨T.keep _ _ _ st5 fun b hb o e => (I7.pin (b, o) (zAR _ (zAR _ (eG hb e)))).1, fun b hb => ?_⟩
    obtain ⟨o, e, _⟩ := T.obj _ _ st5 b hb
    exact (I7.pin (b, o) (zAR _ (zAR _ (eG hb e)))).2.1
   refine wpAny_mono (ht C s H fp _ (hx D C) _ s6 _ H6 W6 _ _ I6 rl6 q6) (fun b s7 ⟨H7, I7, e7, q7⟩ => ?_) (fun _ _ z => z)
   cases b with
   | false =>
    rw [if_neg zAh] at q7
    rw [if_neg zAh]
    obtain ⟨t7, f7⟩ := keepT I7
    exact ⟨ds.length - (i + 1), by omega, i + 1, W6, σ6, ρ6, H7, out, vs, bs, rfl, hlt, I7.unpinned, t7, f7, e7 _ _ hD6, hW6, hbs, (fun k b q => let ⟨us, z⟩ := hls6 k b q; ⟨us, e7 _ _ z⟩), hds6.map (fun _ _ z => z.same e7) (fun _ _ q => ⟨q, fun _ z => e7 _ _ z⟩), sm6.trans e7, rl6.same e7, cap6, q7, by omega⟩
   | true =>
    rw [if_pos rfl] at q7
    rw [if_pos rfl]
    refine wpAny_mono (he C s H fp _ (hx D C) _ s7 _ H7 W6 _ _ I7 (rl6.same e7) q7) (fun u8 s8 ⟨v8, H8, e8, I8, r8, sm8, hd8, q8⟩ => ?_) (fun _ _ z => z)
    have sm78 := e7.trans sm8
    have hD8 := sm78 _ _ hD6
    have rl7 := rl6.same e7
    have hds7 : az X.K W6.bad H7 bs 0 out vs := hds6.map (fun _ _ z => z.same e7) fun _ _ q => ⟨q, fun _ z => e7 _ _ z⟩
    have smH : ar H H8 := sm6.trans sm78
    obtain ⟨W8, bs8, hW8, hbs8, hls8, rl8, hds8, hlen8⟩ : ∃ (W8 : Own) (bs8 : Nat -> Option Addr), (W8.B = (fun a => W'.B a ∨ ∃ k, bs8 k = some a) /\ W8.S = W'.S) /\ fZ X.K H D (out ++ [e8]).length bs8 /\ (∀ k b, bs8 k = some b -> ∃ us, H8 b = some (.lst us)) /\ Rel (aN X sc ns xs C s H fp (bL X sc ns RR D C)) W8 H8 σ6 ρ6 /\ az X.K W8.bad H8 bs8 0 (out ++ [e8]) (vs ++ [v8]) /\ vs.length = out.length := by
     have ln := hds7.len
     cases e8 with
     | val d =>
      refine ⟨W6, bs, hW6, hbs.up (by simp), (fun k b q => let ⟨us, z⟩ := hls6 k b q; ⟨us, sm78 _ _ z⟩), rl7.same sm8, ?_, ln⟩
      exact (hds7.map (fun _ _ z => z.same sm8) fun _ _ q => ⟨q, fun _ z => sm8 _ _ z⟩).snoc_val hd8
     | own ds' =>
      obtain ⟨a, ws, rfl, na, ka, ha, hds'⟩ := hd8
      obtain ⟨rb, db⟩ := rl7.ban sm8 na ka ha
      have nH : H a = none := (sm6.trans e7).free na
      have nD : a ≠ D := fun z => by rw [z, e7 _ _ hD6] at na; cases na
      refine ⟨⟨fun b => W6.B b ∨ b = a, W6.O, W6.S⟩, fun k => if k = out.length then some a else bs k, ⟨?_, hW6.2⟩, hbs.put nH ka nD (fun k z => ?_), (fun k b q => ?_), rb, ?_, ln⟩
      ·funext b
       show (W6.B b ∨ b = a) = _
       rw [hW6.1]
       refine propext ⟨fun z => ?_, fun z => ?_⟩
       ·rcases z with (z | ⟨k, z⟩) | z
        ·exact .inl z
        ·exact .inr ⟨k, by show (if k = out.length then some a else bs k) = some b; rw [if_neg (zAr (hbs.ok k b z).1)]; exact z⟩
        ·exact .inr ⟨out.length, by show (if out.length = out.length then some a else bs out.length) = some b; rw [if_pos rfl, z]⟩
       ·rcases z with z | ⟨k, z⟩
        ·exact .inl (.inl z)
        ·have z : (if k = out.length then some a else bs k) = some b := z
         by_cases ek : k = out.length
         ·rw [if_pos ek] at z; cases z; exact .inr rfl
         ·rw [if_neg ek] at z; exact .inl (.inr ⟨k, z⟩)
      ·obtain ⟨o, hu⟩ := rl7.bt a (by rw [hW6.1]; exact .inr ⟨k, z⟩)
       rw [hu] at na; cases na
      ·have q : (if k = out.length then some a else bs k) = some b := q
       by_cases ek : k = out.length
       ·rw [if_pos ek] at q; cases q; exact ⟨_, ha⟩
       ·rw [if_neg ek] at q
        obtain ⟨us, z⟩ := hls6 k b q
        exact ⟨us, sm78 _ _ z⟩
      ·refine az.snoc_own (hds7.map (B' := fun k => if k = out.length then some a else bs k) (fun ds vs z => db ds vs z) fun k b q => ⟨by show (if k = out.length then some a else bs k) = some b; rw [if_neg (zAr (hbs.ok k b q).1)]; exact q, fun _ z => sm8 _ _ z⟩) (by simp) ha (hds'.fewer fun t b z => ?_)
       rcases z with (z | z) | z | z
       ·exact .inl (.inl z)
       ·exact .inr z
       ·exact .inl (.inr (.inl z))
       ·exact .inl (.inr (.inr z))
    have BD8 : W8.B D := by rw [hW8.1]; exact .inl BD
    refine wpAny_mono (fy (X := aN X sc ns xs C s H fp (bL X sc ns RR D C)) _ s8 _ H8 (.ref D) [v8] (.ref D) [u8] (fun _ H' => H' = L2.upd H8 D (.lst (vs ++ [v8]))) I8 rfl (.cons r8 .nil) ⟨D, vs, v8, rfl, rfl, hD8, by rw [hlen8]; omega, rfl⟩) (fun _ s9 ⟨v9, H9, I9, _, eH⟩ => ?_) (fun _ _ z => z)
    subst eH
    obtain ⟨t9, f9⟩ := keepT I9
    obtain ⟨rl9, dn9⟩ := rl8.mutB (vs' := vs ++ [v8]) BD8 hD8 hDf
    exact ⟨ds.length - (i + 1), by omega, i + 1, W8, σ6, ρ6, _, out ++ [e8], vs ++ [v8], bs8, rfl, hlt, I9.unpinned, t9, f9, aG, hW8, hbs8, (fun k b q => let ⟨us, z⟩ := hls8 k b q; ⟨us, by rw [ay (hbs8.ok k b q).2.2.2]; exact z⟩), hds8.map dn9 (fun k b q => ⟨q, fun us z => by rw [ay (hbs8.ok k b q).2.2.2]; exact z⟩), smH.ins hDf hD8 True.intro True.intro, rl9, cap6, q8, by rw [zAO, zCF]; omega⟩
  ·have e : i = ds.length := by omega
   refine thn (T.done (aN X sc ns xs C s H fp (bL X sc ns RR D C)) rfl rfl rfl hc i [] s3 _ H3 _ I3 (statC fr3) st3 (ys (by omega))) fun rr s4 ⟨hr, I4⟩ => ?_
   subst hr
   subst e
   have Io : Inv X pins σ H3 s4 := I.call' I4.os I4.base I4.hok I4.bare hch
   obtain ⟨m, hm, _⟩ := I4.loc
   exact hRR D C s4 H3 m out bs Io sm3 hm I4.free (fun z => absurd I.lt (by rw [<- z]; exact zB2.mpr hCle)) (zAw I.sz hCle) (fun y c e z => by
    obtain ⟨v, q⟩ := I.cell y c e
    exact absurd q.lt (by rw [z]; exact zB2.mpr hCle)) (fun p hp z => absurd (zAJ (I.pin p hp).1) (by rw [z]; exact zB2.mpr hCle))
    ⟨hDf, hKD, _, hD3, hbs, hls, hds3.map (fun _ _ z => z.fewer fun t a z => (by
     rcases z with z | z
     ·rcases (bad' t a).mpr (.inl z) with q | ⟨k, q⟩ | q
      ·exact .inl (by rw [hW2.1]; exact .inl q)
      ·cases q
      ·exact .inr (.inr ⟨q.1, by rw [hW2.2]; exact q.2⟩)
     ·rcases z with z | z
      ·exact .inl (by rw [hW2.1]; exact .inl (z ▸ BD0))
      ·exact .inl (by rw [hW2.1]; exact .inr z))) fun _ _ q => ⟨q, fun _ z => z⟩⟩ p3
 exact codeAny_compStart_list (loop _ rfl) (T.self _ 0 _ _ _ (T.keep 0 s.heap h₁ st (fun b hb o e => old b o e)) (loop _ rfl))
end
section
variable{X:Cx}
def Own.puts(W:Own)(n i:Nat)(D:Addr)(bs:Nat->Option Addr):Own:=⟨W.B,fun j=>if j=i then some D else if j % n=i/\n<=j then bs (j / n - 1)else W.O j,W.S⟩
theorem pT{n i k:Nat}(h:i<n):vix n i k % n=i:=by unfold vix;rw[Nat.mul_add_mod,zAg h]
theorem yA{n i k:Nat}:n<=vix n i k:=by unfold vix;rw[Nat.mul_add];omega
theorem Ca{n i k:Nat}(h:i<n):vix n i k / n - 1=k:=by
 unfold vix
 rw[Nat.mul_add_div (by omega),Nat.div_eq_of_lt h]
 omega
theorem DY{n i j:Nat}(h:j % n=i)(hj:n<=j)(hn:0<n):j=vix n i (j / n - 1):=by
 unfold vix
 have h1:=Nat.div_add_mod j n
 have h2:1<=j / n:=Nat.div_pos hj hn
 rw[show j / n - 1+1=j / n by omega,<- h,h1]
theorem Own.puts_O{W:Own}{n i:Nat}{D:Addr}{bs:Nat->Option Addr}(hi:i<n){j:Nat}{a:Addr}(h:(W.puts n i D bs).O j=some a):(j=i/\a=D)∨(∃k,j=vix n i k/\bs k=some a)∨(j≠i/\(∀k,j≠vix n i k)/\W.O j=some a):=by
 have h1:(if j=i then some D else if j % n=i/\n<=j then bs (j / n - 1)else W.O j)=some a:=h
 by_cases e:j=i
 ·rw[if_pos e]at h1;cases h1;exact .inl ⟨e,rfl⟩
 ·rw[if_neg e]at h1
  by_cases e2:j % n=i/\n<=j
  ·rw[if_pos e2]at h1;exact .inr (.inl ⟨_,DY e2.1 e2.2 (by omega),h1⟩)
  ·rw[if_neg e2]at h1;exact .inr (.inr ⟨e,fun k z=>e2 (by rw[z];exact⟨pT hi,yA⟩),h1⟩)
theorem Own.puts_v{W:Own}{n i:Nat}{D:Addr}{bs:Nat->Option Addr}(hi:i<n)(k:Nat):(W.puts n i D bs).O (vix n i k)=bs k:=by
 show(if vix n i k=i then some D else if vix n i k % n=i/\n<=vix n i k then bs (vix n i k / n - 1)else W.O (vix n i k))=bs k
 rw[if_neg (gY hi),if_pos ⟨pT hi,yA⟩,Ca hi]
theorem Own.puts_n{W:Own}{n i:Nat}{D:Addr}{bs:Nat->Option Addr}{j:Nat}(h1:j≠i)(h2:j % n≠i∨j<n):(W.puts n i D bs).O j=W.O j:=by
 show(if j=i then some D else if j % n=i/\n<=j then bs (j / n - 1)else W.O j)=_
 rw[if_neg h1,if_neg fun z=>h2.elim (fun q=>q z.1) fun q=>by omega]
theorem Rel.puts{W:Own}{H H':Hp}{σ:St}{ρ:Ro}{i:Nat}{D:Addr}{bs:Nat->Option Addr}{out:List LI}{vs:List V}(r:Rel X W H σ ρ)(hi:i<σ.length)(sm:ar H H')(nD:H D=none)(kD:X.K.lookup D=none)(hD:H' D=some (.lst vs))
  (hb:fZ X.K H D out.length bs) (hl:∀k b,bs k=some b->∃us,H' b=some (.lst us)) (hd:az X.K (fun t b=>W.bad t b∨b=D∨∃ k,bs k=some b) H' bs 0 out vs) :
  Rel X (W.puts σ.length i D bs) H' (σ.set i (some (.ref D))) (ρ.set i (some (.ob (.ll out))))/\Fwd W H (W.puts σ.length i D bs) H':=by
 have bad':∀t a,(W.puts σ.length i D bs).bad t a->W.bad t a∨a=D∨∃ k,bs k=some a:=fun t a z=>by
  rcases z with z|⟨j,z⟩| z
  ·exact .inl (.inl z)
  ·rcases Own.puts_O hi z with⟨_,q⟩| ⟨k,_,q⟩| ⟨_,_,q⟩
   ·exact .inr (.inl q)
   ·exact .inr (.inr ⟨k,q⟩)
   ·exact .inl (.inr (.inl ⟨j,q⟩))
  ·exact .inl (.inr (.inr z))
 have new:∀a,(a=D∨∃ k,bs k=some a)->H a=none/\X.K.lookup a=none:=fun a z=>by
  rcases z with z|⟨k,z⟩
  ·subst z;exact⟨nD,kD⟩
  ·exact⟨(hb.ok k a z).2.1,(hb.ok k a z).2.2.1⟩
 have nb:∀{t:Bool} {a:Addr} {ws:List V},SqG X.K H t a ws->¬(a=D∨∃ k,bs k=some a):=fun {t a ws} q z=>by
  obtain⟨n1,n2⟩:=new a z
  rcases q.1 with(q|⟨o,q⟩)|⟨o,its,n,q,_⟩
  ·rw[n1]at q;cases q
  ·rw[n1]at q;cases q
  ·rw[n2]at q;cases q
 have up:∀(d:PD.D) (v:V),Den X.K W.bad H d v->Den X.K (W.puts σ.length i D bs).bad H' d v:=Den.map (fun _ _ q=>SqT.same sm q) (fun t a ws n q=>⟨fun z=>(bad' t a z).elim n (nb q),q.same sm⟩) (fun a _ n q=>sm.kp a _ q n.nt)
 have ups:∀(ds:List PD.D) (vs':List V),af X.K W.bad H ds vs'->af X.K (W.puts σ.length i D bs).bad H' ds vs':=af.map (fun _ _ q=>SqT.same sm q) (fun t a ws n q=>⟨fun z=>(bad' t a z).elim n (nb q),q.same sm⟩) (fun a _ n q=>sm.kp a _ q n.nt)
 have nO:∀j a,W.O j=some a->¬(a=D∨∃ k,bs k=some a):=fun j a q z=>by
  obtain⟨_,_,o,h3,_⟩:=r.kn j a q
  rw[(new a z).1]at h3;cases h3
 refine⟨⟨fun j d h=>?_,fun j x h=>?_,fun j l a h1 h2=>?_,fun j a h1=>?_,fun j a h1=>?_,fun a h=>let ⟨_,q⟩:=r.bt a h;sm.ex q,fun a h=>let ⟨_,q⟩:=r.st a h;sm.ex q,r.ent.trans sm,r.tab.same sm⟩,rfl,rfl,fun b o _ q n=>sm.kp b o q n,fun j a h=>?_,sm.tb,sm.ok⟩
 ·have hji:j≠i:=fun e=>by
   subst e
   by_cases l:j<ρ.length
   ·rw[zAV l]at h;cases h
   ·rw[zAs (by rw[zBK];omega)]at h;cases h
  rw[zAN (Ne.symm hji)]at h
  obtain⟨w,h1,h2⟩:=r.val j d h
  exact⟨w,by rw[zAN (Ne.symm hji)];exact h1,up d w h2⟩
 ·rw[zBK]
  by_cases hji:j=i
  ·subst hji
   by_cases l:j<ρ.length
   ·rw[zAV l]at h
    cases h
    refine⟨D,_,?_,by rw[zAV hi],hD,.ll (hd.map (fun _ _ z=>z.fewer bad') fun k b q=>⟨by rw[<- q];exact Own.puts_v hi k,fun _ z=>z⟩)⟩
    show(if j=j then some D else _)=some D
    rw[if_pos rfl]
   ·rw[zAs (by rw[zBK];omega)]at h;cases h
  ·rw[zAN (Ne.symm hji)]at h
   obtain⟨a,ws,h1,h2,h3,h4⟩:=r.own j x h
   have jl:j<σ.length:=(zAE.mp h2).1
   refine⟨a,ws,(Own.puts_n hji (.inr jl)).trans h1,by rw[zAN (Ne.symm hji)];exact h2,sm.kp _ _ h3 h4.mut.nt,h4.map ups fun l b q=>⟨(Own.puts_n ?_ (.inl (by rw[pT jl];exact hji))).trans q,fun _ z=>sm _ _ z⟩⟩
   exact gY hi
 ·rcases Own.puts_O hi h1 with⟨e1,q1⟩| ⟨k1,e1,q1⟩| ⟨_,_,q1⟩<;>rcases Own.puts_O hi h2 with⟨e2,q2⟩| ⟨k2,e2,q2⟩| ⟨_,_,q2⟩
  ·rw[e1,e2]
  ·exact absurd (q1 ▸ rfl) (q1 ▸ (hb.ok k2 a q2).2.2.2)
  ·exact(nO l a q2 (.inl q1)).elim
  ·exact absurd (q2 ▸ rfl) (q2 ▸ (hb.ok k1 a q1).2.2.2)
  ·rw[e1,e2,hb.inj k1 k2 a q1 q2]
  ·exact(nO l a q2 (.inr ⟨k1,q1⟩)).elim
  ·exact(nO j a q1 (.inl q2)).elim
  ·exact(nO j a q1 (.inr ⟨k2,q2⟩)).elim
  ·exact r.inj j l a q1 q2
 ·have fresh:(a=D∨∃ k,bs k=some a)->X.K.lookup a=none/\(¬W.B a/\¬W.S a):=fun z=>by
   obtain⟨n1,n2⟩:=new a z
   exact⟨n2,fun q=>(by obtain⟨o,y⟩:=r.bt _ q;rw[n1]at y;cases y),fun q=>(by obtain⟨o,y⟩:=r.st _ q;rw[n1]at y;cases y)⟩
  rcases Own.puts_O hi h1 with⟨_,q⟩| ⟨k,_,q⟩| ⟨_,_,q⟩
  ·obtain⟨f1,f2⟩:=fresh (.inl q)
   exact⟨f1,f2,.lst vs,by rw[q];exact hD,True.intro⟩
  ·obtain⟨f1,f2⟩:=fresh (.inr ⟨k,q⟩)
   obtain⟨us,hu⟩:=hl k a q
   exact⟨f1,f2,.lst us,hu,True.intro⟩
  ·obtain⟨a1,a2,ws,a3,a4⟩:=r.kn j a q
   exact⟨a1,a2,ws,sm.kp _ _ a3 a4.nt,a4⟩
 ·rcases Own.puts_O hi h1 with⟨_,q⟩| ⟨k,_,q⟩| ⟨_,_,q⟩
  ·exact r.ent.free (q ▸ nD)
  ·exact r.ent.free (hb.ok k a q).2.1
  ·exact r.ke j a q
 ·rcases Own.puts_O hi h with⟨_,q⟩| ⟨k,_,q⟩| ⟨_,_,q⟩
  ·exact .inr (q ▸ nD)
  ·exact .inr (hb.ok k a q).2.1
  ·exact .inl ⟨j,q⟩
end
section
variable{X:Cx}{k:Nat}{ps:List Str}{sp:DSp}{x:Str}{p pos:Pos}{e:Expr}{es:List Expr}{t:DA}
theorem DQ{ds:List D}{Pv:Nat->List LI->Prop}{te:DM}{cap:Ro}(step:∀j d out,ds[j]?=some d->Pv j out->te (some (.val d)::cap) (fun e=>Pv (j+1) (out++[e]))) :
  ∀ j d out ρ1,ds[j]?=some d->Pv j out->jw 1 cap ρ1->jM 0 d ρ1 fun ρ2=>jw 1 cap ρ2/\kU ρ2 fun b=>if b=true then te ρ2 (fun e=>Pv (j+1) (out++[e]))else Pv (j+1) out:=by
 rintro j d out ρ1 hd hp ⟨r0,hl,rfl⟩
 match r0,hl with
 |[a],_ =>
  refine⟨⟨[some (.val d)],rfl,rfl⟩,?_⟩
  unfold kU
  dsimp only
  rw[if_pos rfl]
  exact step j d out hd hp
end
section
variable{X:Cx}{sc:Scope}{ns:List Str}{js:List Nat}{elt iter:Expr}{px pos:Pos}{te:DM}{wi:DA}{x:Str}
def mP(i:Nat)(wi:DA)(js:List Nat)(te:DM):DS:=fun E ρ=>wi ρ fun ds=>ds.length<=sizeLine/\∃Pv:Nat->List LI->Prop,Pv 0 [] ∧
 (∀j d out,ds[j]?=some d->Pv j out->te (some (.val d)::js.map (bg ρ)) (fun e=>Pv (j+1) (out++[e])))/\∀out,Pv ds.length out->E.nx (ρ.set i (some (.ob (.ll out))))
theorem vT{y:Str}{py spos:Pos}(i:Nat)(hN:X.N.Nodup)(hc:X.calm=true)(S:CSc X.env.scope sc [x] ns)(hj:bG X.N ns js)(hi:PID X (.Name x px) iter wi)
  (he:∀(C:Addr) (s₂:Shared) (H₂:Hp) (fp:List Addr) (XE:Value->Shared->Prop),PEM (aN X sc ns [x] C s₂ H₂ fp XE) elt te) (hy:X.N[i]?=some y:=by rfl) (hly:X.env.scope.names.lookup y=some .local:=by rfl) (hclos:closureFor sc X.env=pure (cV X.env ns):=by rfl) (hs:∀x,foldedSetIterable iter X.env x=pure x:=by intro _;rfl)
  (hsw:swapsWith (.ListComp elt [⟨.Name x px,iter,[],0⟩] sc pos) (some (.Name y py)) spos.line X.env=pure true:=by rfl) :
  PSD X (.Assign [.Name y py] (.ListComp elt [⟨.Name x px,iter,[],0⟩] sc pos) spos) (mP i wi js te):=by
 intro pins s σ H W ρ E I r h
 rw[exec_Assign_Name_used _ _ _ _ hsw]
 refine wpAny_bind (wpAny_standAt (wpAny_bind ?_))
 show wpAny _ X.A (do let _←comprehension (.ListComp elt [⟨.Name x px,iter,[],0⟩] sc pos) sc X.env _ (newList []) false (eval iter X.env) (some (assign (.Name y py) X.env))) _ _ s
 refine wpAny_bind (wpAny_mono (wpAny_comprehension_free (use:=some (assign (.Name y py) X.env)) (Q:=fun _ s'=>SPD X pins W H E .next s') rfl hs hclos S.kind S.names
  (thn (hi pins s σ H W ρ _ I r h) fun v s1 h1=>thn h1 fun itv s2 h2=>?_)) (fun _ s' hq=>wpAny_pure (wpAny_pure hq)) fun _ _ e=>e)
 obtain⟨it,fp,tn,J,H2,ds,e,I2,e2,T,st2,f2,yd,hz,Pv,p0,step,fin⟩:=h2
 subst e
 refine tY (RR:=fun acc C=>compPost (model X.prog X.w) X.A X.xe (some (assign (.Name y py) X.env)) (fun _ s'=>SPD X pins W H E .next s') acc C) hc S hj (Ed:=fun _=>False) (fun C s₂ H₂ fp XE _=>he C s₂ H₂ fp XE) (fun C s₂ H₂ fp XE _=>di) (fun _ _=>cU.no) I2 (r.same e2) (fun C s₂ H₂ fp XE=>kf S) T st2 f2 yd hz Pv p0 (DQ step) ?_
 intro D C s' H' m' out bs I' sm hns hCn hC1 hC2 hC3 hC4 ⟨hn,hk,vs,hD,hb,hl,hds⟩ pv
 obtain⟨rp,fw⟩:=(r.same e2).puts (Inv.ilt I' hy) sm hn hk hD hb hl hds
 show wpAny _ X.A (assign (.Name y py) X.env (.ref D)) _ _ _
 refine wpAny_assign_Name (jt (v:=.ref D) I' hN hy (.inl hly) rfl (fun s3 I3 ⟨a,hsb,ha⟩=>?_) (.inr hly))
 have hne:C≠a:=by
  rcases ha with z|z
  ·rw[z];exact hC1
  ·exact fun q=>hC3 y a z q.symm
 refine⟨m',hns.sameBut hsb hne,fun h' hsb'=>?_⟩
 exact⟨_,_,H',I3.turned (t':=s3.toks) (fun b o hb e=>(hsb'.2 b hb).trans e) hCn hC1 (.inr hC2) hC3 hC4,(Fwd.same e2).trans fw,_,rp,fin out pv⟩
end
end PD
namespace PD
open PySem PySem.Spec PyProof.Rows L2
section
variable{X:Cx}
end
section
variable{X:Cx}{pos:Pos}
end
end PD
namespace PD
open PySem PySem.Spec PyProof.Rows L2
section
variable{X:Cx}{pos:Pos}
end
end PD
namespace PD
open PySem PySem.Spec PyProof.Rows L2
section
variable{X:Cx}{e:Expr}{ta:DA}
end
end PD
namespace PD
open PySem PySem.Spec PyProof.Rows L2 PZ
def ESt(e it l:Addr)(i:Nat)(h:Heap):Prop:=(∃old,IsEnum h e it (i:Int) old)/\h.IsListIter it l i
def Ite(K:PySem.W.Frag)(a:Addr):It :=
 ⟨fun i H=>∃xs x,SqL K H a xs/\xs[i]?=some x,
  fun i H v H'=>∃T x,v=.ref T/\H T=none/\H'=L2.upd H T (.tup [.int (i:Int),x])/\∀xs,SqL K H a xs->xs[i]?=some x,
  fun i H=>∃xs,SqL K H a xs/\xs[i]?=none⟩
theorem yw{P:Program}{w:World}{K:PySem.W.Frag}{es:List Expr}{kt:Nat}{tp:Pos}(a e it:Addr)(D:e≠it) :
  Turn P w K (.Tuple es kt tp) (Ite K a) [e,it] e (fun i h=>ESt e it a i h) where
 mem:=by simp
 obj:=fun i h st c hc=>by
  obtain⟨⟨old,he⟩,s1⟩:=st
  simp only[zAC,zAS,or_false]at hc
  rcases hc with q|q<;>subst q
  ·exact⟨_,he,fun v q=>by cases q⟩
  ·obtain⟨o,q1,_,q2⟩:=s1
   exact⟨o,q1,fun v q=>by rw[q2]at q;cases q⟩
 keep:=fun i h h' st kp=>by
  obtain⟨⟨old,he⟩,s1⟩:=st
  obtain⟨o,q1,r⟩:=s1
  exact⟨⟨old,kp e (by simp) _ he⟩,o,kp it (by simp) _ q1,r⟩
 item:=by
  intro X hP hw hK hc i pins s σ H E I hf st hg
  subst hP hw hK
  obtain⟨xs,x,q1,hx⟩:=hg
  obtain⟨us,r1,p1⟩:=SqK.list (k:=true) I q1
  obtain⟨u,hu,ru⟩:=r1.get hx
  obtain⟨⟨old,he⟩,hit⟩:=st
  have hne1:a≠e:=SqK.ne (k:=true) I (hf e (by simp)) q1
  have hne2:a≠it:=SqK.ne (k:=true) I (hf it (by simp)) q1
  refine wpAny_pyNext_enum_item he hit p1 (x:=u) (by simpa using hu) D fun h' eo it1 tp' sz' kp=>⟨_,rfl,wpAny_letOwnedTupleGo_enum eo fun h'' e2 sb=>?_⟩
  have sz:s.heap.objs.size<=s.heap.objs.size:=zAM _
  have ne:s.heap.objs.size≠e:=zCD (zAJ he)
  obtain⟨oi,hoi,ri⟩:=id hit
  have ni:s.heap.objs.size≠it:=zCD (zAJ hoi)
  have nT:H s.heap.objs.size=none:=I.hok.fresh sz
  have kp2:∀c o,c ∉ [e,it]->s.heap.get? c=some o->h''.get? c=some o:=fun c o n q=>by
   simp only[zAC,zAS,or_false,not_or]at n
   exact sb.extBut c o n.1 (kp c o n.1 n.2 q)
  have st2:ESt e it a (i+1) h'':=by
   refine⟨⟨u,?_⟩,?_⟩
   ·have:((i+1:Nat):Int)=(i:Int)+1:=by omega
    rw[this]
    exact e2
   ·obtain⟨o,q1,r⟩:=it1
    exact⟨o,sb.extBut _ o (Ne.symm D) q1,r⟩
  have pr2:h''.get? s.heap.objs.size=some {cls:=.type "tuple", data:=.seq #[.int i s.toks,u]}:=sb.extBut _ _ ne tp'
  have lo:∀c ∈ [e,it],c≠s.heap.objs.size:=fun c hc=>by
   simp only[zAC,zAS,or_false]at hc
   rcases hc with q|q<;>subst q
   ·exact Ne.symm ne
   ·exact Ne.symm ni
  refine⟨.ref s.heap.objs.size,L2.upd H s.heap.objs.size (.tup [.int (i:Int),x]),?_,rfl,⟨_,x,rfl,nT,rfl,fun xs' q=>by rw[I.list_inj q q1];exact hx⟩,st2,fun c hc=>by rw[ay (lo c hc)];exact(hf c hc).1⟩
  have nch:∀c o,H c=some o->c ∉ [e,it]:=fun c o q hc=>by
   have:=(hf c hc).1
   rw[q]at this
   cases this
  refine L2.Inv.step (s:=s) (h':=h'') (g':=s.gens) (d':=s.drawn) (t':=s.toks+1) (ch:=[e,it]) I (fun c hc=>?_) (fun c o _ _ n q _=>kp2 c o n q) (fun c o _ _ n q _=>⟨o.slots,kp2 c o n q⟩) (fun c o _ q n=>by rw[ay (zAr (zAJ q))];exact n) (fun c o n q=>⟨o,kp2 c o n q⟩)
   (fun c ls q=>by rw[ay (aV q nT)];exact q) (fun c o ls q=>by rw[ay (aV q nT)];exact q) (fun c ps q=>⟨#[],by rw[ay (aV q nT),q];simp⟩) (fun m hm=>?_) (fun c o q=>?_) I.bare
  ·obtain⟨f0,f1,f2,f3,f4,f5⟩:=hf c hc
   exact⟨f3,f1,f4,f5⟩
  ·obtain⟨o,es',ep,ho,r⟩:=hm
   exact⟨o,es',ep,kp2 _ o (fun q=>(hf _ q).2.1 rfl) ho,r⟩
  ·by_cases hcT:c=s.heap.objs.size
   ·subst hcT
    rw[aG]at q
    cases q
    exact⟨by rw[sizeLine_eq];show 2<=16777216;decide,[.int i s.toks,u],.cons ⟨_,rfl⟩ (.cons ru .nil),⟨_,pr2,rfl,_,rfl⟩⟩
   ·rw[ay hcT]at q
    refine(I.hok c o q).stay (fun d' o' hd z=>kp2 d' o' ?_ z) (fun d' z=>by rw[ay (aV z nT)];exact z) fun d' ls z=>by rw[ay (aV z nT)];exact z
    rcases hd with q'|q'
    ·rw[q'];exact nch c o q
    ·exact nch d' _ q'
 done:=by
  intro X hP hw hK hc i pins s σ H E I hf st hg
  subst hP hw hK
  obtain⟨xs,q1,hend⟩:=hg
  obtain⟨us,r1,p1⟩:=SqK.list (k:=true) I q1
  obtain⟨⟨old,he⟩,hit⟩:=st
  refine wpAny_pyNext_enum_end (I.ok.hd hc) he hit p1 (by simpa using r1.none_of hend) fun h' kp=>⟨rfl,?_⟩
  have kp2:∀c o,c ∉ [e,it]->s.heap.get? c=some o->h'.get? c=some o:=fun c o n q=>by
   simp only[zAC,zAS,or_false,not_or]at n
   exact kp c o n.2 q
  have nch:∀c o,H c=some o->c ∉ [e,it]:=fun c o q hc=>by
   have:=(hf c hc).1
   rw[q]at this
   cases this
  refine L2.Inv.step (s:=s) (h':=h') (g':=s.gens) (d':=s.drawn) (t':=s.toks) (ch:=[e,it]) I (fun c hc=>?_) (fun c o _ _ n q _=>kp2 c o n q) (fun c o _ _ n q _=>⟨o.slots,kp2 c o n q⟩) (fun _ _ _ _ n=>n) (fun c o n q=>⟨o,kp2 c o n q⟩) (fun _ _ q=>q) (fun _ _ _ q=>q) (fun c ps q=>⟨#[],by rw[q];simp⟩) (fun m hm=>?_) (fun c o q=>?_) I.bare
  ·obtain⟨f0,f1,f2,f3,f4,f5⟩:=hf c hc
   exact⟨f3,f1,f4,f5⟩
  ·obtain⟨o,es',ep,ho,r⟩:=hm
   exact⟨o,es',ep,kp2 _ o (fun q=>(hf _ q).2.1 rfl) ho,r⟩
  ·refine(I.hok c o q).stay (fun d' o' hd z=>kp2 d' o' ?_ z) (fun _ z=>z) fun _ _ z=>z
   rcases hd with q'|q'
   ·rw[q'];exact nch c o q
   ·exact nch d' _ q'
 self:=fun _ _ _ _ _ st h=>by
  obtain⟨⟨old,he⟩,_⟩:=st
  exact wpAny_pyIter_enum he h
section
variable{X:Cx}
def j7:Nat->List D->List D
 |_,[]=>[]
 |n,d::r=>.tup [.int (n:Int),d]::j7 (n+1) r
theorem k6:∀(n:Nat) (ds:List D),(j7 n ds).length=ds.length
 |_,[]=>rfl
 |n,d::r=>by rw[j7,zAb,k6 (n+1) r,zAb]
theorem kZ:∀(n:Nat) (ds:List D) (i:Nat) (d:D),ds[i]?=some d->(j7 n ds)[i]?=some (.tup [.int ((n+i:Nat):Int),d])
 |_,[],_,_,h=>by cases h
 |n,x::r,0,d,h=>by
  rw[List.getElem?_cons_zero]at h
  cases h
  rfl
 |n,x::r,i+1,d,h=>by
  rw[List.getElem?_cons_succ]at h
  rw[j7,List.getElem?_cons_succ,kZ (n+1) r i d h]
  congr 4
  omega
def vE(ta:DA):DA:=fun ρ R=>ta ρ fun ds=>∃t xs,ds=[.lst t xs]/\R (j7 0 xs)
theorem Bm {es:List Expr} {kt:Nat} {tp:Pos} {a:Expr} {ta:DA} {p pos:Pos} (hg:Gl X "enumerate") (hm:X.mg "enumerate" = none) (ha:PAD X [a] ta) (hs:starEach [a] X.env=(false,eval a X.env)::starEach [] X.env:=by rfl) (hs2:(backTo pos (starEach [] X.env)).any (·.1)=false:=by rfl) :
  PID X (.Tuple es kt tp) (.Call (.Name "enumerate" p) [a] [] pos) (vE ta):=by
 intro pins s σ H W ρ R I r h
 refine Call_ (eQ I hg hm boot_enumerate (PyProof.Rows.callWith_type1 (thn (ha pos pins s σ H W ρ _ I r h) fun us s1 ⟨vs,H1,ds,I1,r1,e1,hd,q1⟩=>?_) hs hs2))
 obtain⟨t,xs,e,q⟩:=q1
 subst e
 obtain⟨v1,rv,rfl,hd1,rfl⟩:=hd
 obtain⟨l,ws,e2,sq,dn,up⟩:=hd1.seq (k:=true) (ds:=xs) rfl
 subst e2
 cases r1 with
 |cons ra rr =>
  cases rr
  cases ra
  obtain⟨us1,_,p1⟩:=SqK.list (k:=true) I1 sq
  refine call_enumerate_list p1 fun h' E1 L1 sz kp=>?_
  refine wpAny_pyIter_enum E1 ?_
  refine⟨s1.heap.objs.size+1,[s1.heap.objs.size+1,s1.heap.objs.size],_,_,H1,_,rfl,I1.kept (t':=s1.toks) kp,e1,yw l _ _ (by simp),⟨⟨_,E1⟩,L1⟩,fun c hc=>?_,?_,q⟩
  ·have hc':s1.heap.objs.size<=c:=by
    simp only[zAC,zAS,or_false]at hc
    rcases hc with q|q<;>subst q
    ·exact zCl _ _
    ·exact zAM _
   exact I1.fpOk hc' (I1.hok.fresh hc')
  ·intro P' H' hT hL hX i
   have k':SqL X.K H' l ws:=up P' H' hT hL
   have n1:=dn.len
   have hlen:=k6 0 xs
   refine⟨fun hi=>?_,fun v H3 y hi=>?_,fun hi=>⟨ws,k',zAs (by omega)⟩⟩
   ·obtain⟨x,hx,_⟩:=dn.get (i:=i) (d:=xs[i]'(by omega)) (by simp)
    exact⟨ws,x,k',hx⟩
   ·obtain⟨T,x,e,nT,eH,hx⟩:=y
    subst e eH
    obtain⟨dx,g1',hx'⟩:=dn.bg (hx ws k')
    have sm:ar H' (L2.upd H' T (.tup [.int (i:Int),x])):=ar.upd nT
    refine⟨sm,.tup [.int (i:Int),dx],by rw[kZ 0 xs i dx g1',zA6],Den.tup (SqT.of aG) (af.cons (Den.int _) (af.one ((Den.map hT hL hX dx x hx').same sm)))⟩
end
end PD
namespace PD
open PySem PySem.Spec PyProof.Rows L2
section
variable{X:Cx}
def vH(t:DA):DM:=fun ρ Q=>t ρ fun ys=>Q (.own ys)
theorem CO{e:Expr}{ta:DA}(h:PEF X e ta):PEM X e (vH ta):=fun pins s σ H W ρ _ I r hw =>
 thn (h pins s σ H W ρ _ I r hw) fun u s1 ⟨a,vs,H',ds,e1,I1,sm,n,k,hb,hd,q⟩=>⟨.ref a,H',.own ds,I1,e1,sm,⟨a,vs,rfl,n,k,hb,hd⟩,q⟩
def PSV(X:Cx)(st:Stmt)(i:Nat)(t:DE):Prop :=
 ∀ (pins:List (Addr×Obj)) (s:Shared) (σ:St) (H:Hp) (W:Own) (ρ:Ro) (Q:D->Prop),Inv X pins σ H s->Rel X W H σ ρ->t ρ Q →
  wpAny (model X.prog X.w) X.A (exec st X.env) (fun f s'=>f=.next/\∃v H' d,Inv X pins (σ.set i (some v)) H' s'/\ar H H'/\Den X.K W.bad H' d v/\Q d) X.xe s
def PSK(X:Cx)(st:Stmt)(t:Ro->(Ro->Prop)->Prop):Prop :=
 ∀ (pins:List (Addr×Obj)) (s:Shared) (σ:St) (H:Hp) (W:Own) (ρ:Ro) (Q:Ro->Prop),Inv X pins σ H s->Rel X W H σ ρ->t ρ Q →
  wpAny (model X.prog X.w) X.A (exec st X.env) (fun f s'=>f=.next/\∃W' H' ρ',Inv X pins σ H' s'/\Fwd W H W' H'/\Rel X W' H' σ ρ'/\Q ρ') X.xe s
def vJ(tc:DT):Ro->(Ro->Prop)->Prop:=fun ρ Q=>tc ρ fun b=>b=false/\Q ρ
theorem Et{c:Expr}{a:List Stmt}{pos:Pos}{tc:DT}(hc:PTD X c tc):PSK X (.If c a [] pos) (vJ tc):=by
 intro pins s σ H W ρ Q I r h
 refine wpAny_If (thn (hc pins s σ H W ρ _ I r h) fun d s1 ⟨H1,I1,e1,q1⟩=>?_)
 cases d with
 |true=>exact absurd q1.1 (by simp)
 |false=>exact wpAny_execs_nil ⟨rfl,W,H1,ρ,I1,Fwd.same e1,r.same e1,q1.2⟩
def nK(i:Nat)(k:Int)(te:DE):Ro->(Ro->Prop)->Prop:=fun ρ Q=>∃(xs:List LI) (m:Nat) (ds:List D),ρ[i]?=some (some (.ob (.ll xs)))/\ixN xs.length k=some m/\xs[m]?=some (.own ds)/\te ρ fun d=>ds.length<sizeLine/\Q (ρ.set i (some (.ob (.ll (xs.set m (.own (ds++[d])))))))
theorem Am{x:Str}{k:Int}{j:Nat}{e:Expr}{te:DE}{px pk pp apos cpos pos:Pos}(i:Nat)(he:PED X e te)(hi:X.N[i]?=some x:=by rfl)(hv:Vis X.env.scope x:=by first|exact Or.inl rfl|exact Or.inr (Or.inl rfl)|exact Or.inr (Or.inr rfl))
  (hd:(x==("__debug__" : Str))=false:=by decide) (hcd:(x==("__classdict__" : Str))=false:=by decide)
  (hbase:attributeBase (.Subscript (.Name x px) (.Constant (.int k) j pk) pp) "append" X.env (eval (.Subscript (.Name x px) (.Constant (.int k) j pk) pp) X.env)=eval (.Subscript (.Name x px) (.Constant (.int k) j pk) pp) X.env:=by rfl)
  (hfew:((backTo cpos (starEach [e] X.env)).all (fun x=>!x.1) && (backToKw cpos (keywordEach [] X.env)).all (fun x=>x.1.isSome) && decide ([e].length+([]:List Keyword).length+(if([]:List Keyword).isEmpty then 0 else 1)<30))=true:=by rfl)
  (hline:(apos.endLine==cpos.line)=true:=by rfl) (hst:starEach [e] X.env=(false,eval e X.env)::starEach [] X.env:=by rfl) (hplain:(backTo cpos (starEach [] X.env)).any (·.1)=false:=by rfl)
  (hs:swapsWith (.Call (.Attribute (.Subscript (.Name x px) (.Constant (.int k) j pk) pp) "append" apos) [e] [] cpos) none pos.line X.env=pure false:=by rfl) :
  PSK X (.Expr (.Call (.Attribute (.Subscript (.Name x px) (.Constant (.int k) j pk) pp) "append" apos) [e] [] cpos) pos) (nK i k te):=by
 have P0:=iQ (pos:=pos) (og PySem.F.plainAttrs_list PySem.F.slot_list_append PySem.F.type_list_append fy (oh o9 (gQ hi hv hd hcd) gP (by intro _ _;rfl)) (fz he.pe i6 hst) hbase hfew hline hst hplain) hs
 intro pins s σ H W ρ Q I r h
 obtain⟨xs,m,ds,eo,hm,hx,h⟩:=h
 obtain⟨a,o,oa,sa,ha,ho⟩:=r.own i _ eo
 cases ho with
 |ll hds =>
 rename_i vs
 obtain⟨b,us,vb,ob,hb,hdb⟩:=hds.get hx
 rw[zA6]at ob
 have hix:atI vs k=some (.ref b):=by
  unfold atI
  rw[hds.len,hm]
  exact vb
 refine thn (P0 pins s σ H {nx:=fun σ' H'=>σ'=σ/\∃W' ρ',Fwd W H W' H'/\Rel X W' H' σ ρ'/\Q ρ',rt:=fun _ _=>False} I ?_) fun f s1 q=>?_
 ·refine⟨.ref a,sa,a,vs,k,.ref b,rfl,rfl,SqL.of ha,hix,.inl ⟨rfl,us,SqL.of hb⟩,W,ρ,_,r,h,fun v H' d e1 hd' q=>?_⟩
  obtain⟨z,q⟩:=q
  have hb':=e1 _ _ hb
  refine⟨b,us,v,rfl,rfl,hb',by rw[hdb.len];exact z,rfl,?_⟩
  obtain⟨r7,f7⟩:=(r.same e1).mutIn eo hx ob hb' (af.append (hdb.same e1) (af.one hd'))
  exact⟨W,_,(Fwd.same e1).trans f7,r7,q⟩
 ·cases f with
  |ret w=>obtain⟨_,_,_,_,_,z⟩:=q;exact z.elim
  |brk=>obtain⟨_,_,_,z⟩:=q;exact z.elim
  |cont=>obtain⟨_,_,_,z⟩:=q;exact z.elim
  |next =>
   obtain⟨σ',H',I',rfl,W',ρ',fw,r',q⟩:=q
   exact⟨rfl,W',H',ρ',I',fw,r',q⟩
def DV (K:PySem.W.Frag) (i:Nat) (k1 k2 k3 c:Int):TS:=wM (tBM K "list" pF (tOp (wA K) (tOp (DD K) (tOp (wA K) (wO i) (tC (.int k1))) (tC (.int k2))) (tC (.int k3))) (oH (tC (.int c)) wN))
theorem Dy {x:Str} {k1 k2 k3 c:Int} {px p1 q1 p2 q2 p3 q3 apos pc cpos pos:Pos} {j1 j2 j3 j':Nat} (i:Nat) (hi:X.N[i]?=some x:=by rfl) (hv:Vis X.env.scope x:=by first|exact Or.inl rfl|exact Or.inr (Or.inl rfl)|exact Or.inr (Or.inr rfl)) (hd:(x==("__debug__" : Str))=false:=by decide) (hcd:(x==("__classdict__" : Str))=false:=by decide)
  (hbase:attributeBase (.Subscript (.Subscript (.Subscript (.Name x px) (.Constant (.int k1) j1 p1) q1) (.Constant (.int k2) j2 p2) q2) (.Constant (.int k3) j3 p3) q3) "append" X.env (eval (.Subscript (.Subscript (.Subscript (.Name x px) (.Constant (.int k1) j1 p1) q1) (.Constant (.int k2) j2 p2) q2) (.Constant (.int k3) j3 p3) q3) X.env)=eval (.Subscript (.Subscript (.Subscript (.Name x px) (.Constant (.int k1) j1 p1) q1) (.Constant (.int k2) j2 p2) q2) (.Constant (.int k3) j3 p3) q3) X.env:=by rfl)
  (hfew:((backTo cpos (starEach [.Constant (.int c) j' pc] X.env)).all (fun x=>!x.1) && (backToKw cpos (keywordEach [] X.env)).all (fun x=>x.1.isSome) && decide ([Expr.Constant (.int c) j' pc].length+([]:List Keyword).length+(if([]:List Keyword).isEmpty then 0 else 1)<30))=true:=by rfl)
  (hline:(apos.endLine==cpos.line)=true:=by rfl) (hst:starEach [.Constant (.int c) j' pc] X.env=(false,eval (.Constant (.int c) j' pc) X.env)::starEach [] X.env:=by rfl) (hplain:(backTo cpos (starEach [] X.env)).any (·.1)=false:=by rfl)
  (hs:swapsWith (.Call (.Attribute (.Subscript (.Subscript (.Subscript (.Name x px) (.Constant (.int k1) j1 p1) q1) (.Constant (.int k2) j2 p2) q2) (.Constant (.int k3) j3 p3) q3) "append" apos) [.Constant (.int c) j' pc] [] cpos) none pos.line X.env=pure false:=by rfl) :
  PS X (.Expr (.Call (.Attribute (.Subscript (.Subscript (.Subscript (.Name x px) (.Constant (.int k1) j1 p1) q1) (.Constant (.int k2) j2 p2) q2) (.Constant (.int k3) j3 p3) q3) "append" apos) [.Constant (.int c) j' pc] [] cpos) pos) (DV X.K i k1 k2 k3 c) :=
 iQ (pos:=pos) (og PySem.F.plainAttrs_list PySem.F.slot_list_append PySem.F.type_list_append fy (oh nX (oh o9 (oh nX (gQ hi hv hd hcd) gP (by intro _ _;rfl)) gP (by intro _ _;rfl)) gP (by intro _ _;rfl)) (fz gP i6 hst) hbase hfew hline hst hplain) hs
end
section
variable{X:Cx}{sc:Scope}{ns:List Str}{js:List Nat}{elt iter:Expr}{ifs:List Expr}{px pos:Pos}{te:DE}{tc:DT}{wi:DA}{x:Str}
theorem B4{y:Str}{py spos:Pos}(i:Nat)(hN:X.N.Nodup)(hc:X.calm=true)(S:CSc X.env.scope sc [x] ns)(hj:bG X.N ns js)(hi:PID X (.Name x px) iter wi)(ht:∀(C:Addr) (s₂:Shared) (H₂:Hp) (fp:List Addr) (XE:Value->Shared->Prop),TsD (aN X sc ns [x] C s₂ H₂ fp XE) ifs tc)
  (he:∀(C:Addr) (s₂:Shared) (H₂:Hp) (fp:List Addr) (XE:Value->Shared->Prop),PED (aN X sc ns [x] C s₂ H₂ fp XE) elt te) (hy:X.N[i]?=some y:=by rfl) (hly:X.env.scope.names.lookup y=some .local:=by rfl) (hclos:closureFor sc X.env=pure (cV X.env ns):=by rfl) (hs:∀x,foldedSetIterable iter X.env x=pure x:=by intro _;rfl)
  (hsw:swapsWith (.ListComp elt [⟨.Name x px,iter,ifs,0⟩] sc pos) (some (.Name y py)) spos.line X.env=pure true:=by rfl) :
  PSV X (.Assign [.Name y py] (.ListComp elt [⟨.Name x px,iter,ifs,0⟩] sc pos) spos) i (jd wi js tc te):=by
 intro pins s σ H W ρ Q I r h
 rw[exec_Assign_Name_used _ _ _ _ hsw]
 refine wpAny_bind (wpAny_standAt (wpAny_bind ?_))
 show wpAny _ X.A (do let _←comprehension (.ListComp elt [⟨.Name x px,iter,ifs,0⟩] sc pos) sc X.env _ (newList []) false (eval iter X.env) (some (assign (.Name y py) X.env))) _ _ s
 refine wpAny_bind (wpAny_mono (wpAny_comprehension_free (use:=some (assign (.Name y py) X.env)) (Q:=fun _ s'=>∃v H' d,Inv X pins (σ.set i (some v)) H' s'/\ar H H'/\Den X.K W.bad H' d v/\Q d) rfl hs hclos S.kind S.names
  (thn (hi pins s σ H W ρ _ I r h) fun v s1 h1=>thn h1 fun itv s2 h2=>?_)) (fun _ s' hq=>wpAny_pure (wpAny_pure ⟨rfl,hq⟩)) fun _ _ e=>e)
 obtain⟨it,fp,tn,J,H2,ds,e,I2,e2,T,st2,f2,yd,hz,Pv,p0,step,fin⟩:=h2
 subst e
 refine jZ (RR:=fun acc C=>compPost (model X.prog X.w) X.A X.xe (some (assign (.Name y py) X.env)) (fun _ s'=>∃v H' d,Inv X pins (σ.set i (some v)) H' s'/\ar H H'/\Den X.K W.bad H' d v/\Q d) acc C) hc S hj (Ed:=fun _=>False) (fun C s₂ H₂ fp XE _=>he C s₂ H₂ fp XE) (fun C s₂ H₂ fp XE _=>ht C s₂ H₂ fp XE) (fun _ _=>cU.no) I2 (r.same e2) (fun C s₂ H₂ fp XE=>kf S) T st2 f2 yd hz Pv p0 (wK step) ?_
 intro D C s' H' m' out I' sm hns hCn hC1 hC2 hC3 hC4 ⟨hn,hk,vs,hD,hds⟩ pv
 have hden:Den X.K W.bad H' (.lst true out) (.ref D):=Den.lst ((r.same e2).fresh hn) (.new hD hk) (hds.fewer fun _ _ z=>.inl z)
 show wpAny _ X.A (assign (.Name y py) X.env (.ref D)) _ _ _
 refine wpAny_assign_Name (jt (v:=.ref D) I' hN hy (.inl hly) rfl (fun s3 I3 ⟨a,hsb,ha⟩=>?_) (.inr hly))
 have hne:C≠a:=by
  rcases ha with z|z
  ·rw[z];exact hC1
  ·exact fun q=>hC3 y a z q.symm
 refine⟨m',hns.sameBut hsb hne,fun h' hsb'=>?_⟩
 exact⟨_,H',_,I3.turned (t':=s3.toks) (fun b o hb e=>(hsb'.2 b hb).trans e) hCn hC1 (.inr hC2) hC3 hC4,e2.trans sm,hden,fin out pv⟩
end
section
variable{K:PySem.W.Frag}{P:Bool->Addr->Prop}{H H':Hp}
mutual
theorem Den.grow{Z:Addr->Prop}(hP:∀t a,P false a->P t a)(ag:∀a,¬Z a->H' a=H a)(ls:∀a,Z a->K.lookup a=none/\∃us,H a=some (.lst us)/\H' a=some (.lst (us++[.int 0]))):∀(d:D) (v:V),Den K P H d v->∃d',Den K P H' d' v/\(∀t ds,d=.lst t ds->∃ds',d'=.lst false ds')
 |.non,v,h=>⟨.non,by simpa only[Den]using h,fun _ _ e=>by cases e⟩
 |.bl b,v,h=>⟨.bl b,by simpa only[Den]using h,fun _ _ e=>by cases e⟩
 |.int i,v,h=>⟨.int i,by simpa only[Den]using h,fun _ _ e=>by cases e⟩
 |.str x,v,h=>⟨.str x,by simpa only[Den]using h,fun _ _ e=>by cases e⟩
 |.tup ds,v,h=>by
  simp only[Den]at h
  obtain⟨a,vs,e,q,r⟩:=h
  obtain⟨ds',r'⟩:=af.grow hP ag ls ds vs r
  refine⟨.tup ds',?_,fun _ _ e=>by cases e⟩
  simp only[Den]
  refine⟨a,vs,e,?_,r'⟩
  have q':H a=some (.tup vs):=q
  show H' a=_
  rw[ag a fun z=>by obtain⟨_,us,h1,_⟩:=ls a z;rw[h1]at q';cases q']
  exact q'
 |.lst t ds,v,h=>by
  simp only[Den]at h
  obtain⟨a,vs,e,p,q,r⟩:=h
  obtain⟨ds',r'⟩:=af.grow hP ag ls ds vs r
  have p':¬P false a:=fun z=>p (hP t a z)
  by_cases z:Z a
  ·obtain⟨k,us,h1,h2⟩:=ls a z
   have ev:vs=us:=by
    rcases q.1 with(q|⟨u,q⟩)|⟨o,its,n,q,_⟩
    ·rw[h1]at q;cases q;rfl
    ·rw[h1]at q;cases q
    ·rw[k]at q;cases q
   subst ev
   refine⟨.lst false (ds'++[.int 0]),?_,fun _ _ _=>⟨_,rfl⟩⟩
   simp only[Den]
   exact⟨a,_,e,p',SqG.any (SqL.of h2),af.append r' (af.one (Den.int 0))⟩
  ·refine⟨.lst false ds',?_,fun _ _ _=>⟨_,rfl⟩⟩
   simp only[Den]
   refine⟨a,vs,e,p',SqG.any ?_,r'⟩
   have eq:=ag a z
   rcases q.1 with(q|⟨u,q⟩)|q
   ·exact .inl (.inl (by rw[eq];exact q))
   ·exact .inl (.inr ⟨u,by rw[eq];exact q⟩)
   ·exact .inr q
 |.exc c,v,h=>by
  refine⟨.exc c,?_,fun _ _ e=>by cases e⟩
  simp only[Den]at h ⊢
  obtain⟨a,e,q,k⟩:=h
  exact⟨a,e,by rw[ag a fun z=>by obtain⟨_,us,h1,_⟩:=ls a z;rw[h1]at q;cases q];exact q,k⟩
 |.obj C ns ds,v,h=>by
  simp only[Den]at h
  obtain⟨a,dx,vs,e,q,l,k,r⟩:=h
  obtain⟨ds',r'⟩:=af.grow hP ag ls ds vs r
  refine⟨.obj C ns ds',?_,fun _ _ e=>by cases e⟩
  simp only[Den]
  exact⟨a,dx,vs,e,by rw[ag a fun z=>by obtain⟨_,us,h1,_⟩:=ls a z;rw[h1]at q;cases q];exact q,l,k,r'⟩
 |.dic,v,h=>by
  refine⟨.dic,?_,fun _ _ e=>by cases e⟩
  simp only[Den]at h ⊢
  obtain⟨a,e,q⟩:=h
  exact⟨a,e,by rw[ag a fun z=>by obtain⟨_,us,h1,_⟩:=ls a z;rw[h1]at q;cases q];exact q⟩
theorem af.grow{Z:Addr->Prop}(hP:∀t a,P false a->P t a)(ag:∀a,¬Z a->H' a=H a)(ls:∀a,Z a->K.lookup a=none/\∃us,H a=some (.lst us)/\H' a=some (.lst (us++[.int 0]))):∀(ds:List D) (vs:List V),af K P H ds vs->∃ds',af K P H' ds' vs
 |[],vs,h=>⟨[],by simpa only[af]using h⟩
 |d::ds,vs,h=>by
  simp only[af]at h
  obtain⟨v,r,e,h1,h2⟩:=h
  obtain⟨d',q1,_⟩:=Den.grow hP ag ls d v h1
  obtain⟨ds',q2⟩:=af.grow hP ag ls ds r h2
  refine⟨d'::ds',?_⟩
  simp only[af]
  exact⟨v,r,e,q1,q2⟩
end
end
section
variable{X:Cx}
def Ak(d:D):Prop:=∃(t:Bool) (dss:List (List D)),d=.lst t (dss.map (D.lst t))/\dss ≠ []/\∀ds∈dss,∃n x r,ds=D.tup (D.int n::x)::r/\cI ds=true
structure Told(K:PySem.W.Frag)(H:Hp)(b c t0:Addr)(k0:Int)(us ws qs:List V):Prop where
 hb:H b=some (.lst (.int k0::us))
 hc:H c=some (.lst (.ref t0::ws))
 ht:H t0=some (.tup (.ref b::qs))
 kb:K.lookup b=none
 kc:K.lookup c=none
 kt:K.lookup t0=none
theorem Told.bc{K:PySem.W.Frag}{H:Hp}{b c t0:Addr}{k0:Int}{us ws qs:List V}(T:Told K H b c t0 k0 us ws qs):b≠c:=fun e=>by
 have h1:=T.hb
 have h2:=T.hc
 rw[e,h2]at h1
 cases h1
theorem oG{K:PySem.W.Frag}{H:Hp}{a:Addr}{vs us:List V}(q:SqL K H a vs)(h:H a=some (.lst us))(k:K.lookup a=none):vs=us:=by
 rcases q with(q|⟨u,q⟩)|⟨o,its,n,q,_⟩
 ·rw[h]at q;cases q;rfl
 ·rw[h]at q;cases q
 ·rw[k]at q;cases q
theorem DI{K:PySem.W.Frag}{P P':Bool->Addr->Prop}{H:Hp}{b c t0:Addr}{k0:Int}{us ws qs:List V}(T:Told K H b c t0 k0 us ws qs)(hP:∀t a,P' t a->P t a∨a=b∨a=c){t:Bool}{ds:List D}{v:V}(hs:∃n x r,ds=D.tup (D.int n::x)::r/\cI ds=true)(h:Den K P H (.lst t ds) v):Den K P' H (.lst t ds) v:=by
 obtain⟨n,x,r,e,hn⟩:=hs
 simp only[Den]at h ⊢
 obtain⟨a,vs,ev,p,q,hd⟩:=h
 refine⟨a,vs,ev,fun z=>?_,q,af.nol _ _ hn hd⟩
 rw[e]at hd
 obtain⟨u,rr,e1,hu,_⟩:=hd
 simp only[Den]at hu
 obtain⟨e0,vs0,eu,qT,hd0⟩:=hu
 obtain⟨w0,r0,e2,hw0,_⟩:=hd0
 have hw1:=hw0.int_
 rcases hP t a z with z|z|z
 ·exact p z
 ·subst z
  have:=oG q.1 T.hb T.kb
  rw[e1,eu]at this
  cases this
 ·subst z
  have:=oG q.1 T.hc T.kc
  rw[e1,eu]at this
  injection this with h1 _
  injection h1 with h1
  subst h1
  have qT':H e0=some (.tup vs0):=qT
  rw[T.ht,e2,hw1]at qT'
  cases qT'
theorem u5{K:PySem.W.Frag}{P P':Bool->Addr->Prop}{H:Hp}{b c t0:Addr}{k0:Int}{us ws qs:List V}(T:Told K H b c t0 k0 us ws qs)(hP:∀t a,P' t a->P t a∨a=b∨a=c){t:Bool}:∀(dss:List (List D)) (vs:List V),(∀ds∈dss,∃n x r,ds=D.tup (D.int n::x)::r/\cI ds=true)->af K P H (dss.map (D.lst t)) vs->af K P' H (dss.map (D.lst t)) vs
 |[],vs,_,h=>by simpa only[zBZ,af]using h
 |ds::dss,vs,hs,h=>by
  simp only[zAK,af]at h ⊢
  obtain⟨v,r,e,h1,h2⟩:=h
  exact⟨v,r,e,DI T hP (hs ds (by simp)) h1,u5 T hP dss r (fun z hz=>hs z (zAD _ hz)) h2⟩
theorem BY{K:PySem.W.Frag}{P P':Bool->Addr->Prop}{H:Hp}{b c t0:Addr}{k0:Int}{us ws qs:List V}(T:Told K H b c t0 k0 us ws qs)(hP:∀t a,P' t a->P t a∨a=b∨a=c){d:D}{v:V}(hs:Ak d)(h:Den K P H d v):Den K P' H d v:=by
 obtain⟨t,dss,rfl,hn,hs⟩:=hs
 have h0:=h
 simp only[Den]at h ⊢
 obtain⟨a,vs,ev,p,q,hd⟩:=h
 refine⟨a,vs,ev,fun z=>?_,q,u5 T hP dss vs hs hd⟩
 obtain⟨ds0,dr,rfl⟩:=List.exists_cons_of_ne_nil hn
 simp only[zAK,af,Den]at hd
 obtain⟨v0,vr,e1,⟨a0,vs0,e2,_,q0,_⟩,_⟩:=hd
 rcases hP t a z with z|z|z
 ·exact p z
 ·subst z
  have:=oG q.1 T.hb T.kb
  rw[e1,e2]at this
  cases this
 ·subst z
  have:=oG q.1 T.hc T.kc
  rw[e1,e2]at this
  injection this with h1 _
  injection h1 with h1
  subst h1
  rcases q0.1 with(q|⟨u,q⟩)|⟨o,its,n,q,_⟩
  ·rw[T.ht]at q;cases q
  ·rw[T.ht]at q;cases q
  ·rw[T.kt]at q;cases q
theorem az.nol{K:PySem.W.Frag}{P P':Bool->Addr->Prop}{H:Hp}{B:Nat->Option Addr}:∀{k:Nat} {xs:List LI} {vs:List V},(∀li∈xs,∃ds,li=.own ds/\cI ds=true)->az K P H B k xs vs->az K P' H B k xs vs
 |_,[],_,_,h=>by simpa only[az]using h
 |k,.own ds::r,_,hn,h=>by
  simp only[az]at h ⊢
  obtain⟨b,us,u,e,q1,q2,q3,q4⟩:=h
  obtain⟨ds',e',nl⟩:=hn (.own ds) (by simp)
  cases e'
  exact⟨b,us,u,e,q1,q2,af.nol _ _ nl q3,az.nol (fun z hz=>hn z (zAD _ hz)) q4⟩
 |k,.val d::r,_,hn,h=>by
  obtain⟨ds',e',_⟩:=hn (.val d) (by simp)
  cases e'
theorem Rel.part{W:Own}{H:Hp}{σ:St}{ρ ρ':Ro}(r:Rel X W H σ ρ)(h:∀(j:Nat) (z:Sl),ρ'[j]?=some (some z)->ρ[j]?=some (some z)):Rel X W H σ ρ' :=
 ⟨fun j d q=>r.val j d (h j _ q),fun j x q=>r.own j x (h j _ q),r.inj,r.kn,r.ke,r.bt,r.st,r.ent,r.tab⟩
def CT(n js iy ix:Nat)(dj dh df:D):Ro:=(((List.replicate n none).set js (some (.val dj))).set iy (some (.val dh))).set ix (some (.val df))
def Az(ix iy js:Nat)(t5:DE)(t6 t7:Ro->(Ro->Prop)->Prop)(t:DB):DB:=fun Q ρ=>∃(d0 d1:D) (k0:Int) (ks:List Int) (rs zs:List D),
 ρ[ix]?=some (some (.val (.tup [d0,d1,.lst true (.tup (.lst true ((k0::ks).map D.int)::rs)::zs)])))/\ki d0=true/\ki d1=true/\(k0::ks).length<1000/\zs.length+1<1000/\ix≠iy/\js≠ix/\js≠iy ∧
 (∀(j:Nat) (d:D),j≠ix->ρ[j]?=some (some (Sl.val d))->Ak d)/\(∀(j:Nat) (x:OS),ρ[j]?=some (some (Sl.ob x))->∃xs,x=OS.ll xs/\∀li∈xs,∃ds,li=LI.own ds/\cI ds=true) ∧
 t5 (ρ.set ix (some (.val (aM (.tup [d0,d1,.lst true (.tup (.lst true ((k0::ks).map D.int)::rs)::zs)]))))) fun dh=>t6 ((ρ.set ix (some (.val (aM (.tup [d0,d1,.lst true (.tup (.lst true ((k0::ks).map D.int)::rs)::zs)]))))).set iy (some (.val dh))) fun ρ6=>t7 ρ6 fun ρ7 =>
  ∃ dj dh',ρ7[js]?=some (some (.val dj))/\ρ7[iy]?=some (some (.val dh'))/\bI dj=true/\bI dh'=true/\∀zs',t Q (CT ρ.length js iy ix dj dh' (.tup [d0,d1,.lst false zs']))
theorem AY{s5 s6 s7 s8 s9:Stmt}{rest:List Stmt}{ix iy js:Nat}{y:Str}{t5:DE}{t6 t7:Ro->(Ro->Prop)->Prop}{t:DB}(hy:X.N[iy]?=some y)(P5:PSV X s5 iy t5)(P6:PSK X s6 t6)(P7:PSK X s7 t7)(P8:PS X s8 (DV X.K ix 2 0 0 0))(P9:PS X s9 (tAp X.K ix 2 0))(hr:PBd X rest t) :
  PBd X (s5::s6::s7::s8::s9::rest) (Az ix iy js t5 t6 t7 t):=by
 intro pins s σ H W ρ Q I r s0 ht
 obtain⟨d0,d1,k0,ks,rs,zs,ex,n0,n1,lk,lz,hxy,hjx,hjy,hsep,hown,ht⟩:=ht
 obtain⟨v,sx,hd⟩:=r.val ix _ ex
 have hdF:=hd
 obtain⟨tA,vs,rfl,qT,hds⟩:=hd.tup_
 obtain⟨v0,r0,e0,hd0,v1,r1,e1,hd1,v2,r2,e2,hd2,e3⟩:=hds
 have hd2':=hd2
 obtain⟨c,uc,rfl,nbc,qc,hc⟩:=hd2.lstG_
 have lc:=hc.len
 obtain⟨w0,rc,ec,hw0,hrc⟩:=hc
 obtain⟨t0,vt,rfl,qt,hvt⟩:=hw0.tup_
 obtain⟨u0,rt,et,hu0,hrt⟩:=hvt
 obtain⟨b,ub,rfl,nbb,qb,hub⟩:=hu0.lstG_
 have eub:=cR hub
 have hb:=(qb.2 rfl).1
 have hcH:=(qc.2 rfl).1
 have kb:=(qb.2 rfl).2
 have kc:=(qc.2 rfl).2
 have qt':H t0=some (.tup vt):=qt
 have qT':H tA=some (.tup vs):=qT
 have T:Told X.K H b c t0 k0 (ks.map V.int) rc rt:=⟨by rw[hb,eub];rfl,by rw[hcH,ec],by rw[qt',et],kb,kc,Inv.kno I qt'⟩
 have lb:ub.length<1000:=by rw[eub,zAA];exact lk
 have lc':uc.length<1001:=by rw[lc,zAb];omega
 have ev:vs=[v0,v1,.ref c]:=by rw[e0,e1,e2,e3]
 have nOb:∀i,W.O i≠some b:=fun i h=>nbb (.inr (.inl ⟨i,h⟩))
 have nOc:∀i,W.O i≠some c:=fun i h=>nbc (.inr (.inl ⟨i,h⟩))
 have nOt:∀a us,H a=some (.tup us)->∀i,W.O i≠some a:=fun a us q i h=>by
  obtain⟨_,_,o,h3,h4⟩:=r.kn i a h
  rw[q]at h3
  cases h3
  exact h4
 have il:iy<σ.length:=Inv.ilt I hy
 have xl:ix<ρ.length:=(zAE.mp ex).1
 have xs':ix<σ.length:=(zAE.mp sx).1
 let W2:Own:=⟨W.B,W.O,fun a=>W.S a∨a=b∨a=c⟩
 have bad2:∀t a,W2.bad t a->W.bad t a∨a=b∨a=c:=fun t a z=>by
  rcases z with z|z|⟨z1,z2|z2⟩
  ·exact .inl (.inl z)
  ·exact .inl (.inr (.inl z))
  ·exact .inl (.inr (.inr ⟨z1,z2⟩))
  ·exact .inr z2
 have bad2f:∀a,W2.bad false a->W.bad false a:=fun a z=>by
  rcases z with z|z|⟨z1,_⟩
  ·exact .inl z
  ·exact .inr (.inl z)
  ·cases z1
 have rel2:Rel X W2 H σ (ρ.set ix (some (.val (aM (.tup [d0,d1,.lst true (.tup (.lst true ((k0::ks).map D.int)::rs)::zs)]))))):=by
  refine⟨fun j d h=>?_,fun j x h=>?_,r.inj,fun j a h=>?_,r.ke,r.bt,fun a h=>?_,r.ent,r.tab⟩
  ·by_cases e:j=ix
   ·subst e
    rw[zAV xl]at h
    cases h
    exact⟨_,sx,(Den.aM (P':=W.bad false) (fun _ _=>Own.bad_up) _ _ hdF).fewer fun t a z=>by
     cases t with
     |true=>exact .inl rfl
     |false=>exact .inr (bad2f a z)⟩
   ·rw[zAN (Ne.symm e)]at h
    obtain⟨w,h1,h2⟩:=r.val j d h
    exact⟨w,h1,BY T bad2 (hsep j d e h) h2⟩
  ·have e:j≠ix:=fun e=>by
    subst e
    rw[zAV xl]at h
    cases h
   rw[zAN (Ne.symm e)]at h
   obtain⟨xs,rfl,hn⟩:=hown j x h
   obtain⟨a,o,h1,h2,h3,h4⟩:=r.own j _ h
   cases h4 with
   |ll hl=>exact⟨a,_,h1,h2,h3,.ll (az.nol hn hl)⟩
  ·obtain⟨h1,⟨h2,h3⟩,h4⟩:=r.kn j a h
   refine⟨h1,⟨h2,fun z=>?_⟩,h4⟩
   rcases z with z|z|z
   ·exact h3 z
   ·exact nOb j (z ▸ h)
   ·exact nOc j (z ▸ h)
  ·rcases h with h|h|h
   ·exact r.st a h
   ·exact⟨_,h ▸ hb⟩
   ·exact⟨_,h ▸ hcH⟩
 refine wpAny_execs_cons (thn (P5 pins s σ H W2 _ _ I rel2 ht) fun f s1 ⟨ef,vh,H5,dh,I5,sm5,hdh,ht⟩=>?_)
 subst ef
 have rel5:=(rel2.same sm5).put il hdh
 refine wpAny_execs_cons (thn (P6 pins s1 _ H5 _ _ _ I5 rel5 ht) fun f s2 ⟨ef,W6,H6,ρ6,I6,f6,rel6,ht⟩=>?_)
 subst ef
 refine wpAny_execs_cons (thn (P7 pins s2 _ H6 _ _ _ I6 rel6 ht) fun f s3 ⟨ef,W7,H7,ρ7,I7,f7,rel7,ht⟩=>?_)
 subst ef
 obtain⟨dj,dh',ej,eh,aj,ah,ht⟩:=ht
 have nO5:∀a,(∀i,W.O i≠some a)->∀i,(W2.drop iy).O i≠some a:=fun a h i z=>by
  have z':(if i=iy then none else W.O i)=some a:=z
  split at z'
  ·cases z'
  ·exact h i z'
 have nO6:∀a o,H a=some o->(∀i,W.O i≠some a)->NT o->∀i,W6.O i≠some a:=fun a o ho h nt i z=>by
  rcases f6.new i a z with⟨j,q⟩| q
  ·exact nO5 a h j q
  ·rw[sm5.kp a o ho nt]at q;cases q
 have nO7:∀a o,H a=some o->(∀i,W.O i≠some a)->NT o->∀i,W7.O i≠some a:=fun a o ho h nt i z=>by
  rcases f7.new i a z with⟨j,q⟩| q
  ·exact nO6 a o ho h nt j q
  ·rw[f6.kp a o (nO5 a h) (sm5.kp a o ho nt) nt]at q;cases q
 have keep:∀a o,H a=some o->(∀i,W.O i≠some a)->NT o->H7 a=some o:=fun a o ho h nt=>f7.kp a o (nO6 a o ho h nt) (f6.kp a o (nO5 a h) (sm5.kp a o ho nt) nt) nt
 have gA7:=keep tA _ qT' (nOt _ _ qT') True.intro
 have gt7:=keep t0 _ qt' (nOt _ _ qt') True.intro
 have gb7:=keep b _ hb nOb True.intro
 have gc7:=keep c _ hcH nOc True.intro
 rw[ev]at gA7
 rw[et]at gt7
 have gc7':=gc7
 rw[ec]at gc7'
 have sx5:(σ.set iy (some vh))[ix]?=some (some (V.ref tA)):=by rw[zAN (Ne.symm hxy)];exact sx
 refine wpAny_execs_cons (thn (P8 pins s3 _ H7 {nx:=fun σ' H'=>σ'=σ.set iy (some vh)/\H'=L2.upd H7 b (.lst (ub++[.int 0])),rt:=fun _ _=>False} I7 ?_) fun f s4 q=>?_)
 ·exact⟨.ref tA,sx5,tA,_,2,.ref c,rfl,rfl,(SqT.of gA7).w,rfl,c,_,0,.ref t0,rfl,rfl,SqL.of gc7',at0 _ _,t0,_,0,.ref b,rfl,rfl,(SqT.of gt7).w,at0 _ _,.inl ⟨rfl,_,SqL.of gb7⟩,b,ub,.int 0,rfl,rfl,gb7,by rw[sizeLine_eq];omega,rfl,rfl⟩
 cases f with
 |ret w=>obtain⟨_,_,_,_,_,z⟩:=q;exact z.elim
 |brk=>obtain⟨_,_,_,z⟩:=q;exact z.elim
 |cont=>obtain⟨_,_,_,z⟩:=q;exact z.elim
 |next =>
 obtain⟨σ4,H8,I8,rfl,eH8⟩:=q
 have bc:=T.bc
 have gA8:H8 tA=some (.tup [v0,v1,.ref c]):=by
  rw[eH8,ay (fun e=>by rw[e,gb7]at gA7;cases gA7)]
  exact gA7
 have gc8:H8 c=some (.lst uc):=by
  rw[eH8,ay (Ne.symm bc)]
  exact gc7
 refine wpAny_execs_cons (thn (P9 pins s4 _ H8 {nx:=fun σ' H'=>σ'=σ.set iy (some vh)/\H'=L2.upd H8 c (.lst (uc++[.int 0])),rt:=fun _ _=>False} I8 ?_) fun f s5' q=>?_)
 ·exact⟨.ref tA,sx5,tA,_,2,.ref c,rfl,rfl,(SqT.of gA8).w,rfl,.inl ⟨rfl,uc,SqL.of gc8⟩,c,uc,.int 0,rfl,rfl,gc8,by rw[sizeLine_eq];omega,rfl,rfl⟩
 cases f with
 |ret w=>obtain⟨_,_,_,_,_,z⟩:=q;exact z.elim
 |brk=>obtain⟨_,_,_,z⟩:=q;exact z.elim
 |cont=>obtain⟨_,_,_,z⟩:=q;exact z.elim
 |next =>
 obtain⟨σ5,H9,I9,rfl,eH9⟩:=q
 have ag:∀a,¬(a=b∨a=c)->H9 a=H7 a:=fun a ha=>by rw[eH9,ay (fun e=>ha (.inr e)),eH8,ay (fun e=>ha (.inl e))]
 have b9:H9 b=some (.lst (ub++[.int 0])):=by rw[eH9,ay bc,eH8];exact aG
 have c9:H9 c=some (.lst (uc++[.int 0])):=by rw[eH9];exact aG
 have S7:W7.S=fun a=>W.S a∨a=b∨a=c:=by rw[f7.S,f6.S];rfl
 have B7:W7.B=W.B:=by rw[f7.B,f6.B];rfl
 have zb:X.H₀ b=none:=by
  cases e:X.H₀ b with
  |none=>rfl
  |some o=>exact absurd (.inr (.inr ⟨rfl,s0 b o e⟩)) nbb
 have zc:X.H₀ c=none:=by
  cases e:X.H₀ c with
  |none=>rfl
  |some o=>exact absurd (.inr (.inr ⟨rfl,s0 c o e⟩)) nbc
 have ent9:ar X.H₀ H9:=by
  rw[eH9]
  refine ar.ins ?_ zc gc8 True.intro True.intro
  rw[eH8]
  exact ar.ins rel7.ent zb gb7 True.intro True.intro
 have tab9:fD X.K H9:=by
  rw[eH9]
  refine fD.upd ?_ True.intro (.inr ⟨_,gc8,(fun _ z=>by cases z),True.intro⟩)
  rw[eH8]
  exact fD.upd rel7.tab True.intro (.inr ⟨_,gb7,(fun _ z=>by cases z),True.intro⟩)
 have relA:Rel X W7 H7 (σ.set iy (some vh)) (((List.replicate ρ.length none).set js (some (.val dj))).set iy (some (.val dh'))):=rel7.part fun j z q=>by
  by_cases e1:j=iy
  ·subst e1
   by_cases l:j<((List.replicate ρ.length none).set js (some (Sl.val dj))).length
   ·rw[zAV l]at q
    cases q
    exact eh
   ·rw[zAs (by rw[zBK];omega)]at q
    cases q
  ·rw[zAN (Ne.symm e1)]at q
   by_cases e2:j=js
   ·subst e2
    by_cases l:j<(List.replicate ρ.length (none:Option Sl)).length
    ·rw[zAV l]at q
     cases q
     exact ej
    ·rw[zAs (by rw[zBK];omega)]at q
     cases q
   ·rw[zAN (Ne.symm e2),zBW]at q
    split at q<;>cases q
 have only:∀(j:Nat) (z:Sl),(((List.replicate ρ.length none).set js (some (Sl.val dj))).set iy (some (Sl.val dh')))[j]?=some (some z)->z=.val dj∨z=.val dh':=fun j z q=>by
  have m:=zAT q
  rcases List.mem_or_eq_of_mem_set m with m|m
  ·rcases List.mem_or_eq_of_mem_set m with m|m
   ·rw[List.mem_replicate]at m;cases m.2
   ·cases m;exact .inl rfl
  ·cases m;exact .inr rfl
 have rel9:Rel X W7 H9 (σ.set iy (some vh)) (((List.replicate ρ.length none).set js (some (.val dj))).set iy (some (.val dh'))):=by
  refine relA.apart (Z:=fun a=>a=b∨a=c) ag (fun a ha=>?_) (fun i a ho hz=>?_) (fun j d w hj hs hdv=>?_) (fun j x hj=>?_) ent9 tab9
  ·rcases ha with rfl|rfl
   ·exact⟨_,_,gb7,b9⟩
   ·exact⟨_,_,gc7,c9⟩
  ·rcases hz with rfl|rfl
   ·exact nO7 _ _ hb nOb True.intro i ho
   ·exact nO7 _ _ hcH nOc True.intro i ho
  ·have al:bI d=true:=by
    rcases only j _ hj with q|q
    ·cases q;exact aj
    ·cases q;exact ah
   refine Den.hard (fun a z=>?_) d w al hdv
   rcases z with z|z
   ·exact z
   ·exact .inr (.inr ⟨rfl,by rw[S7];exact .inr z⟩)
  ·rcases only j _ hj with q|q<;>cases q
 have tup9:∀a us,SqT X.K H a us->SqT X.K H9 a us:=fun a us q=>by
  have q':H a=some (.tup us):=q
  have q7:=keep a _ q' (nOt _ _ q') True.intro
  show H9 a=_
  rw[ag a fun z=>by
   rcases z with rfl|rfl
   ·rw[hb]at q';cases q'
   ·rw[hcH]at q';cases q']
  exact q7
 have sol7:∀a o,Sol o->H a=some o->H7 a=some o:=fun a o n q=>keep a o q (fun i h=>by
  obtain⟨_,_,o',h3,h4⟩:=r.kn i a h
  rw[q]at h3
  cases h3
  exact h4.sol n) n.nt
 have sol9:∀a o,Sol o->H a=some o->H9 a=some o:=fun a o n q=>by
  rw[ag a fun z=>by
   rcases z with rfl|rfl
   ·rw[hb]at q;cases q;exact n
   ·rw[hcH]at q;cases q;exact n]
  exact sol7 a o n q
 have flat:∀d w,ki d=true->Den X.K W.bad H d w->Den X.K W7.bad H9 d w:=fun d w n h=>Den.map tup9 (fun _ _ _ z _=>absurd True.intro z) sol9 d w (Den.nol (P':=fun _ _=>True) d w n h)
 have third7:=Den.map (P':=W7.bad) (H':=H7) (fun a us q=>by
   have q':H a=some (.tup us):=q
   exact keep a _ q' (nOt _ _ q') True.intro) (fun t a us z q=>by
   have tf:t=false:=by cases t with
    |true=>exact absurd (.inl rfl) z
    |false=>rfl
   subst tf
   have nb:¬W.bad false a:=fun y=>z (.inr y)
   have nO:∀i,W.O i≠some a:=fun i h=>nb (.inr (.inl ⟨i,h⟩))
   refine⟨fun y=>?_,SqG.any ?_⟩
   ·rcases y with y|⟨i,y⟩| ⟨y,_⟩
    ·rw[B7]at y;exact nb (.inl y)
    ·rcases q.1 with(q|⟨u,q⟩)|⟨o,its,n,q,_⟩
     ·exact nO7 a _ q nO True.intro i y
     ·exact nO7 a _ q nO True.intro i y
     ·obtain⟨h1,_⟩:=rel7.kn i a y
      rw[q]at h1
      cases h1
    ·cases y
   ·rcases q.1 with(q|⟨u,q⟩)|q
    ·exact .inl (.inl (keep a _ q nO True.intro))
    ·exact .inl (.inr ⟨u,keep a _ q nO True.intro⟩)
    ·exact .inr q) sol7 _ _ (Den.aM (P':=W.bad false) (fun _ _=>Own.bad_up) _ _ hd2')
 obtain⟨d',hd9,hl⟩:=Den.grow (Z:=fun a=>a=b∨a=c) (H':=H9) (fun _ _=>Own.bad_up) ag (fun a ha=>by
  rcases ha with rfl|rfl
  ·exact⟨kb,_,gb7,b9⟩
  ·exact⟨kc,_,gc7,c9⟩) _ _ third7
 rw[bP]at hl
 obtain⟨zs',rfl⟩:=hl _ _ rfl
 have den9:Den X.K W7.bad H9 (.tup [d0,d1,.lst false zs']) (.ref tA):=Den.tup (by
   show H9 tA=_
   rw[ag tA fun z=>by
    rcases z with rfl|rfl
    ·rw[hb]at qT';cases qT'
    ·rw[hcH]at qT';cases qT']
   exact gA7) (af.cons (flat d0 v0 n0 hd0) (af.cons (flat d1 v1 n1 hd1) (af.one hd9)))
 have relF:=rel9.put (i:=ix) (by rw[zBK];exact xs') den9
 have es:(σ.set iy (some vh)).set ix (some (V.ref tA))=σ.set iy (some vh):=by
  apply List.ext_getElem?
  intro m
  by_cases e:m=ix
  ·subst e;rw[zAV (by rw[zBK];exact xs'),sx5]
  ·rw[zAN (Ne.symm e)]
 rw[es]at relF
 refine thn (hr pins s5' _ H9 (W7.drop ix) _ Q I9 relF (fun a o h=>by show W7.S a;rw[S7];exact .inl (s0 a o h)) (ht zs')) fun f s6 ⟨w,v',d,σ2,H2,e,I2,rv,sm,hdd,qd⟩=>⟨w,v',d,σ2,H2,e,I2,rv,sm,hdd.fewer fun t a z=>?_,qd⟩
 rcases z with z|⟨z1,z2⟩
 ·exact .inl (by show W7.B a;rw[B7];exact z)
 ·exact .inr ⟨z1,by show W7.S a;rw[S7];exact .inl z2⟩
end
end PD
namespace LW
open PySem PySem.Spec PyProof.Rows L2 PD
seal PD.cT PD.PSD PD.PED PD.PTD PD.PWD PD.PAD PD.PID PD.PGD PD.qZ PD.TsD PD.PEF PD.PKD PD.PPD PD.PDO PD.PFL PD.PPK PD.PEK
local macro_rules | `(tactic| walk_at "sc") => `(tactic| exact ⟨rfl, rfl, rfl, by decide +kernel, rfl, by decide +kernel, by decide +kernel⟩)
def top(i:Nat):Stmt:=PySem.Challenge.pw_halvecut_k41_hulls_about_a_place.main.body.getD i (.Pass ⟨0,0,0,0⟩)
abbrev tH:Stmt:=top 5
abbrev fi:Stmt:=top 6
abbrev ky:Stmt:=top 7
abbrev lJ:Stmt:=top 8
abbrev mq:Stmt:=top 9
abbrev pN:Stmt:=top 11
abbrev tG:Stmt:=top 12
abbrev lE:Stmt:=top 14
abbrev m8:Stmt:=top 15
abbrev pL:Stmt:=top 17
abbrev kz:Stmt:=top 18
abbrev pM:Stmt:=top 19
abbrev pJ:Stmt:=top 20
abbrev tI:Stmt:=top 21
abbrev tF:Stmt:=top 22
abbrev lH:Stmt:=top 23
abbrev pK:Stmt:=top 25
abbrev oo:Stmt:=top 26
abbrev ic:Stmt:=top 27
abbrev ku:Stmt:=top 28
abbrev m9:Stmt:=top 30
abbrev gh:Stmt:=top 31
abbrev fh:Stmt:=top 32
abbrev cJ:Stmt:=top 33
abbrev lD:Stmt:=top 34
abbrev gS:Stmt:=top 36
abbrev fL:Stmt:=top 38
abbrev jj:Stmt:=top 39
abbrev m7:Stmt:=top 40
abbrev eI:Stmt:=top 45
abbrev dU:Stmt:=top 47
abbrev jD:Stmt:=top 49
abbrev h9:Stmt:=top 50
abbrev ib:Stmt:=top 51
abbrev i7:Stmt:=top 52
abbrev gn:Stmt:=top 53
abbrev eW:Stmt:=top 54
abbrev kv:Stmt:=top 55
abbrev jC:Stmt:=top 56
abbrev kx:Stmt:=top 57
abbrev lF:Stmt:=top 58
abbrev fK:Stmt:=top 59
theorem BW:aC ["number"] ["number"] (au tH):=by walk_at "sc"
theorem cO:aC ["one", "other", "rest"] ["one", "other"] (au fi):=by walk_at "sc"
theorem jk:aC ["numbers", "divisor", "number"] ["numbers"] (au ky):=by walk_at "sc"
theorem kB:aC ["triple", "lead", "divisor"] ["triple", "lead"] (au lJ):=by walk_at "sc"
theorem fk:aC ["count", "size", "found", "length", "longer", "pick", "first"] ["count", "size"] (au mq):=by walk_at "sc"
theorem Aj:aC ["gauge", "place"] ["gauge", "place"] (au pN):=by walk_at "sc"
theorem BV:aC ["gauge", "place"] ["gauge", "place"] (au tG):=by walk_at "sc"
theorem wD:aC ["one", "other"] ["one", "other"] (au lE):=by walk_at "sc"
theorem yj:aC ["place", "way"] ["place", "way"] (au m8):=by walk_at "sc"
theorem Ah:aC ["by", "x", "y"] ["by", "x", "y"] (au pL):=by walk_at "sc"
theorem ug:aC ["spot"] ["spot"] (au kz):=by walk_at "sc"
theorem Ai:aC ["one", "two", "three"] ["one", "two", "three"] (au pM):=by walk_at "sc"
theorem Ag:aC ["one", "other"] ["one", "other"] (au pJ):=by walk_at "sc"
theorem BX:aC ["one", "other"] ["one", "other"] (au tI):=by walk_at "sc"
theorem BU:aC ["way"] ["way"] (au tF):=by walk_at "sc"
theorem wF:aC ["way"] ["way"] (au lH):=by walk_at "sc"
theorem nc:aC ["places", "kept", "each"] ["places"] (au pK):=by walk_at "sc"
theorem u4:aC ["spots", "places"] ["spots"] (au oo):=by walk_at "sc"
theorem gr:aC ["one", "other", "along", "across"] ["one", "other"] (au ic):=by walk_at "sc"
theorem yh:aC ["corners"] ["corners"] (au ku):=by walk_at "sc"
theorem yn:aC ["way"] ["way"] (au m9):=by walk_at "sc"
theorem ot:aC ["one", "other"] ["one", "other"] (au gh):=by walk_at "sc"
theorem mB:aC ["one", "other"] ["one", "other"] (au fh):=by walk_at "sc"
theorem dA:aC ["one", "two", "three", "turns"] ["one", "two", "three"] (au cJ):=by walk_at "sc"
theorem wC:aC ["ways"] ["ways"] (au lD):=by walk_at "sc"
theorem fN:aC ["spots", "place", "ways", "size", "numbers", "shares"] ["spots", "place"] (au gS):=by walk_at "sc"
theorem fq:aC ["one", "other", "gauge", "here", "there"] ["one", "other", "gauge"] (au fL):=by walk_at "sc"
theorem fM:aC ["corners", "gauge", "kept", "index", "one", "other"] ["corners", "gauge"] (au jj):=by walk_at "sc"
theorem lK:aC ["corners", "gauges", "gauge"] ["corners", "gauges"] (au m7):=by walk_at "sc"
theorem dF:aC ["lists", "found", "index", "spots"] ["lists"] (au eI):=by walk_at "sc"
theorem de:aC ["lists", "owned", "gauges", "first", "shared"] ["lists"] (au dU):=by walk_at "sc"
theorem tJ:aC ["_law_found"] ["_law_found"] (au jD):=by walk_at "sc"
theorem pO:aC ["_law_script", "_law_k"] ["_law_script", "_law_k"] (au h9):=by walk_at "sc"
theorem eJ:aC ["_law_one", "_law_other", "_law_here", "_law_there"] ["_law_one", "_law_other"] (au ib):=by walk_at "sc"
theorem dg:aC ["_law_cell", "_law_many", "_law_found", "_law_number", "_law_k"] ["_law_cell", "_law_many"] (au i7):=by walk_at "sc"
theorem ow:aC ["_law_found"] ["_law_found"] (au gn):=by walk_at "sc"
theorem pP:aC ["_law_found"] ["_law_found"] (au eW):=by walk_at "sc"
theorem bD:aC ["_law_part_here", "_law_spots", "_law_here", "_law_k", "_law_right", "_law_above", "_law_part_of_all", "_law_by", "_law_number", "_law_share"] ["_law_part_here", "_law_spots", "_law_here"] (au kv):=by walk_at "sc"
theorem dW:aC ["_law_middle_spot", "_law_number", "_law_far", "_law_u", "_law_w", "_law_x", "_law_y"] ["_law_middle_spot", "_law_number", "_law_far"] (au jC):=by walk_at "sc"
theorem bE:aC ["_law_script", "_law_first", "_law_far", "_law_xs", "_law_spot", "_law_sets_here", "_law_k", "_law_cell", "_law_found", "_law_j", "_law_at"] ["_law_script"] (au kx):=by walk_at "sc"
theorem kA:aC ["_law_found", "_law_sets_here", "_law_part_here", "_law_spots"] ["_law_found", "_law_sets_here"] (au lF):=by walk_at "sc"
theorem jQ:aC ["_law_script", "_law_sets_here", "_law_handed", "_law_found", "_law_held", "_law_second"] ["_law_script"] (au fK):=by walk_at "sc"
structure Cls where
 PlaneError:Addr
 NoPlace:Addr
 TooFew:Addr
structure COk(K:PySem.W.Frag)(mg:Str->Option Value)(κ:Cls):Prop where
 mg_PlaneError:mg "PlaneError" = some (.ref κ.PlaneError)
 mg_NoPlace:mg "NoPlace" = some (.ref κ.NoPlace)
 mg_TooFew:mg "TooFew" = some (.ref κ.TooFew)
def sg(n:Int):Int:=if 0<n then 1 else if n<0 then -1 else 0
def rk(a0 a1 a2 b0 b1 b2:Int):Int:=if sg (a1*b0 - b1*a0)=0 then sg (a2*b0 - b2*a0)else sg (a1*b0 - b1*a0)
def sw(a0 a1 a2 b0 b1 b2 c0 c1 c2:Int):Int:=a0*(b1*c2 - c1*b2)+b0*(c1*a2 - a1*c2)+c0*(a1*b2 - b1*a2)
structure Pl(n:Nat)(a b c:Int):Prop where
 pos:0<a
 low:PM.g3 a b c=1
 b0:Bd n a
 b1:Bd n b
 b2:Bd n c
theorem iD{d k x y z:Int}(h1:d∣k*x)(h2:d∣k*y)(h3:d∣k*z)(hg:PM.g3 x y z=1):d∣k:=by
 have e1:d∣(Int.gcd (k*x) (k*y):Int):=zCS h1 h2
 rw[zCf]at e1
 have e2:d∣k*(Int.gcd x y:Int):=by
  have:((k.natAbs*Int.gcd x y:Nat):Int)∣k*(Int.gcd x y:Int):=by
   rw[Int.natCast_mul]
   exact zCr (Int.natAbs_dvd.mpr (zBz _)) (zBz _)
  exact zCG e1 this
 have e3:d∣(Int.gcd (k*(Int.gcd x y:Int)) (k*z):Int):=zCS e2 h3
 rw[zCf]at e3
 have e4:Int.gcd (Int.gcd x y:Int) z=1:=hg
 rw[e4,Nat.mul_one]at e3
 exact zCG e3 (Int.natAbs_dvd.mpr (zBz _))
abbrev Sp:=Int×Int
def spD(p:Sp):D:=.tup [.int p.1,.int p.2]
theorem bS{p q:Sp}(h:spD p=spD q):p=q:=by
 unfold spD at h
 simp only[D.tup.injEq,zAL,D.int.injEq,and_true]at h
 exact zBe h.1 h.2
theorem gW{α:Type}{f:α->D}(hf:∀{p q},f p=f q->p=q):∀{ps qs:List α},ps.map f=qs.map f->ps=qs
 |[],[],_=>rfl
 |[],_::_,h=>by simp at h
 |_::_,[],h=>by simp at h
 |p::ps,q::qs,h=>by
  simp only[zAK,zAL]at h
  rw[hf h.1,gW hf h.2]
theorem jU{ps qs:List Sp}(h:ps.map spD=qs.map spD):ps=qs:=gW bS h
theorem ft(p:Sp):aM (spD p)=spD p:=by unfold spD;simp only[cL,bF,bN,dY]
theorem fY(ps:List Sp):aX (ps.map spD)=ps.map spD:=da spD ft ps
def plS(p:Sp):D:=.tup [.int 1,.int p.1,.int p.2]
theorem pE{p q:Sp}(h:plS p=plS q):p=q:=by
 unfold plS at h
 simp only[D.tup.injEq,zAL,D.int.injEq,and_true,true_and]at h
 exact zBe h.1 h.2
theorem uT{ps qs:List Sp}(h:ps.map plS=qs.map plS):ps=qs:=gW pE h
theorem dZ(p:Sp):aM (plS p)=plS p:=by unfold plS;simp only[cL,bF,bN,dY]
theorem iL(ps:List Sp):aX (ps.map plS)=ps.map plS:=da plS dZ ps
def cr(a b e:Sp):Int:=sw 1 a.1 a.2 1 b.1 b.2 1 e.1 e.2
def b6:List Sp->Sp->List Sp
 |b::a::r,e=>if cr a b e<=0 then b6 (a::r) e else b::a::r
 |l,_=>l
def bB:List Sp->List Sp->List Sp
 |acc,[]=>acc
 |acc,e::es=>bB (e::b6 acc e) es
theorem mC(x:Sp):∀(acc done:List Sp),bB acc (done++[x])=x::b6 (bB acc done) x
 |acc,[]=>rfl
 |acc,e::es=>by
  show bB (e::b6 acc e) (es++[x])=_
  rw[mC x _ es]
  rfl
theorem mY:∀(st:List Sp) (e:Sp),∃pre,st=pre++b6 st e
 |[],e=>⟨[],rfl⟩
 |[b],e=>⟨[],rfl⟩
 |b::a::r,e=>by
  unfold b6
  split
  ·obtain⟨pre,q⟩:=mY (a::r) e
   exact⟨b::pre,by rw[zAe,<- q]⟩
  ·exact⟨[],rfl⟩
theorem zW(st:List Sp)(e:Sp):(b6 st e).length<=st.length:=by
 obtain⟨pre,q⟩:=mY st e
 have:=congrArg List.length q
 rw[zAO]at this
 omega
theorem wY{α:Type}(xs:List α)(u v:α):atI (xs++[u]++[v]) (-2)=some u:=by
 have:=bA (xs:=xs++[u]++[v]) (j:=xs.length) (v:=u) (by simp)
 unfold atI at this ⊢
 rw[show ixN (xs++[u]++[v]).length (-2)=some xs.length by unfold ixN;simp;omega]
 simp
theorem fm{a b:Int}(hb:0<b):0<=a.fmod b/\a.fmod b<b:=⟨zCZ a hb,Int.fmod_lt_of_pos a hb⟩
def spK(p:Sp):List Int:=[p.1,p.2]
theorem AN(ps:List Sp):ps.map spD=(ps.map spK).map PD.tupI:=by rw[zAo];rfl
def cn(ys ps:List Sp):Prop:=ys.Pairwise (fun p q=>p.1<q.1∨(p.1=q.1/\p.2<q.2))/\∀p,p∈ys↔p∈ps
theorem ya{zs:List (List Int)}{ps:List Sp}(h:PD.wU zs (ps.map spK)):∃ys:List Sp,zs=ys.map spK/\cn ys ps:=by
 obtain⟨h1,h2⟩:=h
 have hall:∀z∈zs,∃p:Sp,z=spK p:=fun z hz=>by
  obtain⟨p,_,e⟩:=zAQ.mp ((h2 z).mp hz)
  exact⟨p,e.symm⟩
 have ex:∃ys:List Sp,zs=ys.map spK:=by
  clear h1 h2
  induction zs with
  |nil=>exact⟨[],rfl⟩
  |cons z zs ih =>
   obtain⟨p,e⟩:=hall z zAY
   obtain⟨ys,e2⟩:=ih fun z hz=>hall z (zAD _ hz)
   exact⟨p::ys,by rw[e,e2];rfl⟩
 obtain⟨ys,rfl⟩:=ex
 have inj:∀{p q:Sp},spK p=spK q->p=q:=fun {p q} e=>by
  unfold spK at e
  simp only[zAL,and_true]at e
  exact zBe e.1 e.2
 refine⟨ys,rfl,?_,fun p=>?_⟩
 ·refine(List.pairwise_map.mp h1).imp fun {p q} e=>?_
  unfold spK SW.lexLt at e
  split at e
  ·rename_i e1
   unfold SW.lexLt at e
   split at e
   ·cases e
   ·exact .inr ⟨e1,by simpa using e⟩
  ·exact .inl (by simpa using e)
 ·constructor
  ·intro hp
   obtain⟨q,hq,e⟩:=zAQ.mp ((h2 (spK p)).mp (zAQ.mpr ⟨p,hp,rfl⟩))
   rw[<- inj e];exact hq
  ·intro hp
   obtain⟨q,hq,e⟩:=zAQ.mp ((h2 (spK p)).mpr (zAQ.mpr ⟨p,hp,rfl⟩))
   rw[<- inj e];exact hq
theorem rJ(xs:List D):PD.cutD xs none (some (-1))=xs.dropLast:=by
 unfold PD.cutD
 rw[List.dropLast_eq_take]
 have e0:HT.sIx xs.length 0 none=0:=rfl
 have e1:HT.sIx xs.length xs.length (some (-1))=xs.length - 1:=by
  unfold HT.sIx
  cases xs with
  |nil=>rfl
  |cons x xs=>simp;omega
 rw[e0,e1]
 simp
theorem fg:∀(acc ps:List Sp),(bB acc ps).length<=acc.length+ps.length
 |acc,[]=>zAM _
 |acc,e::es=>by
  have:=fg (e::b6 acc e) es
  have h2:=zW acc e
  show(bB (e::b6 acc e) es).length<=_
  simp at this ⊢
  omega
theorem xG:∀{ys ps:List Sp},ys.Nodup->(∀p∈ys,p∈ps)->ys.length<=ps.length
 |[],_,_,_=>zAk _
 |y::ys,ps,nd,h=>by
  obtain⟨n1,n2⟩:=zBh.mp nd
  have m:=h y zAY
  have r:=xG (ps:=ps.erase y) n2 fun p hp=>(List.mem_erase_of_ne (fun e=>by subst e;exact n1 hp)).mpr (h p (zAD _ hp))
  rw[List.length_erase_of_mem m]at r
  have:0<ps.length:=List.length_pos_of_mem m
  rw[zAb]
  omega
theorem mZ{ys ps:List Sp}(h:cn ys ps):ys.length<=ps.length:=by
 have nd:ys.Nodup:=h.1.imp fun {p q} c e=>by subst e;omega
 exact xG nd fun p hp=>(h.2 p).mp hp
def aH(ys:List Sp):List Sp:=(bB [] ys).reverse
def aL(ys:List Sp):List Sp:=if ys.length<2 then ys else(aH ys).dropLast++(aH ys.reverse).dropLast
theorem yT{α:Type}{wi:DA}{js:List Nat}{te:DE}{ρ:Ro}{Q:D->Prop}{P:List α->Prop}(f g:α->D)(hw:∀R:List D->Prop,(∀ys,P ys->R (ys.map f))->wi ρ R)(hz:∀ys,P ys->ys.length<=sizeLine)
  (he:∀ys,P ys->∀x∈ys,∀K:D->Prop,K (g x)->te (some (.val (f x))::js.map (bg ρ)) K) (q:∀ys,P ys->Q (.lst true (ys.map g))):jd wi js kU te ρ Q:=by
 refine hw _ fun ys hy=>?_
 have:=PD.comp_map (wi:=fun _ R=>R (ys.map f)) (js:=js) (tc:=kU) (te:=te) (ρ:=ρ) (Q:=Q) ys f (fun _=>true) g (fun R h=>h) (hz ys hy) (fun x hx K k=>k) (fun x hx _ K k=>he ys hy x hx K k) (by rw[zA8.mpr (fun _ _=>rfl)];exact q ys hy)
 exact this
structure SB(p:Sp):Prop where
 x:Bd 60 p.1
 y:Bd 60 p.2
def fe(p q:Sp):Prop:=p.1<q.1∨(p.1=q.1/\p.2<q.2)
theorem bT(a b e:Sp):cr a b e=(b.1 - a.1)*(e.2 - a.2) - (b.2 - a.2)*(e.1 - a.1):=by
 unfold cr sw
 grind
def fA(A B:Int)(p:Sp):Int:=A*p.1+B*p.2
def cx(a b c d:Sp):Int:=(b.1 - a.1)*(d.2 - c.2) - (b.2 - a.2)*(d.1 - c.1)
theorem vB(A B:Int)(a b c d e g:Sp):cx a b e g*(fA A B d - fA A B c)=cx c d e g*(fA A B b - fA A B a)+cx a b c d*(fA A B g - fA A B e):=by
 unfold cx fA
 grind
theorem zZ{x y:Int}(h:0<x*y)(hy:0<y):0<x:=by
 by_cases c:0<x
 ·exact c
 ·have:=zAc (show 0<=-x by omega) (zAd hy)
  rw[zA3]at this
  omega
theorem Di{x y:Int}(h:0<=x*y)(hy:0<y):0<=x:=by
 by_cases c:0<=x
 ·exact c
 ·have:=zBa (show 0 < -x by omega) hy
  rw[zA3]at this
  omega
theorem Ay{A B:Int}{a b c d e g:Sp}(h1:fA A B a<fA A B b)(h2:fA A B c<fA A B d)(h3:fA A B e<fA A B g)(p:0<cx a b c d)(q:0<=cx c d e g):0<cx a b e g:=by
 have i:=vB A B a b c d e g
 have u:=zAc q (show 0<=fA A B b - fA A B a by omega)
 have v:=zBa p (show 0<fA A B g - fA A B e by omega)
 exact zZ (y:=fA A B d - fA A B c) (by omega) (by omega)
theorem Ax{A B:Int}{a b c d e g:Sp}(h1:fA A B a<fA A B b)(h2:fA A B c<fA A B d)(h3:fA A B e<fA A B g)(p:0<=cx a b c d)(q:0<cx c d e g):0<cx a b e g:=by
 have i:=vB A B a b c d e g
 have u:=zBa q (show 0<fA A B b - fA A B a by omega)
 have v:=zAc p (show 0<=fA A B g - fA A B e by omega)
 exact zZ (y:=fA A B d - fA A B c) (by omega) (by omega)
theorem D7{A B:Int}{a b c d e g:Sp}(h1:fA A B a<fA A B b)(h2:fA A B c<fA A B d)(h3:fA A B e<fA A B g)(p:0<=cx a b c d)(q:0<=cx c d e g):0<=cx a b e g:=by
 have i:=vB A B a b c d e g
 have u:=zAc q (show 0<=fA A B b - fA A B a by omega)
 have v:=zAc p (show 0<=fA A B g - fA A B e by omega)
 exact Di (y:=fA A B d - fA A B c) (by omega) (by omega)
theorem cx1(a b e:Sp):cr a b e=cx a b a e:=by rw[bT];rfl
theorem cx2(a b e:Sp):cr a b e=cx a b b e:=by rw[bT];unfold cx;grind
theorem cx3(a b e:Sp):cr a b e=cx a e b e:=by rw[bT];unfold cx;grind
theorem cx4(a b e:Sp):cr a b e=cx e a a b:=by rw[bT];unfold cx;grind
theorem cx5(a b e:Sp):cr a b e=cx e b a b:=by rw[bT];unfold cx;grind
theorem A4(a b c d:Sp):cx a b c d=- cx c d a b:=by unfold cx;grind
theorem Cu(a b:Sp):cr a b a=0:=by rw[bT];grind
theorem Cv(a b:Sp):cr a b b=0:=by rw[bT];grind
structure ChI(A B:Int)(st done:List Sp):Prop where
 e2:∀b a r,(b::a::r) <:+ st->∀p∈done,0<=cr a b p
 e3:∀c b a r,(c::b::a::r) <:+ st->0<cr a b c
 ord:st.Pairwise fun b a=>fA A B a<fA A B b
 mem:∀p∈st,p∈done
 top:∀b r,st=b::r->∀p∈done,fA A B p<=fA A B b
 bot:done ≠ []->∃pre a,st=pre++[a]/\∀p∈done,fA A B a<=fA A B p
theorem wL{b a:Sp}{r st:List Sp}(h:b::a::r <:+ st){R:Sp->Sp->Prop}(o:st.Pairwise R):R b a:=by
 obtain⟨pre,rfl⟩:=h
 exact(zAp.mp (zCk.mp o).2.1).1 a zAY
theorem xZ{A B:Int}{st0 done:List Sp}{x:Sp}(I:ChI A B st0 done)(hx:∀p∈done,fA A B p<fA A B x):∀(st:List Sp),st <:+ st0->(∀b r,st=b::r->∀p∈done,fA A B b<fA A B p->0<=cr b x p) →
  (∀b a r,b6 st x=b::a::r->0<cr a b x)/\(∀b r,b6 st x=b::r->∀p∈done,fA A B b<fA A B p->0<=cr b x p)
 |[],_,h=>⟨fun b a r e=>(by cases e),fun b r e=>(by cases e)⟩
 |[b],_,h=>⟨fun b a r e=>(by cases e),h⟩
 |b::a::r,s,h=>by
  unfold b6
  split
  ·rename_i c
   refine xZ I hx (a::r) (List.IsSuffix.trans (List.suffix_cons _ _) s) fun b' r' e p hp lt=>?_
   cases e
   have o:=wL s I.ord
   have e2:=I.e2 b a r s p hp
   have xa:=hx a (I.mem a (s.subset (by simp)))
   rw[cx1]at e2 c ⊢
   rw[A4]at c
   exact D7 xa o lt (by omega) e2
  ·rename_i c
   refine⟨fun b' a' r' e=>?_,h⟩
   cases e
   omega
theorem far{A B:Int}{st0 done:List Sp}{x:Sp}(I:ChI A B st0 done)(hx:∀p∈done,fA A B p<fA A B x):∀(st:List Sp),st <:+ st0->(∀b a r,st=b::a::r->0<cr a b x)->∀b a r,b::a::r <:+ st->0<cr a b x
 |[],_,_=>fun b a r e=>by
  have:=e.length_le
  simp at this
 |b::st,s,h=>fun b1 a1 r1 e=>by
  rcases List.suffix_cons_iff.mp e with q|q
  ·exact h _ _ _ q.symm
  ·refine far I hx st (List.IsSuffix.trans (List.suffix_cons _ _) s) (fun a a0 r e'=>?_) b1 a1 r1 q
   subst e'
   have h1:=h _ _ _ rfl
   have h2:=I.e3 _ _ _ _ s
   have o1:=wL s I.ord
   have o2:=wL (List.IsSuffix.trans (List.suffix_cons _ _) s) I.ord
   have xa:=hx a (I.mem a (s.subset (by simp)))
   rw[cx2]at h2 ⊢
   rw[cx1]at h1
   exact Ay o2 o1 xa h2 (zAd h1)
theorem uU{x:Sp}:∀{st:List Sp},st ≠ []->b6 st x ≠ []
 |[],h=>absurd rfl h
 |[b],_=>by simp[b6]
 |b::a::r,_=>by
  unfold b6
  split
  ·exact uU (by simp)
  ·simp
theorem zB{A B:Int}{st done:List Sp}{x:Sp}(I:ChI A B st done)(hx:∀p∈done,fA A B p<fA A B x)(inj:∀p∈done,∀q∈done,fA A B p=fA A B q->p=q)(hn:done=[]->st=[]):ChI A B (x::b6 st x) (done++[x]):=by
 have s:b6 st x <:+ st:=by
  obtain⟨pre,q⟩:=mY st x
  exact⟨pre,q.symm⟩
 obtain⟨P1,P2⟩:=xZ I hx st (List.suffix_refl _) fun b r e p hp lt=>absurd (I.top b r e p hp) (by omega)
 have F:=far I hx _ s P1
 refine⟨fun b a r e p hp=>?_,fun c b a r e=>?_,?_,fun p hp=>?_,fun b r e p hp=>?_,fun _=>?_⟩
 ·rcases List.suffix_cons_iff.mp e with q|q
  ·injection q with q1 q2
   subst q1
   rcases zAI.mp hp with hp|hp
   ·rcases zB4 (fA A B p) (fA A B a)with c|c|c
    ·rcases r with _|⟨a0,r⟩
     ·obtain⟨pre,a',e1,h1⟩:=I.bot (List.ne_nil_of_mem hp)
      rw[<- q2]at s
      obtain⟨pre2,e2⟩:=s
      rw[e1]at e2
      have:=List.append_inj_right' e2 (by simp)
      simp at this
      have:=h1 p hp
      subst_vars
      omega
     ·have h1:=P1 _ _ _ q2.symm
      rw[<- q2]at s
      have h2:=I.e2 _ _ _ s p hp
      have o:=wL s I.ord
      have xa:=hx a (I.mem a (s.subset (by simp)))
      rw[cx2]at h1
      rw[cx5]at h2
      rw[cx4]
      exact zAd (Ax c o xa h2 h1)
    ·rw[inj p hp a (I.mem a (s.subset (by rw[<- q2];simp))) c,Cu]
     exact zA2 _
    ·exact P2 _ _ q2.symm p hp c
   ·rw[zAP.mp hp,Cv]
    exact zA2 _
  ·rcases zAI.mp hp with hp|hp
   ·exact I.e2 _ _ _ (q.trans s) p hp
   ·rw[zAP.mp hp]
    exact zAd (F _ _ _ q)
 ·rcases List.suffix_cons_iff.mp e with q|q
  ·injection q with q1 q2
   subst q1
   exact P1 _ _ _ q2.symm
  ·exact I.e3 _ _ _ _ (q.trans s)
 ·exact zAp.mpr ⟨fun a ha=>hx a (I.mem a (s.subset ha)),I.ord.sublist s.sublist⟩
 ·rcases zAC.mp hp with q|q
  ·rw[q];simp
  ·exact zAu _ (I.mem p (s.subset q))
 ·injection e with e1 e2
  subst e1
  rcases zAI.mp hp with q|q
  ·exact zAd (hx p q)
  ·rw[zAP.mp q];exact zA2 _
 ·by_cases d0:done=[]
  ·rw[hn d0,d0]
   exact⟨[],x,rfl,fun p hp=>by simp at hp;rw[hp];exact zA2 _⟩
  ·obtain⟨pre,a,e1,h1⟩:=I.bot d0
   obtain⟨pre2,e2⟩:=s
   have ne:b6 st x ≠ []:=uU (by rw[e1];simp)
   obtain⟨pre3,a3,e3⟩:∃pre3 a3,b6 st x=pre3++[a3]:=⟨_,_,(zBV ne).symm⟩
   have:a3=a:=by
    rw[e3,e1,<- zA7]at e2
    have:=List.append_inj_right' e2 (by simp)
    simpa using this
   subst this
   refine⟨x::pre3,a3,by rw[e3];rfl,fun p hp=>?_⟩
   rcases zAI.mp hp with q|q
   ·exact h1 p q
   ·rw[zAP.mp q]
    exact zAd (hx a3 (I.mem a3 (by rw[e1];simp)))
theorem qo{A B:Int}:∀(es st done:List Sp),ChI A B st done->(done=[]->st=[])->(done++es).Pairwise (fun p q=>fA A B p<fA A B q)->ChI A B (bB st es) (done++es)
 |[],st,done,I,_,_=>by rw[zA5];exact I
 |x::es,st,done,I,hn,o=>by
  obtain⟨o1,o2,o3⟩:=zCk.mp o
  have inj:∀(l:List Sp),l.Pairwise (fun p q=>fA A B p<fA A B q)->∀p∈l,∀q∈l,fA A B p=fA A B q->p=q:=by
   intro l
   induction l with
   |nil=>intro _ p hp;cases hp
   |cons y l ih =>
    intro o p hp q hq e
    obtain⟨u,v⟩:=zAp.mp o
    rcases zAC.mp hp with a|a<;>rcases zAC.mp hq with b|b
    ·rw[a,b]
    ·have:=u q b;rw[a]at e;omega
    ·have:=u p a;rw[b]at e;omega
    ·exact ih v p a q b e
  have:=qo es (x::b6 st x) (done++[x]) (zB I (fun p hp=>o3 p hp x zAY) (inj done o1) hn) (by simp) (by rw[zA7];exact o)
  rw[zA7]at this
  exact this
theorem Bo(A B:Int):ChI A B [] []:=⟨fun b a r e=>by have:=e.length_le;simp at this,fun c b a r e=>by have:=e.length_le;simp at this,.nil,fun p hp=>hp,fun b r e=>(by cases e),fun h=>absurd rfl h⟩
theorem C7{A B:Int}{ys:List Sp}(o:ys.Pairwise fun p q=>fA A B p<fA A B q):ChI A B (bB [] ys) ys:=by
 have:=qo ys [] [] (Bo A B) (fun _=>rfl) (by simpa using o)
 simpa using this
structure Way(A B:Int)(ps:List Sp)(n:Nat)(l:Nat->Sp):Prop where
 two:2<=n
 edge:∀i,i+1<n->∀p∈ps,0<=cr (l i) (l (i+1)) p
 bend:∀i,i+2<n->0<cr (l i) (l (i+1)) (l (i+2))
 rise:∀i j,i<j->j<n->fA A B (l i)<fA A B (l j)
 mem:∀i,i<n->l i∈ps
 lo:∀p∈ps,fA A B (l 0)<=fA A B p
 hi:∀p∈ps,fA A B p<=fA A B (l (n - 1))
theorem bR(A B:Int)(p:Sp):fA (-A) (-B) p=- fA A B p:=by unfold fA;grind
theorem An{A B:Int}{ps:List Sp}{n m:Nat}{l u:Nat->Sp}(L:Way A B ps (n+2) l)(U:Way (-A) (-B) ps (m+2) u)(hm:l (n+1)=u 0)(h:0<n+m):0<cr (l n) (l (n+1)) (u 1):=by
 have ol:=L.rise n (n+1) (zAx _) (zAx _)
 have ou:=U.rise 0 1 Nat.one_pos (zBX (zBC _))
 rw[bR,bR,Int.neg_lt_neg_iff]at ou
 rw[hm]at ol ⊢
 have g:cr (l n) (u 0) (u 1)=cx (u 1) (u 0) (l n) (u 0):=by rw[bT];unfold cx;grind
 rw[g]
 cases n with
 |succ a =>
  have b:=L.bend a (zAx _)
  have o:=L.rise a (a+2) (Nat.lt_add_of_pos_right (by decide)) (zAx _)
  have e:=U.edge 0 (zBX (zBC _)) (l a) (L.mem a (Nat.lt_add_of_pos_right (k:=3) (by decide)))
  have hm':l (a+2)=u 0:=hm
  rw[hm']at o b
  have e':cr (u 0) (u 1) (l a)=cx (u 1) (u 0) (l a) (u 0):=by rw[bT];unfold cx;grind
  rw[e']at e
  rw[cx3]at b
  exact Ax (A:=A) (B:=B) ou o ol e b
 |zero =>
  cases m with
  |zero=>exact absurd h (zBG _)
  |succ m =>
   have b:=U.bend 0 (zBX (zBX (zBC _)))
   have o:=U.rise 0 2 (by decide) (zBX (zBX (zBC _)))
   rw[bR,bR,Int.neg_lt_neg_iff]at o
   have e:=L.edge 0 (zAx _) (u 2) (U.mem 2 (zBX (zBX (zBC _))))
   have hm':l (0+1)=u 0:=hm
   rw[hm']at e
   have e':cr (l 0) (u 0) (u 2)=cx (u 2) (u 0) (l 0) (u 0):=by rw[bT];unfold cx;grind
   have b':cr (u 0) (u 1) (u 2)=cx (u 1) (u 0) (u 2) (u 0):=by rw[bT];unfold cx;grind
   rw[e']at e
   have b2:0<cx (u 1) (u 0) (u 2) (u 0):=by rw[<- b'];exact b
   exact Ay (A:=A) (B:=B) ou o ol b2 e
theorem uW{A B:Int}{ps:List Sp}{n m:Nat}{l u h:Nat->Sp}(L:Way A B ps (n+2) l)(U:Way (-A) (-B) ps (m+2) u)(eM:l (n+1)=u 0)(e0:u (m+1)=l 0)(h3:0<n+m)
  (hl:∀k,k<n+2->h k=l k) (hu:∀j,j<m+1->h (n+1+j)=u j):(∀k,k<n+m+2->∀p∈ps,0<=cr (h ((k+(n+m+2) - 1) % (n+m+2))) (h k) p)/\0<cr (h 0) (h 1) (h 2):=by
 refine⟨fun k hk p hp=>?_,?_⟩
 ·cases k with
  |zero =>
   have e:(0+(n+m+2) - 1) % (n+m+2)=n+1+m:=by
    rw[zA6]
    show(n+m+1) % (n+m+2)=_
    rw[zAg (zAx _),Nat.add_right_comm]
   rw[e,hu m (zAx _),hl 0 (zBC _),<- e0]
   exact U.edge m (zAx _) p hp
  |succ k =>
   have e:(k+1+(n+m+2) - 1) % (n+m+2)=k:=by
    rw[Nat.add_right_comm]
    show(k+(n+m+2)) % (n+m+2)=k
    rw[zCH,zAg (zCI hk)]
   rw[e]
   by_cases c:k+1<n+2
   ·rw[hl k (zCI c),hl (k+1) c]
    exact L.edge k c p hp
   ·obtain⟨j,rfl⟩:=Nat.le.dest (Nat.le_of_succ_le_succ (zBl c))
    have hj:j+1<m+1:=by omega
    rw[hu j (zCI hj),Nat.add_assoc,hu (j+1) hj]
    exact U.edge j (zBm hj) p hp
 ·cases n with
  |succ a =>
   have z:2<a+1+2:=zBX (zBX (zBC _))
   rw[hl 0 (zBC _),hl 1 (zCI z),hl 2 z]
   exact L.bend 0 z
  |zero =>
   have z:1<m+1:=by omega
   rw[hl 0 (by decide),hl 1 (by decide),show h 2=u 1 from hu 1 z]
   exact An L U eM h3
theorem oM{A B:Int}{ys:List Sp}(o:ys.Pairwise fun p q=>fA A B p<fA A B q)(h2:2<=ys.length):Way A B ys (aH ys).length fun i=>(aH ys).getD i (0,0):=by
 have I:=C7 o
 obtain⟨pre,a,e1,h1⟩:=I.bot (by intro e;rw[e]at h2;simp at h2)
 have len:2<=(aH ys).length:=by
  unfold aH
  rw[zA1,e1]
  rcases pre with _|⟨b,pre⟩
  ·exfalso
   have t:=I.top a [] (by simpa using e1)
   rcases ys with _|⟨y1,_|⟨y2,r⟩⟩
   ·simp at h2
   ·simp at h2
   ·have q:=(zAp.mp o).1 y2 (by simp)
    have q1:=h1 y1 (by simp)
    have q2:=t y2 (by simp)
    omega
  ·simp
 have sp1:∀i,i<(aH ys).length->(aH ys)[i]?=some ((aH ys).getD i (0,0)):=fun i hi=>by
  rw[zAG,zAB hi];rfl
 have st_eq:bB [] ys=(aH ys).reverse:=by unfold aH;rw[List.reverse_reverse]
 refine⟨len,fun i hi p hp=>?_,fun i hi=>?_,fun i j hij hj=>?_,fun i hi=>?_,fun p hp=>?_,fun p hp=>?_⟩
 ·refine I.e2 _ _ ((aH ys).take i).reverse ⟨((aH ys).drop (i+2)).reverse,?_⟩ p hp
  rw[st_eq]
  have q:=zBu i (aH ys)
  rw[zBQ (show i<(aH ys).length by omega),zBQ hi]at q
  have q2:=congrArg List.reverse q
  simp only[zAG,zAB (show i<(aH ys).length by omega),zAB hi,zB9]
  simpa only[List.reverse_append,zB5,zA7,zAe,zAv]using q2
 ·refine I.e3 _ _ _ ((aH ys).take i).reverse ⟨((aH ys).drop (i+3)).reverse,?_⟩
  rw[st_eq]
  have q:=zBu i (aH ys)
  rw[zBQ (show i<(aH ys).length by omega),zBQ (show i+1<(aH ys).length by omega),zBQ hi]at q
  have q2:=congrArg List.reverse q
  simp only[zAG,zAB (show i<(aH ys).length by omega),zAB (show i+1<(aH ys).length by omega),zAB hi,zB9]
  simpa only[List.reverse_append,zB5,zA7,zAe,zAv]using q2
 ·have o':(aH ys).Pairwise fun a b=>fA A B a<fA A B b:=by
   unfold aH
   exact List.pairwise_reverse.mpr I.ord
  have:=(zAy.mp o') i j (by omega) hj hij
  simp only[zAG,zAB (show i<(aH ys).length by omega),zAB hj,zB9]
  exact this
 ·refine I.mem _ ?_
  rw[st_eq,List.mem_reverse]
  exact zAT (sp1 i hi)
 ·have:(aH ys).getD 0 (0,0)=a:=by unfold aH;rw[e1];simp
  show fA A B ((aH ys).getD 0 (0,0))<=_
  rw[this]
  exact h1 p hp
 ·have e:=sp1 ((aH ys).length - 1) (by omega)
  generalize (aH ys).getD ((aH ys).length - 1) (0,0)=b at e ⊢
  refine I.top b (bB [] ys).tail ?_ p hp
  rw[<- zCs]at e
  unfold aH at e
  rw[List.getLast?_reverse]at e
  cases hc:bB [] ys with
  |nil=>rw[hc]at e;simp at e
  |cons x r=>rw[hc]at e;simp at e;rw[e];rfl
theorem sj{A B:Int}:∀{l:List Sp},l.Pairwise (fun p q=>fA A B p<fA A B q)->∀p∈l,∀q∈l,fA A B p=fA A B q->p=q
 |[],_,p,hp=>by cases hp
 |y::l,o,p,hp=>fun q hq e=>by
  obtain⟨u,v⟩:=zAp.mp o
  rcases zAC.mp hp with a|a<;>rcases zAC.mp hq with b|b
  ·rw[a,b]
  ·have:=u q b;rw[a]at e;omega
  ·have:=u p a;rw[b]at e;omega
  ·exact sj v p a q b e
theorem Way.to{A B:Int}{ps qs:List Sp}{n:Nat}{l:Nat->Sp}(h:∀p,p∈qs↔p∈ps)(W:Way A B ps n l):Way A B qs n l :=
 ⟨W.two,fun i hi p hp=>W.edge i hi p ((h p).mp hp),W.bend,W.rise,fun i hi=>(h _).mpr (W.mem i hi),fun p hp=>W.lo p ((h p).mp hp),fun p hp=>W.hi p ((h p).mp hp)⟩
theorem yQ:∀ys:List Sp,∃M:Int,0<M/\∀p∈ys,-M<p.2/\p.2<M
 |[]=>⟨1,by decide,fun p hp=>by cases hp⟩
 |y::ys=>by
  obtain⟨M,h0,h⟩:=yQ ys
  refine⟨M+y.2.natAbs+1,by omega,fun p hp=>?_⟩
  rcases zAC.mp hp with q|q
  ·rw[q];omega
  ·have:=h p q;omega
theorem nZ{M:Int}{p q:Sp}(h0:0<M)(hp:-M<p.2/\p.2<M)(hq:-M<q.2/\q.2<M)(h:fe p q):fA (2*M) 1 p<fA (2*M) 1 q:=by
 unfold fA
 rcases h with h|⟨h1,h2⟩
 ·have:=Int.mul_le_mul_of_nonneg_left (show p.1+1<=q.1 by omega) (show 0<=2*M by omega)
  rw[Int.mul_add]at this
  omega
 ·rw[h1];omega
def bC(hs:List Sp)(k:Nat):Sp:=hs.getD ((k+hs.length - 1) % hs.length) (0,0)
structure jW(hs ps:List Sp):Prop where
 mem:∀p∈hs,p∈ps
 len:hs.length<=2*ps.length
 some_:ps ≠ []->∃a r,hs=a::r/\∀p∈ps,¬fe p a
 one:∀a,hs=[a]->∀p∈ps,p=a
 two:∀a b,hs=[a,b]->a≠b/\∀p∈ps,cr a b p=0/\¬fe b p
 edge:2<hs.length->∀k,k<hs.length->∀p∈ps,0<=cr (bC hs k) (hs.getD k (0,0)) p
 bend:2<hs.length->0<cr (hs.getD 0 (0,0)) (hs.getD 1 (0,0)) (hs.getD 2 (0,0))
theorem dQ{ys ps:List Sp}(h:cn ys ps):jW (aL ys) ps:=by
 have yl:=mZ h
 obtain⟨o,hm⟩:=h
 unfold aL
 by_cases c:ys.length<2
 ·rw[if_pos c]
  refine⟨fun p hp=>(hm p).mp hp,by omega,fun e=>?_,fun a e p hp=>?_,fun a b e=>?_,fun q=>absurd q (by omega),fun q=>absurd q (by omega)⟩
  ·rcases ys with _|⟨y,_|⟨z,r⟩⟩
   ·cases ps with
    |nil=>exact absurd rfl e
    |cons y r=>have:=(hm y).mpr zAY;cases this
   ·refine⟨y,[],rfl,fun p hp=>?_⟩
    have:=(hm p).mpr hp
    rw[zAP.mp this]
    exact fun q=>q.elim (zBT _) fun q=>zBT _ q.2
   ·exact absurd c (by simp)
  ·have:=(hm p).mpr hp
   rw[e]at this
   exact zAP.mp this
  ·rw[e]at c;simp at c
 ·rw[if_neg c]
  obtain⟨M,M0,hM⟩:=yQ ys
  have oF:ys.Pairwise fun p q=>fA (2*M) 1 p<fA (2*M) 1 q:=by
   refine List.Pairwise.imp_of_mem ?_ o
   intro p q hp hq h
   exact nZ M0 (hM p hp) (hM q hq) h
  have oB:ys.reverse.Pairwise fun p q=>fA (-(2*M)) (-1) p<fA (-(2*M)) (-1) q:=by
   refine List.pairwise_reverse.mpr (oF.imp ?_)
   intro p q h
   rw[bR,bR]
   exact Int.neg_lt_neg h
  have L:=(oM oF (zBl c)).to (qs:=ps) fun p=>(hm p).symm
  have U:=(oM oB (by rw[zA1];exact zBl c)).to (qs:=ps) fun p=>by rw[List.mem_reverse];exact(hm p).symm
  have ll:(aH ys).length<=ys.length:=by
   have:=fg [] ys
   unfold aH
   rw[zA1]
   simpa using this
  have lu:(aH ys.reverse).length<=ys.length:=by
   have:=fg [] ys.reverse
   unfold aH
   rw[zA1]
   simpa using this
  generalize aH ys=l at L ll ⊢
  generalize aH ys.reverse=u at U lu ⊢
  have inj:∀p∈ps,∀q∈ps,fA (2*M) 1 p=fA (2*M) 1 q->p=q:=fun p hp q hq e=>sj oF p ((hm p).mpr hp) q ((hm q).mpr hq) e
  have nl:∀p∈ps,∀q∈ps,fA (2*M) 1 p<=fA (2*M) 1 q->¬fe q p:=fun p hp q hq e x =>
   Int.not_le_of_gt (nZ M0 (hM q ((hm q).mpr hq)) (hM p ((hm p).mpr hp)) x) e
  generalize 2*M=A at L U inj nl
  clear oF oB hM M0 o hm
  obtain⟨n,hn⟩:∃n,l.length=n+2:=⟨l.length - 2,by have:=L.two;omega⟩
  obtain⟨m,hm⟩:∃m,u.length=m+2:=⟨u.length - 2,by have:=U.two;omega⟩
  have hl:(l.dropLast++u.dropLast).length=n+m+2:=by
   rw[zAO,zBA,zBA,hn,hm]
   show n+1+(m+1)=_
   omega
  have memD:∀{w:List Sp} {x:Sp},x∈w.dropLast->x∈w:=fun {w x} hx=>(List.dropLast_sublist w).subset hx
  have gm:∀{w:List Sp} {i:Nat} (hi:i<w.length),w.getD i (0,0)=w[i]:=fun {w i} hi=>by
   rw[zAG,zAB hi];rfl
  rw[hn]at L
  rw[hm]at U
  have eM:l.getD (n+1) (0,0)=u.getD 0 (0,0):=by
   have m1:=L.mem (n+1) (zAx _)
   have m2:=U.mem 0 (zBC _)
   have a1:=L.hi _ m2
   have a2:=U.lo _ m1
   rw[bR,bR]at a2
   exact inj _ m1 _ m2 (zCT (zCg a2) a1)
  have e0:u.getD (m+1) (0,0)=l.getD 0 (0,0):=by
   have m1:=L.mem 0 (zBC _)
   have m2:=U.mem (m+1) (zAx _)
   have a1:=L.lo _ m2
   have a2:=U.hi _ m1
   rw[bR,bR]at a2
   exact inj _ m2 _ m1 (zCT (zCg a2) a1)
  have gu:∀j,j<m+1->(l.dropLast++u.dropLast).getD (n+1+j) (0,0)=u.getD j (0,0):=fun j hj=>by
   have ld:l.dropLast.length=n+1:=by rw[zBA,hn];rfl
   rw[zAG,zAG,zAf (by rw[ld];exact zCl _ _),ld,Nat.add_sub_cancel_left,zCa,hm,if_pos (show j<m+2 - 1 from hj)]
  have gl:∀k,k<n+2->(l.dropLast++u.dropLast).getD k (0,0)=l.getD k (0,0):=fun k hk=>by
   rcases Nat.lt_or_eq_of_le (Nat.le_of_lt_succ hk)with z|z
   ·rw[zAG,zAG,zAq (by rw[zBA,hn];exact z),zCa,hn,if_pos (show k<n+2 - 1 from z)]
   ·rw[z,eM]
    exact gu 0 (zBC _)
  have a0:=gl 0 (zBC _)
  refine⟨fun p hp=>?_,by rw[hl];omega,fun e=>?_,fun a e=>?_,fun a b e=>?_,fun q=>?_,fun q=>?_⟩
  ·rcases zAI.mp hp with z|z
   ·obtain⟨i,hi,e⟩:=List.mem_iff_getElem.mp (memD z)
    rw[<- e,<- gm hi]
    exact L.mem i (by rw[<- hn];exact hi)
   ·obtain⟨i,hi,e⟩:=List.mem_iff_getElem.mp (memD z)
    rw[<- e,<- gm hi]
    exact U.mem i (by rw[<- hm];exact hi)
  ·cases hh:l.dropLast++u.dropLast with
   |nil=>rw[hh]at hl;exact absurd hl (by simp)
   |cons a r =>
    rw[hh]at a0
    refine⟨a,r,rfl,fun p hp=>?_⟩
    rw[show a=l.getD 0 (0,0)from a0]
    exact nl _ (L.mem 0 (zBC _)) p hp (L.lo p hp)
  ·rw[e]at hl;simp at hl
  ·have nm:n=0/\m=0:=by rw[e]at hl;simp at hl;omega
   obtain⟨rfl,rfl⟩:=nm
   have g1:=gl 1 (by decide)
   rw[e]at a0 g1
   have g0':a=l.getD 0 (0,0):=a0
   have g1':b=l.getD 1 (0,0):=g1
   have eM':l.getD 1 (0,0)=u.getD 0 (0,0):=eM
   have e0':u.getD 1 (0,0)=l.getD 0 (0,0):=e0
   refine⟨fun ab=>?_,fun p hp=>?_⟩
   ·have:=L.rise 0 1 (by decide) (by decide)
    rw[<- g0',<- g1',ab]at this
    exact zBT _ this
   ·have x1:=L.edge 0 (by decide) p hp
    have x2:=U.edge 0 (by decide) p hp
    have x3:=L.hi p hp
    have x1':0<=cr a b p:=by rw[g0',g1'];exact x1
    have x2':0<=cr b a p:=by rw[g1',eM',g0',<- e0'];exact x2
    have x3':fA A 1 p<=fA A 1 b:=by rw[g1'];exact x3
    have an:cr b a p=- cr a b p:=by rw[bT,bT];grind
    refine⟨by omega,nl p hp b ?_ x3'⟩
    rw[g1']
    exact L.mem 1 (by decide)
  ·intro k hk p hp
   rw[hl]at hk q
   have R:=(uW L U eM e0 (by omega) gl gu).1 k hk p hp
   unfold bC
   rw[hl]
   exact R
  ·rw[hl]at q
   exact(uW L U eM e0 (by omega) gl gu).2
theorem rz{α:Type}(xs:List α)(j b:Nat)(hj:j<xs.length)(hb:b<=xs.length):atI xs ((j:Int) - (b:Int))=xs[(j+xs.length - b) % xs.length]?:=by
 unfold atI ixN
 by_cases c:b<=j
 ·rw[if_pos (by omega),if_pos (by omega),show j+xs.length - b=j - b+xs.length by omega,zCH,zAg (by omega)]
  show xs[((j:Int) - (b:Int)).toNat]?=_
  congr 1
  omega
 ·rw[if_neg (by omega),if_pos (by omega),zAg (by omega)]
  show xs[((j:Int) - (b:Int)+(xs.length:Int)).toNat]?=_
  congr 1
  omega
theorem AK(lo hi:Int):fJ lo hi 1=(hi - lo).toNat:=by
 unfold fJ Builtin.Range.rangeSize
 rw[if_pos (by decide)]
 by_cases h:lo<hi
 ·rw[if_pos h,Int.ediv_one]
  omega
 ·rw[if_neg h]
  omega
theorem pI(n:Nat):gg 0 1 (fJ 0 (n:Int) 1)=(List.range' 0 n).map fun(k:Nat)=>D.int (k:Int):=by
 unfold gg
 rw[AK,show((n:Int) - 0).toNat=n by omega,List.range'_eq_map_range,zAo]
 apply zBd
 intro k _
 simp
theorem Dm(p:Sp):OkN 1 (spD p):=OkN.tup (.cons (.int _ _) (.cons (.int _ _) (.nil _)))
theorem xJ(p:Sp):OkN 1 (plS p):=OkN.tup (.cons (.int _ _) (.cons (.int _ _) (.cons (.int _ _) (.nil _))))
def cY(pk:List Nat):Nat:=match pk.getLast? with
 |none=>0
 |some l=>l+1
def nxt(n:Nat)(pk:List Nat):List (List Nat):=(List.range' (cY pk) (n - cY pk)).map fun k=>pk++[k]
def lev(n:Nat):Nat->List (List Nat)
 |0=>[[]]
 |j+1=>(lev n j).flatMap (nxt n)
def pkD(pk:List Nat):D:=.lst true (pk.map fun(k:Nat)=>D.int (k:Int))
theorem mf{n:Nat}:∀{j:Nat} {pk:List Nat},pk∈lev n j->pk.length=j/\∀k∈pk,k<n
 |0,pk,h=>by
  simp only[lev,zAP]at h
  subst h
  simp
 |j+1,pk,h=>by
  simp only[lev,zCj]at h
  obtain⟨q,hq,h⟩:=h
  obtain⟨h1,h2⟩:=mf hq
  unfold nxt at h
  obtain⟨k,hk,rfl⟩:=zAQ.mp h
  rw[zBI]at hk
  refine⟨by simp[h1],fun x hx=>?_⟩
  rcases zAI.mp hx with z|z
  ·exact h2 x z
  ·simp at z;subst z;omega
theorem uM(n:Nat):∀j:Nat,(lev n j).length<=n ^ j
 |0=>by simp[lev]
 |j+1=>by
  have ih:=uM n j
  simp only[lev]
  have:∀l:List (List Nat),(l.flatMap (nxt n)).length<=l.length*n:=by
   intro l
   induction l with
   |nil=>simp
   |cons a r ih =>
    rw[List.flatMap_cons,zAO,zAb,Nat.add_mul]
    have:(nxt n a).length<=n:=by unfold nxt;rw[zAA,zAj];omega
    omega
  refine zAw (this _) ?_
  rw[zBN]
  exact zCm _ ih
theorem uZ(a b:Nat):gg (a:Int) 1 (fJ a b 1)=(List.range' a (b - a)).map fun(k:Nat)=>D.int (k:Int):=by
 unfold gg
 rw[AK,show((b:Int) - (a:Int)).toNat=b - a by omega,List.range'_eq_map_range,zAo]
 apply zBd
 intro k _
 simp
theorem sk(n:Nat):∀l:List (List Nat),(l.flatMap (nxt n)).length<=l.length*n
 |[]=>by simp
 |a::r=>by
  rw[List.flatMap_cons,zAO,zAb,Nat.add_mul]
  have:=sk n r
  have:(nxt n a).length<=n:=by unfold nxt;rw[zAA,zAj];omega
  omega
theorem AU{pk:List Nat}(h:pk ≠ []){Q:D->Prop}(q:Q (.int ((cY pk:Nat) - 1:Int))):∃d,atI (pk.map fun(k:Nat)=>D.int (k:Int)) (-1)=some d/\Q d:=by
 obtain⟨r,l,rfl⟩:∃r l,pk=r++[l]:=⟨pk.dropLast,pk.getLast h,(zBV h).symm⟩
 refine⟨.int l,?_,?_⟩
 ·unfold atI ixN
  rw[zAA,zAO]
  have e:(-1+((r.length:Int)+1)).toNat=r.length:=by omega
  have l:(1:Int)<=(r.length:Int)+1:=by omega
  simp[e,l]
 ·have:((cY (r++[l]):Nat):Int) - 1=l:=by
   unfold cY
   simp
  rw[<- this]
  exact q
abbrev Tr:=Int×Int×Int
def tn(a b:Sp):Int:=a.1*b.2 - b.1*a.2
def dt2(a b:Sp):Int:=a.1*b.1+a.2*b.2
def arS(h:Tr)(p:Sp):Sp:=(h.1*p.1 - 1*h.2.1,h.1*p.2 - 1*h.2.2)
def gvS(g h:Tr):Int:=g.1*h.1+g.2.1*h.2.1+g.2.2*h.2.2
def dM(a b:Sp):Tr:=(a.1*b.2 - b.1*a.2,a.2*1 - b.2*1,1*b.1 - 1*a.1)
def bQ(a w:Sp):Tr:=(-(w.1*a.1+w.2*a.2),w.1*1,w.2*1)
def bkW(a:Sp):Sp:=(-a.1,-a.2)
def lfW(a:Sp):Sp:=(-a.2,a.1)
def aQ(a b:Sp):Sp:=if a=b then(1,0)else(1*b.1 - 1*a.1,1*b.2 - 1*a.2)
def dH(a b:Sp):List Tr:=[bQ a (aQ a b),bQ b (bkW (aQ a b)),bQ a (lfW (aQ a b)),bQ a (bkW (lfW (aQ a b)))]
def aU(hs:List Sp):List Tr:=if hs.length<3 then dH (hs.getD 0 (0,0)) (hs.getD (hs.length - 1) (0,0))else(List.range' 0 hs.length).map fun k=>dM (bC hs k) (hs.getD k (0,0))
def oN(a:Sp):Prop:=a=(0,0)
def gZ(a b:Sp):Prop:=tn a b=0/\dt2 a b<0
def fC(a b e:Sp):Prop:=(0<tn b e/\0<tn e a/\0<tn a b)∨(tn b e<0/\tn e a<0/\tn a b<0)
theorem jV(a b:Sp):tn a b=- tn b a:=by unfold tn;grind
theorem B5(a:Sp):tn a a=0:=by unfold tn;grind
theorem zo(a b:Sp):dt2 a b=dt2 b a:=by unfold dt2;grind
theorem gZ.symm{a b:Sp}(h:gZ a b):gZ b a:=⟨by have:=jV a b;have:=h.1;omega,by rw[zo];exact h.2⟩
theorem fC.rot{a b e:Sp}(h:fC a b e):fC b e a:=by unfold fC at h ⊢;omega
theorem fC.swap{a b e:Sp}(h:fC a b e):fC b a e:=by
 unfold fC at h ⊢
 have:=jV a b
 have:=jV b e
 have:=jV e a
 omega
theorem sqn(a:Int):0<=a*a:=by
 rcases Int.le_total 0 a with h|h
 ·exact zAc h h
 ·have:=zAc (show 0<=-a by omega) (show 0<=-a by omega)
  have e:-a*-a=a*a:=by grind
  omega
theorem iO{w:Sp}(h:w≠(0,0)):0<dt2 w w:=by
 obtain⟨a,b⟩:=w
 unfold dt2
 dsimp only
 have h1:=sqn a
 have h2:=sqn b
 by_cases ha:a=0
 ·by_cases hb:b=0
  ·subst ha hb;exact absurd rfl h
  ·have:b*b≠0:=Int.mul_ne_zero hb hb
   omega
 ·have:a*a≠0:=Int.mul_ne_zero ha ha
  omega
theorem oQ{b c:Sp}{y z:Int}(hy:0<y)(hz:0<z)(e1:y*b.1+z*c.1=0)(e2:y*b.2+z*c.2=0):oN b∨gZ b c:=by
 by_cases hb:b=(0,0)
 ·exact .inl hb
 ·right
  have p:=iO hb
  have t:z*tn b c=0:=by
   have:z*tn b c=b.1*(y*b.2+z*c.2) - b.2*(y*b.1+z*c.1):=by unfold tn;grind
   rw[this,e1,e2];simp
  have d:z*dt2 b c=- (y*dt2 b b):=by
   have:z*dt2 b c+y*dt2 b b=b.1*(y*b.1+z*c.1)+b.2*(y*b.2+z*c.2):=by unfold dt2;grind
   rw[e1,e2]at this
   simp at this
   omega
  have yy:=zBa hy p
  refine⟨?_,?_⟩
  ·rcases zA4.mp t with q|q<;>omega
  ·by_cases q:dt2 b c<0
   ·exact q
   ·have:=zAc (zAd hz) (show 0<=dt2 b c by omega)
    omega
theorem yP(a b c:Sp):tn b c*a.1+tn c a*b.1+tn a b*c.1=0/\tn b c*a.2+tn c a*b.2+tn a b*c.2=0:=by
 unfold tn
 constructor<;>grind
theorem mW{c:Sp}{z:Int}(hz:0<z)(e1:z*c.1=0)(e2:z*c.2=0):oN c:=by
 rcases zA4.mp e1 with q|q
 ·omega
 ·rcases zA4.mp e2 with r|r
  ·omega
  ·exact zBe q r
theorem AX{a b c:Sp}(hx:0<=tn b c)(hy:0<=tn c a)(hz:0<=tn a b)(hs:0<tn b c+tn c a+tn a b) :
  oN a∨oN b∨oN c∨gZ a b∨gZ b c∨gZ c a∨fC a b c:=by
 obtain⟨e1,e2⟩:=yP a b c
 by_cases x0:tn b c=0
 ·rw[x0,zBY]at e1 e2
  by_cases y0:tn c a=0
  ·rw[y0,zBY]at e1 e2
   exact .inr (.inr (.inl (mW (z:=tn a b) (by omega) (by omega) (by omega))))
  ·by_cases z0:tn a b=0
   ·rw[z0,zBY]at e1 e2
    exact .inr (.inl (mW (z:=tn c a) (by omega) (by omega) (by omega)))
   ·rcases oQ (b:=b) (c:=c) (y:=tn c a) (z:=tn a b) (by omega) (by omega) (by omega) (by omega)with q|q
    ·exact .inr (.inl q)
    ·exact .inr (.inr (.inr (.inr (.inl q))))
 ·by_cases y0:tn c a=0
  ·rw[y0,zBY]at e1 e2
   by_cases z0:tn a b=0
   ·rw[z0,zBY]at e1 e2
    exact .inl (mW (z:=tn b c) (by omega) (by omega) (by omega))
   ·rcases oQ (b:=c) (c:=a) (y:=tn a b) (z:=tn b c) (by omega) (by omega) (by omega) (by omega)with q|q
    ·exact .inr (.inr (.inl q))
    ·exact .inr (.inr (.inr (.inr (.inr (.inl q)))))
  ·by_cases z0:tn a b=0
   ·rw[z0,zBY]at e1 e2
    rcases oQ (b:=a) (c:=b) (y:=tn b c) (z:=tn c a) (by omega) (by omega) (by omega) (by omega)with q|q
    ·exact .inl q
    ·exact .inr (.inr (.inr (.inl q)))
   ·exact .inr (.inr (.inr (.inr (.inr (.inr (.inl ⟨by omega,by omega,by omega⟩))))))
def mM(h:Tr)(ps:List Sp):Prop:=(∃p∈ps,oN (arS h p))∨(∃p∈ps,∃q∈ps,gZ (arS h p) (arS h q))∨∃ p∈ps,∃q∈ps,∃r∈ps,fC (arS h p) (arS h q) (arS h r)
theorem yO{h:Tr}{ps:List Sp}{p q r:Sp}(hp:p∈ps)(hq:q∈ps)(hr:r∈ps)(hx:0<=tn (arS h q) (arS h r))(hy:0<=tn (arS h r) (arS h p))(hz:0<=tn (arS h p) (arS h q))(hs:0<tn (arS h q) (arS h r)+tn (arS h r) (arS h p)+tn (arS h p) (arS h q)):mM h ps:=by
 rcases AX hx hy hz hs with c|c|c|c|c|c|c
 ·exact .inl ⟨_,hp,c⟩
 ·exact .inl ⟨_,hq,c⟩
 ·exact .inl ⟨_,hr,c⟩
 ·exact .inr (.inl ⟨_,hp,_,hq,c⟩)
 ·exact .inr (.inl ⟨_,hq,_,hr,c⟩)
 ·exact .inr (.inl ⟨_,hr,_,hp,c⟩)
 ·exact .inr (.inr ⟨_,hp,_,hq,_,hr,c⟩)
theorem zu(h:Tr)(a b:Sp):tn (arS h a) (arS h b)=h.1*gvS (dM a b) h:=by unfold tn arS gvS dM;grind
theorem Bk(h:Tr)(a w:Sp):gvS (bQ a w) h=- dt2 w (arS h a):=by unfold gvS bQ dt2 arS;grind
theorem DW(h:Tr)(a b c:Sp):tn (arS h b) (arS h c)+tn (arS h c) (arS h a)+tn (arS h a) (arS h b)=h.1*(h.1*cr a b c):=by rw[bT];unfold tn arS;grind
theorem De(u v w:Sp):dt2 u v*dt2 u w+tn u v*tn u w=dt2 u u*dt2 v w:=by unfold dt2 tn;grind
theorem pU{u v:Sp}(hu:u≠(0,0))(h1:dt2 u v=0)(h2:tn u v=0):v=(0,0):=by
 have p:=iO hu
 have l:=De u v v
 rw[h1,h2]at l
 simp only[zBY,zCv]at l
 by_cases c:v=(0,0)
 ·exact c
 ·have:=zBa p (iO c)
  omega
theorem yt{h:Tr}{ps:List Sp}{a b:Sp}(am:a∈ps)(bm:b∈ps)(hov:∀g∈dH a b,0<=gvS g h):mM h ps:=by
 unfold dH at hov
 have o1:=hov _ (zAY)
 have o2:=hov _ (zAD _ zAY)
 have o3:=hov _ (zAD _ (zAD _ zAY))
 have o4:=hov _ (zAD _ (zAD _ (zAD _ zAY)))
 clear hov
 rw[Bk]at o1 o2 o3 o4
 have ne:aQ a b≠(0,0):=by
  unfold aQ
  split
  ·decide
  ·rename_i n
   intro e
   rw[zBU,zA9,zA9,zA9,zA9]at e
   exact n (zBe (zCE e.1).symm (zCE e.2).symm)
 have d2:dt2 (bkW (aQ a b)) (arS h b)=- dt2 (aQ a b) (arS h b):=by unfold dt2 bkW;grind
 have d3:dt2 (lfW (aQ a b)) (arS h a)=tn (aQ a b) (arS h a):=by unfold dt2 lfW tn;grind
 have d4:dt2 (bkW (lfW (aQ a b))) (arS h a)=- tn (aQ a b) (arS h a):=by unfold dt2 bkW lfW tn;grind
 rw[d2,Int.neg_neg]at o2
 rw[d3]at o3
 rw[d4,Int.neg_neg]at o4
 have t0:tn (aQ a b) (arS h a)=0:=zCT (Int.neg_nonneg.mp o3) o4
 have o1':dt2 (aQ a b) (arS h a)<=0:=Int.neg_nonneg.mp o1
 clear o1 o3 o4 d2 d3 d4
 by_cases e:a=b
 ·subst e
  exact .inl ⟨a,am,pU ne (zCT o1' o2) t0⟩
 ·have ew:arS h b=((arS h a).1+h.1*(aQ a b).1,(arS h a).2+h.1*(aQ a b).2):=by
   unfold aQ
   rw[if_neg e]
   unfold arS
   dsimp only
   rw[zBU]
   constructor<;>grind
  have tb:tn (aQ a b) (arS h b)=0:=by
   rw[ew]
   have:tn (aQ a b) ((arS h a).1+h.1*(aQ a b).1,(arS h a).2+h.1*(aQ a b).2)=tn (aQ a b) (arS h a):=by unfold tn;dsimp only;grind
   rw[this,t0]
  have tab:tn (arS h a) (arS h b)=0:=by
   rw[ew]
   have:tn (arS h a) ((arS h a).1+h.1*(aQ a b).1,(arS h a).2+h.1*(aQ a b).2)=- (h.1*tn (aQ a b) (arS h a)):=by unfold tn;dsimp only;grind
   rw[this,t0,zCK,Int.neg_zero]
  have l:=De (aQ a b) (arS h a) (arS h b)
  rw[tb,zCK,zCv]at l
  by_cases z1:dt2 (aQ a b) (arS h a)=0
  ·exact .inl ⟨a,am,pU ne z1 t0⟩
  ·by_cases z2:dt2 (aQ a b) (arS h b)=0
   ·exact .inl ⟨b,bm,pU ne z2 tb⟩
   ·have neg:=zAt (Int.lt_iff_le_and_ne.mpr ⟨o1',z1⟩) (Int.lt_iff_le_and_ne.mpr ⟨o2,Ne.symm z2⟩)
    refine .inr (.inl ⟨a,am,b,bm,tab,?_⟩)
    rw[l]at neg
    by_cases q:dt2 (arS h a) (arS h b)<0
    ·exact q
    ·exact absurd neg (zCh.mpr (zAc (zAd (iO ne)) (zCh.mp q)))
theorem zr{h:Tr}{ps:List Sp}{c:Nat->Sp}{N:Nat}(h0:0<h.1)(cm:∀i,i<N->c i∈ps)(edge:∀i,i+1<N->0<=tn (arS h (c i)) (arS h (c (i+1))))(bend:0<cr (c 0) (c 1) (c 2)) :
  ∀ d i,N=i+d+3->0<=tn (arS h (c (i+d+2))) (arS h (c 0))->0<=tn (arS h (c 0)) (arS h (c (i+1)))->(i=0∨0<tn (arS h (c 0)) (arS h (c (i+1))))->mM h ps:=by
 have tri:∀i,i+2<N->0<=tn (arS h (c (i+2))) (arS h (c 0))->0<=tn (arS h (c 0)) (arS h (c (i+1)))->(i=0∨0<tn (arS h (c 0)) (arS h (c (i+1))))->mM h ps:=fun i hi hy hz hp=>by
  have hx:=edge (i+1) hi
  refine yO (cm 0 (zCx (zAk _) hi)) (cm (i+1) (zCI hi)) (cm (i+2) hi) hx hy hz ?_
  rcases hp with q|q
  ·subst q
   rw[DW]
   exact zBa h0 (zBa h0 bend)
  ·exact Int.add_pos_of_nonneg_of_pos (Int.add_nonneg hx hy) q
 intro d
 induction d with
 |zero =>
  intro i hN hy hz hp
  exact tri i (by rw[hN];exact zAx _) hy hz hp
 |succ d ih =>
  intro i hN hy hz hp
  have hi:i+2<N:=by rw[hN];omega
  by_cases z:0<tn (arS h (c 0)) (arS h (c (i+2)))
  ·have e1:i+1+d+2=i+(d+1)+2:=by omega
   exact ih (i+1) (by rw[hN];omega) (by rw[e1];exact hy) (zAd z) (.inr z)
  ·refine tri i hi ?_ hz hp
   rw[jV]
   exact Int.neg_nonneg_of_nonpos (zCh.mp z)
theorem qD{hs ps:List Sp}{h:Tr}(g:jW hs ps)(hn:ps ≠ [])(h0:0<h.1)(hov:∀b∈aU hs,0<=gvS b h):mM h ps:=by
 obtain⟨a0,r0,eh,_⟩:=g.some_ hn
 have l0:0<hs.length:=by rw[eh];exact zBC _
 have gm:∀i,i<hs.length->hs.getD i (0,0)∈ps:=fun i hi=>by
  rw[zAG,zAB hi]
  exact g.mem _ (zBL _)
 unfold aU at hov
 by_cases c:hs.length<3
 ·rw[if_pos c]at hov
  exact yt (gm 0 l0) (gm (hs.length - 1) (Nat.sub_lt l0 Nat.one_pos)) hov
 ·rw[if_neg c]at hov
  obtain⟨d,hd⟩:∃d,hs.length=0+d+3:=⟨hs.length - 3,by omega⟩
  have edge:∀k,k<hs.length->0<=tn (arS h (bC hs k)) (arS h (hs.getD k (0,0))):=fun k hk=>by
   rw[zu]
   exact zAc (zAd h0) (hov _ (zAQ.mpr ⟨k,zBI.mpr ⟨zAk _,by rw[zA6];exact hk⟩,rfl⟩))
  have pz:bC hs 0=hs.getD (0+d+2) (0,0):=by
   unfold bC
   rw[zA6,hd]
   show hs.getD ((0+d+2) % (0+d+3)) _=_
   rw[zAg (zAx _)]
  have ps_:∀k,k+1<hs.length->bC hs (k+1)=hs.getD k (0,0):=fun k hk=>by
   unfold bC
   rw[Nat.add_right_comm]
   show hs.getD ((k+hs.length) % hs.length) _=_
   rw[zCH,zAg (zCI hk)]
  have ed:∀i,i+1<hs.length->0<=tn (arS h (hs.getD i (0,0))) (arS h (hs.getD (i+1) (0,0))):=fun i hi=>by
   have:=edge (i+1) hi
   rw[ps_ i hi]at this
   exact this
  have e0:=edge 0 l0
  rw[pz]at e0
  exact zr (c:=fun i=>hs.getD i (0,0)) h0 gm ed (g.bend (by rw[hd];omega)) d 0 hd e0 (ed 0 (by rw[hd];omega)) (.inl rfl)
theorem pW{u v x y:Int}(e:u*y=v*x)(h1:0<u∨(u=0/\0<v))(h2:0<x∨(x=0/\0<=y)):0<=u*x+v*y:=by
 rcases h1 with h1|⟨h1,h1'⟩
 ·have e2:(u*x+v*y)*u=(u*u+v*v)*x:=by grind
  refine Di (y:=u) ?_ h1
  rw[e2]
  refine zAc (Int.add_nonneg (sqn u) (sqn v)) ?_
  rcases h2 with q|q
  ·exact zAd q
  ·rw[q.1];exact zA2 _
 ·subst h1
  rw[zBY]at e ⊢
  rw[Int.zero_add]
  rcases zA4.mp e.symm with q|q
  ·exact absurd h1' (by rw[q];exact zBT _)
  ·rcases h2 with r|r
   ·exact absurd r (by rw[q];exact zBT _)
   ·exact zAc (zAd h1') r.2
theorem pf{p q:Sp}(h:¬fe q p):0<q.1 - p.1∨(q.1 - p.1=0/\0<=q.2 - p.2):=by
 unfold fe at h
 omega
theorem Aq{a b p:Sp}{g:Tr}(ne:a≠b)(hab:¬fe b a)(hap:¬fe p a)(hpb:¬fe b p)(h0:cr a b p=0)(hg:g∈dH a b):0<=gvS g (1,p.1,p.2):=by
 have key:∀w a:Sp,gvS (bQ a w) (1,p.1,p.2)=w.1*(p.1 - a.1)+w.2*(p.2 - a.2):=fun w a=>by unfold gvS bQ;grind
 rw[bT]at h0
 have c0:(b.1 - a.1)*(p.2 - a.2)=(b.2 - a.2)*(p.1 - a.1):=zCE h0
 have c1:(b.1 - a.1)*(b.2 - p.2)=(b.2 - a.2)*(b.1 - p.1):=by grind
 have al:0<b.1 - a.1∨(b.1 - a.1=0/\0<b.2 - a.2):=by
  rcases pf hab with q|⟨q,r⟩
  ·exact .inl q
  ·refine .inr ⟨q,?_⟩
   have:b.2 - a.2≠0:=fun z=>ne (zBe (zCE q).symm (zCE z).symm)
   exact Int.lt_iff_le_and_ne.mpr ⟨r,Ne.symm this⟩
 have d1:=pW c0 al (pf hap)
 have d2:=pW c1 al (pf hpb)
 clear al hab hap hpb
 unfold dH aQ at hg
 rw[if_neg ne]at hg
 simp only[zAC,zAS,or_false]at hg
 rcases hg with q|q|q|q<;>rw[q,key]<;>simp only[bkW,lfW,zA9]
 ·exact d1
 ·have:-(b.1 - a.1)*(p.1 - b.1)+-(b.2 - a.2)*(p.2 - b.2)=(b.1 - a.1)*(b.1 - p.1)+(b.2 - a.2)*(b.2 - p.2):=by grind
  rw[this]
  exact d2
 ·rw[zA3,c0,Int.add_left_neg]
  exact zA2 _
 ·rw[Int.neg_neg,zA3,c0,Int.add_right_neg]
  exact zA2 _
theorem tV{hs ps:List Sp}(g:jW hs ps)(hn:ps ≠ []){b:Tr}(hb:b∈aU hs){p:Sp}(hp:p∈ps):0<=gvS b (1,p.1,p.2):=by
 obtain⟨a0,r0,eh,hmin⟩:=g.some_ hn
 unfold aU at hb
 by_cases c:hs.length<3
 ·rw[if_pos c]at hb
  rcases r0 with _|⟨b0,_|⟨z,r⟩⟩
  ·have e:=g.one a0 eh p hp
   subst e
   rw[eh]at hb
   have key:∀w:Sp,gvS (bQ p w) (1,p.1,p.2)=0:=fun w=>by unfold gvS bQ;grind
   unfold dH at hb
   simp only[List.getD_cons_zero,zCF,Nat.sub_self,zAC,zAS,or_false]at hb
   rcases hb with q|q|q|q<;>rw[q,key]<;>exact zA2 _
  ·have e:=g.two a0 b0 eh
   rw[eh]at hb
   exact Aq e.1 (hmin b0 (g.mem b0 (by rw[eh];simp))) (hmin p hp) (e.2 p hp).2 (e.2 p hp).1 hb
  ·rw[eh]at c
   exact absurd c (by simp)
 ·rw[if_neg c]at hb
  obtain⟨k,hk,e⟩:=zAQ.mp hb
  have hk':k<hs.length:=by
   have:=(zBI.mp hk).2
   rw[zA6]at this
   exact this
  have ev:gvS b (1,p.1,p.2)=cr (bC hs k) (hs.getD k (0,0)) p:=by
   rw[<- e,bT];unfold gvS dM;grind
  rw[ev]
  exact g.edge (by omega) k hk' p hp
def bj(w:Sp):Int:=((w.1.natAbs:Nat):Int)+((w.2.natAbs:Nat):Int)
def bu:Int->List Int->Int
 |d,[]=>d
 |d,x::xs=>bu ((Int.gcd d x:Nat):Int) xs
def cM(xs:List Int):List Int:=xs.map fun x=>x.fdiv (bu 0 xs)
def jX(a:Sp):Option (List Int):=if bj a=0 then some [1]else none
def iU(a b:Sp):Option (List Int):=if tn a b=0/\dt2 a b<0 then some (cM [bj b,bj a])else none
def iV(a b e:Sp):Option (List Int) :=
 if 0<tn b e/\0<tn e a/\0<tn a b then some (cM [tn b e,tn e a,tn a b])
 else if tn b e<0/\tn e a<0/\tn a b<0 then some (cM [-tn b e,-tn e a,-tn a b])else none
def hW:List Sp->Option (List Int)
 |[]=>none
 |[a]=>jX a
 |[a,b]=>iU a b
 |a::b::e::_=>iV a b e
def pkW(ws:List Sp)(pk:List Nat):List Sp:=pk.map fun k=>ws.getD k (0,0)
def bV(ws:List Sp):List (List Nat)->Option (List Nat×List Int)
 |[]=>none
 |pk::r=>match hW (pkW ws pk)with
  |some sh=>some (pk,sh)
  |none=>bV ws r
def cF(n:Nat):List (List Nat):=lev n 1++(lev n 2++lev n 3)
theorem k8{a:Sp}:bj a=0↔a=(0,0):=by
 unfold bj
 obtain⟨x,y⟩:=a
 simp only[zBU]
 omega
theorem qA{ws:List Sp}:∀{pks:List (List Nat)},bV ws pks=none->∀pk∈pks,hW (pkW ws pk)=none
 |[],_,pk,h=>by cases h
 |a::r,e,pk,h=>by
  unfold bV at e
  cases hb:hW (pkW ws a)with
  |some s=>rw[hb]at e;cases e
  |none =>
   rw[hb]at e
   rcases zAC.mp h with q|q
   ·rw[q];exact hb
   ·exact qA e pk q
theorem sO{n i:Nat}(h:i<n):[i]∈lev n 1:=by
 simp only[lev,List.flatMap_cons,List.flatMap_nil,zA5]
 exact zAQ.mpr ⟨i,zBI.mpr ⟨zAk _,by simp[cY];exact h⟩,rfl⟩
theorem sP{n i j:Nat}(h:i<j)(hj:j<n):[i,j]∈lev n 2:=by
 have:=sO (n:=n) (i:=i) (by omega)
 refine zCj.mpr ⟨[i],this,zAQ.mpr ⟨j,zBI.mpr ?_,rfl⟩⟩
 simp[cY]
 omega
theorem zJ{n i j k:Nat}(h:i<j)(hj:j<k)(hk:k<n):[i,j,k]∈lev n 3:=by
 have:=sP (n:=n) h (by omega)
 refine zCj.mpr ⟨[i,j],this,zAQ.mpr ⟨k,zBI.mpr ?_,rfl⟩⟩
 simp[cY]
 omega
theorem AV{a b:Sp}(h:gZ a b):iU a b≠none:=by
 unfold iU
 have h':tn a b=0/\dt2 a b<0:=h
 rw[if_pos h']
 simp
theorem AW{a b e:Sp}(h:fC a b e):iV a b e≠none:=by
 unfold iV
 rcases h with h|h
 ·rw[if_pos h];simp
 ·rw[if_neg (by omega),if_pos h];simp
theorem yN{h:Tr}{ps:List Sp}(hb:mM h ps):bV (ps.map (arS h)) (cF ps.length)≠none:=by
 intro e
 have N:=qA e
 have gd:∀{i:Nat} {p:Sp},ps[i]?=some p->(ps.map (arS h)).getD i (0,0)=arS h p:=fun {i p} q=>by
  rw[zAG,zAH,q];rfl
 have lt:∀{i:Nat} {p:Sp},ps[i]?=some p->i<ps.length:=fun {i p} q=>(zAE.mp q).1
 have two:∀i j p q,ps[i]?=some p->ps[j]?=some q->i<j->gZ (arS h p) (arS h q)->False:=fun i j p q hi hj hij b=>by
  have:=N [i,j] (zAR _ (zAu _ (sP hij (lt hj))))
  unfold pkW at this
  simp only[zAK,zBZ,gd hi,gd hj]at this
  exact AV b this
 have three:∀i j k p q r,ps[i]?=some p->ps[j]?=some q->ps[k]?=some r->i<j->j<k->fC (arS h p) (arS h q) (arS h r)->False:=fun i j k p q r hi hj hk hij hjk b=>by
  have:=N [i,j,k] (zAR _ (zAR _ (zJ hij hjk (lt hk))))
  unfold pkW at this
  simp only[zAK,zBZ,gd hi,gd hj,gd hk]at this
  exact AW b this
 rcases hb with⟨p,hp,b⟩| ⟨p,hp,q,hq,b⟩| ⟨p,hp,q,hq,r,hr,b⟩
 ·obtain⟨i,hi⟩:=zBt.mp hp
  have:=N [i] (zAu _ (sO (lt hi)))
  unfold pkW at this
  simp only[zAK,zBZ,gd hi]at this
  have this':jX (arS h p)=none:=this
  unfold jX at this'
  rw[if_pos (k8.mpr b)]at this'
  cases this'
 ·obtain⟨i,hi⟩:=zBt.mp hp
  obtain⟨j,hj⟩:=zBt.mp hq
  rcases zCd i j with c|c|c
  ·exact two i j p q hi hj c b
  ·subst c
   rw[hi]at hj
   cases hj
   have p0:=b.2
   unfold dt2 at p0
   have:=sqn (arS h p).1
   have:=sqn (arS h p).2
   omega
  ·exact two j i q p hj hi c b.symm
 ·obtain⟨i,hi⟩:=zBt.mp hp
  obtain⟨j,hj⟩:=zBt.mp hq
  obtain⟨k,hk⟩:=zBt.mp hr
  have ne:∀{i j:Nat} {p q r:Sp},ps[i]?=some p->ps[j]?=some q->fC (arS h p) (arS h q) r->i≠j:=fun {i j p q r} hi hj b c=>by
   subst c
   rw[hi]at hj
   cases hj
   unfold fC at b
   rw[B5]at b
   omega
  have n1:=ne hi hj b
  have n2:=ne hj hk b.rot
  have n3:=ne hk hi b.rot.rot
  rcases zCX n1 with c1|c1
  ·rcases zCX n2 with c2|c2
   ·exact three i j k p q r hi hj hk c1 c2 b
   ·rcases zCX n3 with c3|c3
    ·exact three k i j r p q hk hi hj c3 c1 b.rot.rot
    ·exact three i k j p r q hi hk hj c3 c2 b.rot.rot.swap
  ·rcases zCX n2 with c2|c2
   ·rcases zCX n3 with c3|c3
    ·exact three j k i q r p hj hk hi c2 c3 b.rot
    ·exact three j i k q p r hj hi hk c1 c3 b.swap
   ·exact three k j i r q p hk hj hi c2 c1 b.rot.swap
theorem sv(k:Int)(hk:0<=k):∀(xs:List Int) (d:Int),bu (k*d) (xs.map (k*·))=k*bu d xs
 |[],d=>rfl
 |x::xs,d=>by
  show bu ((Int.gcd (k*d) (k*x):Nat):Int) (xs.map (k*·))=_
  rw[zCf,Int.natCast_mul,Int.natAbs_of_nonneg hk,sv k hk xs]
  rfl
structure Snt(A B C E g:Int)(w v:Sp):Prop where
 x:g*v.1=A*w.1+B*w.2
 y:g*v.2=C*w.1+E*w.2
theorem xS{a b:Sp}(h:tn a b=0):dt2 b b*a.1+(-(dt2 a b))*b.1=0/\dt2 b b*a.2+(-(dt2 a b))*b.2=0:=by
 have e1:dt2 b b*a.1+(-(dt2 a b))*b.1=b.2*tn a b:=by unfold dt2 tn;grind
 have e2:dt2 b b*a.2+(-(dt2 a b))*b.2=- (b.1*tn a b):=by unfold dt2 tn;grind
 rw[e1,e2,h]
 simp
theorem iZ{a:Sp}(h:a≠(0,0)):0<bj a:=by
 have:bj a≠0:=fun e=>h (k8.mp e)
 unfold bj at this ⊢
 omega
def trD(g:Tr):D:=T3 g.1 g.2.1 g.2.2
theorem B6{p q:Tr}(h:trD p=trD q):p=q:=by
 unfold trD T3 at h
 simp only[D.tup.injEq,zAL,D.int.injEq,and_true]at h
 exact zBe h.1 (zBe h.2.1 h.2.2)
theorem pS{ps qs:List Tr}(h:ps.map trD=qs.map trD):ps=qs:=gW B6 h
theorem d5(p:Tr):aM (trD p)=trD p:=by unfold trD T3;simp only[cL,bF,bN,dY]
theorem iM(ps:List Tr):aX (ps.map trD)=ps.map trD:=da trD d5 ps
def oL:Option (List Int)->D
 |none=>.non
 |some xs=>.lst true (xs.map D.int)
structure WB(n:Nat)(w:Sp):Prop where
 x:Bd n w.1
 y:Bd n w.2
structure PB(n:Nat)(h:Tr):Prop where
 b0:0<h.1
 b:Bd 100 h.1
 x:Bd n h.2.1
 y:Bd n h.2.2
theorem WB.mono{n m:Nat}{w:Sp}(h:WB n w)(hn:n<=m):WB m w:=⟨h.x.mono hn,h.y.mono hn⟩
theorem WB.sb{w:Sp}(h:WB 60 w):SB w:=⟨h.x,h.y⟩
theorem cmB{x y:Int}{n m:Nat}(hx:Bd n x)(hy:Bd m y)(hn:n<=1000:=by decide)(hm:m<=1000:=by decide):CM x y:=.inr (.inr ⟨hx.mono (zAw hn (by decide)),hy.mono (zAw hm (by decide))⟩)
theorem k7(x:Int):∀(d:Int) (xs:List Int),bu d (xs++[x])=((Int.gcd (bu d xs) x:Nat):Int)
 |d,[]=>rfl
 |d,y::ys=>k7 x _ ys
theorem me{n:Nat}{w:Sp}(h:WB n w):Bd (n+2) (bj w):=by
 have hx:=h.x
 have hy:=h.y
 unfold Bd bj at *
 have:(2:Nat) ^ (n+2)=2 ^ n*4:=Nat.pow_add 2 n 2
 omega
theorem Bj{d x:Int}(h:x≠0):0<Int.gcd ((Int.gcd 0 d:Nat):Int) x:=Int.gcd_pos_iff.mpr (.inr h)
theorem xq{n:Nat}{d x:Int}(hx:Bd n x)(h:x≠0):Bd n ((Int.gcd d x:Nat):Int):=by
 unfold Bd at *
 have:=Nat.le_of_dvd (by omega) (Int.gcd_dvd_natAbs_right d x)
 omega
theorem iW{n:Nat}{x:Int}(h:Bd n x):Bd n (-x):=by unfold Bd at *;omega
theorem CP(p q:Sp):eqD (plS p) (plS q)=decide (p=q):=by
 unfold plS
 rw[uw,gN,gN,gN,mT,iP,iP,iP,Bool.and_true]
 by_cases e:p=q
 ·subst e;simp
 ·rw[decide_eq_false e]
  simp only[decide_true,Bool.true_and,Bool.and_eq_false_iff,decide_eq_false_iff_not]
  by_cases e1:p.1=q.1
  ·right;intro e2;exact e (zBe e1 e2)
  ·left;exact e1
theorem pX{α:Type}{xs:List α}{v:α}(h0:0<xs.length)(h:xs[xs.length - 1]?=some v):atI xs (-1)=some v:=by
 unfold atI ixN
 rw[if_neg (by omega),if_pos (by omega)]
 show xs[(-1+(xs.length:Int)).toNat]?=_
 rw[show(-1+(xs.length:Int)).toNat=xs.length - 1 by omega]
 exact h
structure GB(g:Tr):Prop where
 a:Bd 200 g.1
 b:Bd 200 g.2.1
 c:Bd 200 g.2.2
theorem yJ{a b:Sp}(ha:SB a)(hb:SB b):WB 62 (aQ a b):=by
 unfold aQ
 split
 ·exact⟨by unfold Bd;decide,by unfold Bd;decide⟩
 ·exact⟨by show Bd 62 (1*b.1 - 1*a.1);rw[zA9,zA9];exact Bd.mono (m:=61) (hb.x.sub ha.x) (by decide),by show Bd 62 (1*b.2 - 1*a.2);rw[zA9,zA9];exact Bd.mono (m:=61) (hb.y.sub ha.y) (by decide)⟩
theorem jY(hs:List Sp):(aU hs).length<=hs.length+4:=by
 unfold aU dH
 split
 ·simp
 ·rw[zAA,zAj];omega
def pH(n:Nat):Nat->List (List Nat)
 |0=>lev n 1++(lev n 2++(lev n 3++[]))
 |1=>lev n 2++(lev n 3++[])
 |2=>lev n 3++[]
 |_=>[]
theorem yb(n:Nat){j:Nat}(h:j<3):pH n j=lev n (j+1)++pH n (j+1):=by
 rcases j with _|_|_|j
 ·rfl
 ·rfl
 ·rfl
 ·omega
theorem Ad(n:Nat):cF n=pH n 0:=by
 show lev n 1++(lev n 2++lev n 3)=lev n 1++(lev n 2++(lev n 3++[]))
 rw[zA5]
theorem xE(ws:List Sp)(pk:List Nat)(r:List (List Nat)):bV ws (pk::r)=match hW (pkW ws pk)with
  |some sh=>some (pk,sh)
  |none=>bV ws r:=rfl
theorem D9{n:Nat}{g p b:Int}(hg:0<g)(e:g*p=b)(h:Bd n b):Bd n p:=by
 unfold Bd at *
 rw[<- e,zB8]at h
 have:1*p.natAbs<=g.natAbs*p.natAbs:=zCm _ (by omega)
 omega
theorem p8:((10:Int) ^ (8:Int).toNat)=100000000:=by decide
theorem BB(n:Nat)(x:Str)(hx:PyData.strOk x=true):OkN n (.str x):=⟨by rw[plD]<;>(intros;contradiction),by rw[pyD,PyData.canLay0];exact hx,by rw[pyD,PyData.depth];exact zAk _⟩
theorem zt{a b:Int}(hb:Bd 402 b)(h:b≠0):Bd 1000 (bu 0 [a,b]):=(xq hb h).mono (by decide)
theorem xf{α:Type}{wi:DA}{js:List Nat}{tc:DT}{te:DE}{ρ:Ro}{Q:D->Prop}{P:List α->Prop}(f:α->D)(c:α->Bool)(g:α->D)(hw:∀R:List D->Prop,(∀ys,P ys->R (ys.map f))->wi ρ R)(hz:∀ys,P ys->ys.length<=sizeLine)
  (hc:∀ys,P ys->∀x∈ys,∀K:Bool->Prop,K (c x)->tc (some (.val (f x))::js.map (bg ρ)) K)
  (he:∀ys,P ys->∀x∈ys,∀K:D->Prop,K (g x)->te (some (.val (f x))::js.map (bg ρ)) K) (q:∀ys,P ys->Q (.lst true ((ys.filter c).map g))):jd wi js tc te ρ Q:=by
 refine hw _ fun ys hy=>?_
 have:=PD.comp_map (wi:=fun _ R=>R (ys.map f)) (js:=js) (tc:=tc) (te:=te) (ρ:=ρ) (Q:=Q) ys f c g (fun R h=>h) (hz ys hy) (fun x hx K k=>hc ys hy x hx K k) (fun x hx _ K k=>he ys hy x hx K k) (q ys hy)
 exact this
theorem ng{s1 s2:DS}{E:iB}{ρ:Ro}(P:Ro->Prop)(h2:∀ρ',P ρ'->s2 E ρ')(h1:∀K:Ro->Prop,(∀ρ',P ρ'->K ρ')->s1 {E with nx:=K} ρ):vN s1 s2 E ρ:=h1 _ h2
theorem m5:∀{xs ys ps:List Sp},cn xs ps->cn ys ps->xs=ys:=by
 have go:∀(xs ys:List Sp),xs.Pairwise (fun p q=>fe p q)->ys.Pairwise (fun p q=>fe p q)->(∀p,p∈xs↔p∈ys)->xs=ys:=by
  intro xs
  induction xs with
  |nil =>
   intro ys _ _ h
   cases ys with
   |nil=>rfl
   |cons y ys=>have:=(h y).mpr zAY;cases this
  |cons x xs ih =>
   intro ys ox oy h
   cases ys with
   |nil=>have:=(h x).mp zAY;cases this
   |cons y ys =>
    obtain⟨x1,x2⟩:=zAp.mp ox
    obtain⟨y1,y2⟩:=zAp.mp oy
    have exy:x=y:=by
     rcases zAC.mp ((h x).mp zAY)with e|e
     ·exact e
     ·rcases zAC.mp ((h y).mpr zAY)with e'|e'
      ·exact e'.symm
      ·have a:=y1 x e
       have b:=x1 y e'
       unfold fe at a b
       omega
    subst exy
    have irr:∀p:Sp,¬fe p p:=fun p=>by unfold fe;omega
    rw[ih ys x2 y2 fun p=>⟨fun hp=>?_,fun hp=>?_⟩]
    ·rcases zAC.mp ((h p).mp (zAD _ hp))with e|e
     ·have:=x1 p hp;rw[e]at this;exact absurd this (irr x)
     ·exact e
    ·rcases zAC.mp ((h p).mpr (zAD _ hp))with e|e
     ·have:=y1 p hp;rw[e]at this;exact absurd this (irr x)
     ·exact e
 intro xs ys ps hx hy
 exact go xs ys hx.1 hy.1 fun p=>(hx.2 p).trans (hy.2 p).symm
def okX(x:Int):Prop:=0<=x/\x<2147483647
def wsum(sh:List Int)(ws:List Sp):Sp:=((List.zipWith (fun s (w:Sp)=>s*w.1) sh ws).sum,(List.zipWith (fun s (w:Sp)=>s*w.2) sh ws).sum)
theorem j9:∀(d:Int) (xs:List Int),bu d xs∣d/\∀x∈xs,bu d xs∣x
 |d,[]=>⟨zBz _,by simp⟩
 |d,x::xs=>by
  obtain⟨a,b⟩:=j9 ((Int.gcd d x:Nat):Int) xs
  refine⟨zCG a (Int.gcd_dvd_left _ _),fun y hy=>?_⟩
  rcases zAC.mp hy with z|z
  ·rw[z];exact zCG a (Int.gcd_dvd_right _ _)
  ·exact b y z
theorem sy:∀(d:Int) (xs:List Int),0<=d->0<=bu d xs
 |d,[],h=>h
 |d,x::xs,_=>sy _ xs (Int.natCast_nonneg _)
structure vn(xs:List Int):Prop where
 pos:∀s∈cM xs,0<s
 one:bu 0 (cM xs)=1
 back:∃g:Int,0<g/\(cM xs).map (g*·)=xs
theorem jO{xs:List Int}(hn:xs ≠ [])(h:∀x∈xs,0<x):vn xs:=by
 obtain⟨x0,hx0⟩:=List.exists_mem_of_ne_nil xs hn
 have gp:0<bu 0 xs:=by
  have a:=sy 0 xs (zA2 _)
  have:bu 0 xs≠0:=fun e=>by
   have:=(j9 0 xs).2 x0 hx0
   rw[e]at this
   have:=Int.zero_dvd.mp this
   have:=h x0 hx0
   omega
  omega
 have bk:(cM xs).map (bu 0 xs*·)=xs:=by
  unfold cM
  rw[zAo]
  have:∀x∈xs,((bu 0 xs*·)∘fun x=>x.fdiv (bu 0 xs)) x=x:=fun x hx=>by
   show bu 0 xs*x.fdiv (bu 0 xs)=x
   rw[Int.fdiv_eq_ediv_of_dvd ((j9 0 xs).2 x hx)]
   exact Int.mul_ediv_cancel' ((j9 0 xs).2 x hx)
  rw[zBd this,List.map_id']
 refine⟨fun s hs=>?_,?_,_,gp,bk⟩
 ·have hm:bu 0 xs*s∈xs:=by
   have:bu 0 xs*s∈(cM xs).map (bu 0 xs*·):=zAQ.mpr ⟨s,hs,rfl⟩
   rw[bk]at this
   exact this
  have:=h _ hm
  exact zZ (y:=bu 0 xs) (by rw[zAn];exact this) gp
 ·have:=sv (bu 0 xs) (zAd gp) (cM xs) 0
  rw[bk,zCK]at this
  have h2:bu 0 xs*1=bu 0 xs*bu 0 (cM xs):=by rw[Int.mul_one];exact this
  exact(zCq (by omega) h2).symm
structure D5(ws:List Sp)(sh:List Int):Prop where
 len:sh.length=ws.length
 pos:∀s∈sh,0<s
 one:bu 0 sh=1
 sum:wsum sh ws=(0,0)
theorem B8{a b:Sp}(h:gZ a b):bj b*a.1+bj a*b.1=0/\bj b*a.2+bj a*b.2=0:=by
 have hb:b≠(0,0):=fun e=>by have:=h.2;rw[e]at this;unfold dt2 at this;simp at this
 obtain⟨e1,e2⟩:=xS h.1
 have px:=iO hb
 have py:0 < -(dt2 a b):=by have:=h.2;omega
 generalize dt2 b b=x at e1 e2 px
 generalize -(dt2 a b)=y at e1 e2 py
 have l:x*bj a=y*bj b:=by
  have n1:x.natAbs*a.1.natAbs=y.natAbs*b.1.natAbs:=by rw[<- zB8,<- zB8];omega
  have n2:x.natAbs*a.2.natAbs=y.natAbs*b.2.natAbs:=by rw[<- zB8,<- zB8];omega
  have c1:=congrArg (fun n:Nat=>(n:Int)) n1
  have c2:=congrArg (fun n:Nat=>(n:Int)) n2
  simp only[Int.natCast_mul,Int.natAbs_of_nonneg (zAd px),Int.natAbs_of_nonneg (zAd py)]at c1 c2
  unfold bj
  rw[Int.mul_add,Int.mul_add,c1,c2]
 have z:∀u v:Int,x*u+y*v=0->bj b*u+bj a*v=0:=fun u v e=>by
  have:x*(bj b*u+bj a*v)=bj b*(x*u+y*v)+v*(x*bj a - y*bj b):=by grind
  rw[e,l,Int.sub_self,zCK,zCK,zCv]at this
  exact(zA4.mp this).resolve_left (by omega)
 exact⟨z _ _ e1,z _ _ e2⟩
theorem nG{xs:List Int}{ws:List Sp}(L:vn xs)(h:wsum xs ws=(0,0)):wsum (cM xs) ws=(0,0):=by
 obtain⟨g,gp,bk⟩:=L.back
 have key:∀(f:Sp->Int) (l:List Int) (us:List Sp),(List.zipWith (fun s w=>s*f w) (l.map (g*·)) us).sum=g*(List.zipWith (fun s w=>s*f w) l us).sum:=fun f l=>by
  induction l with
  |nil=>intro us;simp
  |cons s l ih =>
   intro us
   cases us with
   |nil=>simp
   |cons u us =>
    simp only[zAK,zBJ,zBq]
    rw[ih us,Int.mul_add,zCQ]
 unfold wsum at h ⊢
 rw[<- bk]at h
 rw[zBU]at h ⊢
 rw[key (fun w=>w.1),key (fun w=>w.2)]at h
 have z:∀t:Int,g*t=0->t=0:=fun t e=>(zA4.mp e).resolve_left (by omega)
 exact⟨z _ h.1,z _ h.2⟩
theorem Co{ws:List Sp}{sh:List Int}(h3:ws.length<=3)(h:hW ws=some sh):D5 ws sh:=by
 rcases ws with _|⟨a,_|⟨b,_|⟨e,_|⟨z,r⟩⟩⟩⟩
 ·cases h
 ·have h':jX a=some sh:=h
  unfold jX at h'
  split at h'
  ·rename_i c
   cases h'
   have:=k8.mp c
   subst this
   exact⟨rfl,by simp,rfl,by unfold wsum;simp⟩
  ·cases h'
 ·have h':iU a b=some sh:=h
  unfold iU at h'
  split at h'
  ·rename_i c
   cases h'
   have c':gZ a b:=c
   have na:a≠(0,0):=fun e=>by have:=c.2;rw[e]at this;unfold dt2 at this;simp at this
   have nb:b≠(0,0):=fun e=>by have:=c.2;rw[e]at this;unfold dt2 at this;simp at this
   have L:=jO (xs:=[bj b,bj a]) (by simp) fun x hx=>by
    simp only[zAC,zAS,or_false]at hx
    rcases hx with rfl|rfl
    ·exact iZ nb
    ·exact iZ na
   obtain⟨t1,t2⟩:=B8 c'
   refine⟨by unfold cM;simp,L.pos,L.one,nG L ?_⟩
   unfold wsum
   simp only[zBJ,List.zipWith_nil_left,zBq,List.sum_nil,zCv,t1,t2]
  ·cases h'
 ·have h':iV a b e=some sh:=h
  obtain⟨b1,b2⟩:=yP a b e
  unfold iV at h'
  split at h'
  ·rename_i c
   cases h'
   have L:=jO (xs:=[tn b e,tn e a,tn a b]) (by simp) fun x hx=>by
    simp only[zAC,zAS,or_false]at hx
    rcases hx with rfl|rfl|rfl
    ·exact c.1
    ·exact c.2.1
    ·exact c.2.2
   refine⟨by unfold cM;simp,L.pos,L.one,nG L ?_⟩
   unfold wsum
   simp only[zBJ,List.zipWith_nil_left,zBq,List.sum_nil,zCv]
   rw[<- Int.add_assoc,<- Int.add_assoc,b1,b2]
  ·split at h'
   ·rename_i c
    cases h'
    have L:=jO (xs:=[-tn b e,-tn e a,-tn a b]) (by simp) fun x hx=>by
     simp only[zAC,zAS,or_false]at hx
     rcases hx with rfl|rfl|rfl<;>omega
    refine⟨by unfold cM;simp,L.pos,L.one,nG L ?_⟩
    unfold wsum
    simp only[zBJ,List.zipWith_nil_left,zBq,List.sum_nil,zCv,zA3]
    rw[zBU]
    omega
   ·cases h'
 ·exact absurd h3 (by simp)
theorem qB{ws:List Sp}:∀{pks:List (List Nat)} {pk:List Nat} {sh:List Int},bV ws pks=some (pk,sh)->pk∈pks/\hW (pkW ws pk)=some sh
 |[],_,_,h=>by cases h
 |p::q,pk,sh,h=>by
  rw[show bV ws (p::q)=(match hW (pkW ws p)with|some sh=>some (p,sh)|none=>bV ws q)from rfl]at h
  cases hb:hW (pkW ws p)with
  |none =>
   rw[hb]at h
   obtain⟨a,b⟩:=qB h
   exact⟨zAD _ a,b⟩
  |some s =>
   rw[hb]at h
   cases h
   exact⟨zAY,hb⟩
theorem sI{n:Nat}:∀{j:Nat} {pk:List Nat},pk∈lev n j->pk.Pairwise (·<·)
 |0,pk,h=>by
  simp only[lev,zAP]at h
  subst h
  exact .nil
 |j+1,pk,h=>by
  simp only[lev,zCj]at h
  obtain⟨q,hq,h⟩:=h
  have ih:=sI hq
  unfold nxt at h
  obtain⟨k,hk,rfl⟩:=zAQ.mp h
  rw[zBI]at hk
  refine zCk.mpr ⟨ih,List.pairwise_singleton _ _,fun x hx y hy=>?_⟩
  rw[zAP.mp hy]
  have hf:x<cY q:=by
   unfold cY
   cases e:q.getLast? with
   |none=>rw[zBx.mp e]at hx;cases hx
   |some l =>
    obtain⟨q',rfl⟩:=List.getLast?_eq_some_iff.mp e
    rcases zAI.mp hx with z|z
    ·have:=(zCk.mp ih).2.2 x z l (by simp)
     show x<l+1
     omega
    ·rw[zAP.mp z];exact zAx _
  omega
theorem mj:∀ps:List Sp,cI (ps.map spD)=true
 |[]=>by rw[zBZ,cI]
 |p::r=>by
  rw[zAK,cI,mj r]
  unfold spD
  simp only[ki,cI,Bool.and_true]
def sX(ps:List Sp)(ws:List Int):Int:=(List.zipWith (fun(p:Sp) w=>p.1*w) ps ws).sum
def sY(ps:List Sp)(ws:List Int):Int:=(List.zipWith (fun(p:Sp) w=>p.2*w) ps ws).sum
structure kQ(ps:List Sp)(h:Tr)(pk:List Nat)(sh:List Int):Prop where
 l0:0<pk.length
 l3:pk.length<=3
 ls:sh.length=pk.length
 rise:pk.Pairwise (·<·)
 lt:∀k∈pk,k<ps.length
 pos:∀s∈sh,0<s
 bd:∀s∈sh,Bd 900 s
 one:bu 0 sh=1
 x:sh.sum*h.2.1=h.1*sX (pk.map fun k=>ps.getD k (0,0)) sh
 y:sh.sum*h.2.2=h.1*sY (pk.map fun k=>ps.getD k (0,0)) sh
theorem tR(h:Tr):∀(qs:List Sp) (sh:List Int),sh.length=qs.length->(wsum sh (qs.map (arS h))).1=h.1*sX qs sh - sh.sum*h.2.1/\(wsum sh (qs.map (arS h))).2=h.1*sY qs sh - sh.sum*h.2.2
 |[],[],_=>by unfold wsum sX sY;simp
 |[],_::_,h=>by simp at h
 |_::_,[],h=>by simp at h
 |q::qs,s::sh,hl=>by
  obtain⟨a,b⟩:=tR h qs sh (by simpa using hl)
  unfold wsum sX at a
  unfold wsum sY at b
  unfold wsum sX sY
  simp only[zAK,zBJ,zBq]at a b ⊢
  rw[a,b]
  unfold arS
  constructor<;>grind
theorem sL{n:Nat}{xs:List Int}(L:vn xs)(h:∀x∈xs,Bd n x):∀s∈cM xs,Bd n s:=fun s hs=>by
 obtain⟨g,gp,bk⟩:=L.back
 have:g*s∈(cM xs).map (g*·):=zAQ.mpr ⟨s,hs,rfl⟩
 rw[bk]at this
 exact D9 gp rfl (h _ this)
theorem Cn{ws:List Sp}{sh:List Int}(hw:∀w∈ws,WB 400 w)(h3:ws.length<=3)(h:hW ws=some sh):∀s∈sh,Bd 900 s:=by
 rcases ws with _|⟨a,_|⟨b,_|⟨e,_|⟨z,r⟩⟩⟩⟩
 ·cases h
 ·have h':jX a=some sh:=h
  unfold jX at h'
  split at h'
  ·cases h'
   intro s hs
   rw[zAP.mp hs]
   unfold Bd
   exact zAW (show 1<2 ^ 1 by decide) (zB3 (by decide) (by decide))
  ·cases h'
 ·have h':iU a b=some sh:=h
  unfold iU at h'
  split at h'
  ·rename_i c
   cases h'
   have na:a≠(0,0):=fun e=>by have:=c.2;rw[e]at this;unfold dt2 at this;simp at this
   have nb:b≠(0,0):=fun e=>by have:=c.2;rw[e]at this;unfold dt2 at this;simp at this
   have L:=jO (xs:=[bj b,bj a]) (by simp) fun x hx=>by
    simp only[zAC,zAS,or_false]at hx
    rcases hx with rfl|rfl
    ·exact iZ nb
    ·exact iZ na
   refine sL L fun x hx=>?_
   simp only[zAC,zAS,or_false]at hx
   rcases hx with rfl|rfl
   ·exact(me (hw b (by simp))).mono (by decide)
   ·exact(me (hw a (by simp))).mono (by decide)
  ·cases h'
 ·have h':iV a b e=some sh:=h
  have ha:=hw a (by simp)
  have hb:=hw b (by simp)
  have he:=hw e (by simp)
  have b1:Bd 900 (tn b e):=Bd.mono (m:=801) ((hb.x.mul he.y).sub (he.x.mul hb.y)) (by decide)
  have b2:Bd 900 (tn e a):=Bd.mono (m:=801) ((he.x.mul ha.y).sub (ha.x.mul he.y)) (by decide)
  have b3:Bd 900 (tn a b):=Bd.mono (m:=801) ((ha.x.mul hb.y).sub (hb.x.mul ha.y)) (by decide)
  unfold iV at h'
  split at h'
  ·rename_i c
   cases h'
   have L:=jO (xs:=[tn b e,tn e a,tn a b]) (by simp) fun x hx=>by
    simp only[zAC,zAS,or_false]at hx
    rcases hx with rfl|rfl|rfl
    ·exact c.1
    ·exact c.2.1
    ·exact c.2.2
   refine sL L fun x hx=>?_
   simp only[zAC,zAS,or_false]at hx
   rcases hx with rfl|rfl|rfl
   ·exact b1
   ·exact b2
   ·exact b3
  ·split at h'
   ·rename_i c
    cases h'
    have L:=jO (xs:=[-tn b e,-tn e a,-tn a b]) (by simp) fun x hx=>by
     simp only[zAC,zAS,or_false]at hx
     rcases hx with rfl|rfl|rfl<;>omega
    refine sL L fun x hx=>?_
    simp only[zAC,zAS,or_false]at hx
    rcases hx with rfl|rfl|rfl
    ·exact iW b1
    ·exact iW b2
    ·exact iW b3
   ·cases h'
 ·exact absurd h3 (by simp)
theorem Ee{ps:List Sp}{h:Tr}{pk:List Nat}{sh:List Int}(hb:∀p∈ps,WB 40 p)(hP:PB 160 h)(e:bV (ps.map (arS h)) (cF ps.length)=some (pk,sh)):kQ ps h pk sh:=by
 obtain⟨hm,hbl⟩:=qB e
 have hlev:∃j,0<j/\j<=3/\pk∈lev ps.length j:=by
  unfold cF at hm
  rcases zAI.mp hm with q|q
  ·exact⟨1,by decide,by decide,q⟩
  ·rcases zAI.mp q with q|q
   ·exact⟨2,by decide,by decide,q⟩
   ·exact⟨3,by decide,by decide,q⟩
 obtain⟨j,j0,j3,hj⟩:=hlev
 obtain⟨hl,hlt⟩:=mf hj
 have ep:pkW (ps.map (arS h)) pk=(pk.map fun k=>ps.getD k (0,0)).map (arS h):=by
  unfold pkW
  rw[zAo]
  apply zBd
  intro k hk
  have:=hlt k hk
  simp only[Function.comp,zAG,zAH,zAB this,Option.map_some,zB9]
 have lw:(pkW (ps.map (arS h)) pk).length=j:=by unfold pkW;rw[zAA,hl]
 have wB:∀w∈pkW (ps.map (arS h)) pk,WB 400 w:=fun w hw=>by
  rw[ep]at hw
  obtain⟨p,hp,rfl⟩:=zAQ.mp hw
  obtain⟨k,hk,rfl⟩:=zAQ.mp hp
  have lk:=hlt k hk
  have B:=hb (ps.getD k (0,0)) (by rw[zAG,zAB lk];exact zBL lk)
  refine⟨?_,?_⟩
  ·show Bd 400 (h.1*_ - 1*h.2.1);rw[zA9];exact Bd.mono (m:=161) (((hP.b.mul B.x).mono (by decide)).sub hP.x) (by decide)
  ·show Bd 400 (h.1*_ - 1*h.2.2);rw[zA9];exact Bd.mono (m:=161) (((hP.b.mul B.y).mono (by decide)).sub hP.y) (by decide)
 have B:=Co (by omega) hbl
 have bd:=Cn wB (by omega) hbl
 have s:=B.sum
 have ls:sh.length=pk.length:=by rw[B.len,lw,hl]
 rw[ep]at s
 obtain⟨x1,x2⟩:=tR h (pk.map fun k=>ps.getD k (0,0)) sh (by rw[ls,zAA])
 rw[s]at x1 x2
 have x1':0=h.1*sX (pk.map fun k=>ps.getD k (0,0)) sh - sh.sum*h.2.1:=x1
 have x2':0=h.1*sY (pk.map fun k=>ps.getD k (0,0)) sh - sh.sum*h.2.2:=x2
 exact⟨by omega,by omega,ls,sI hj,hlt,B.pos,bd,B.one,by omega,by omega⟩
def crs(a b:Tr):Tr:=(a.2.1*b.2.2 - a.2.2*b.2.1,a.2.2*b.1 - a.1*b.2.2,a.1*b.2.1 - a.2.1*b.1)
def dt3(a b c:Tr):Int:=gvS (crs a b) c
theorem eF(a b c:Tr):dt3 a b c=dt3 b c a:=by unfold dt3 gvS crs;grind
theorem mS(a b c:Tr):dt3 a b c=- dt3 b a c:=by unfold dt3 gvS crs;grind
theorem xm(a c:Tr):dt3 a a c=0:=by unfold dt3 gvS crs;grind
theorem lZ(a b:Tr):dt3 a b a=0:=by unfold dt3 gvS crs;grind
theorem l4(a b:Tr):dt3 a b b=0:=by unfold dt3 gvS crs;grind
structure Cmb(q a b:Tr)(m s t:Int):Prop where
 m0:0<m
 s0:0<s
 t0:0<t
 e1:m*q.1=s*a.1+t*b.1
 e2:m*q.2.1=s*a.2.1+t*b.2.1
 e3:m*q.2.2=s*a.2.2+t*b.2.2
theorem Cmb.gv{q a b:Tr}{m s t:Int}(C:Cmb q a b m s t)(g:Tr):m*gvS g q=s*gvS g a+t*gvS g b:=by
 have h1:=C.e1
 have h2:=C.e2
 have h3:=C.e3
 unfold gvS
 grind
theorem Cmb.nng{q a b:Tr}{m s t:Int}(C:Cmb q a b m s t){g:Tr}(ha:0<=gvS g a)(hb:0<=gvS g b):0<=gvS g q:=by
 have h:=C.gv g
 have h1:=zAc (zAd C.s0) ha
 have h2:=zAc (zAd C.t0) hb
 have:0<=m*gvS g q:=by omega
 exact zBD this C.m0
theorem Cmb.zero{q a b:Tr}{m s t:Int}(C:Cmb q a b m s t){g:Tr}(ha:gvS g a=0)(hb:gvS g b=0):gvS g q=0:=by
 have h:=C.gv g
 rw[ha,hb]at h
 have h':m*gvS g q=0:=by omega
 rcases zA4.mp h' with z|z
 ·have:=C.m0;omega
 ·exact z
def aE(g:Tr)(qf:Tr->Tr->Tr):Tr->List Tr->List Tr
 |_,[]=>[]
 |p,c::r=>(if gvS g p*gvS g c<0 then[qf p c]else[])++((if 0<=gvS g c then[c]else[])++aE g qf c r)
def Btw(g:Tr)(qf:Tr->Tr->Tr):Prop:=∀p c:Tr,0<p.1->0<c.1->gvS g p*gvS g c<0->(∃m s t,Cmb (qf p c) p c m s t)/\gvS g (qf p c)=0
theorem nE{g:Tr}{qf:Tr->Tr->Tr}(B:Btw g qf){d:Tr}:∀(l:List Tr) (p:Tr),(∀x∈p::l,0<x.1)->(∀x∈p::l,0<=gvS d x)->∀y∈aE g qf p l,0<=gvS d y
 |[],_,_,_=>fun y hy=>by cases hy
 |c::r,p,h1,hd=>fun y hy=>by
  unfold aE at hy
  rcases zAI.mp hy with q|q
  ·split at q
   ·rename_i lt
    rw[zAP.mp q]
    obtain⟨⟨m,s,t,C⟩,_⟩:=B p c (h1 p (by simp)) (h1 c (by simp)) lt
    exact C.nng (hd p (by simp)) (hd c (by simp))
   ·cases q
  ·rcases zAI.mp q with q|q
   ·split at q
    ·rw[zAP.mp q]
     exact hd c (by simp)
    ·cases q
   ·exact nE B r c (fun x hx=>h1 x (zAD _ hx)) (fun x hx=>hd x (zAD _ hx)) y q
theorem nF{g:Tr}{qf:Tr->Tr->Tr}(B:Btw g qf):∀(l:List Tr) (p:Tr),(∀x∈p::l,0<x.1)->∀y∈aE g qf p l,0<y.1
 |[],_,_=>fun y hy=>by cases hy
 |c::r,p,h1=>fun y hy=>by
  unfold aE at hy
  rcases zAI.mp hy with q|q
  ·split at q
   ·rename_i lt
    rw[zAP.mp q]
    obtain⟨⟨m,s,t,C⟩,_⟩:=B p c (h1 p (by simp)) (h1 c (by simp)) lt
    have a1:=zBa C.s0 (h1 p (by simp))
    have a2:=zBa C.t0 (h1 c (by simp))
    have:=C.e1
    have hm:0<m*(qf p c).1:=by omega
    exact zBS.mp fun z=>by have:=Int.mul_nonpos_of_nonneg_of_nonpos (zAd C.m0) z;omega
   ·cases q
  ·rcases zAI.mp q with q|q
   ·split at q
    ·rw[zAP.mp q]
     exact h1 c (by simp)
    ·cases q
   ·exact nF B r c (fun x hx=>h1 x (zAD _ hx)) y q
theorem gE(g:Tr)(qf:Tr->Tr->Tr):∀(a:List Tr) (p c:Tr) (b:List Tr),aE g qf p (a++c::b)=aE g qf p (a++[c])++aE g qf c b
 |[],p,c,b=>by
  simp only[zAv,aE,zA5,zA7]
 |x::a,p,c,b=>by
  simp only[zAe,aE,gE g qf a x c b,zA7]
theorem qJ{g:Tr}{qf:Tr->Tr->Tr}(B:Btw g qf):∀(l:List Tr) (p:Tr),(∀x∈p::l,0<x.1)->∀y∈aE g qf p l,0<=gvS g y
 |[],_,_=>fun y hy=>by cases hy
 |c::r,p,h1=>fun y hy=>by
  unfold aE at hy
  rcases zAI.mp hy with q|q
  ·split at q
   ·rename_i lt
    rw[zAP.mp q,(B p c (h1 p (by simp)) (h1 c (by simp)) lt).2]
    exact zA2 _
   ·cases q
  ·rcases zAI.mp q with q|q
   ·split at q
    ·rename_i le
     rw[zAP.mp q]
     exact le
    ·cases q
   ·exact qJ B r c (fun x hx=>h1 x (zAD _ hx)) y q
theorem lR{g:Tr}{qf:Tr->Tr->Tr}:∀(l:List Tr) (p:Tr) {x:Tr},x∈l->0<=gvS g x->x∈aE g qf p l
 |[],_,_,h,_=>by cases h
 |c::r,p,x,h,hx=>by
  unfold aE
  rcases zAC.mp h with rfl|h
  ·rw[if_pos hx]
   simp
  ·exact zAR _ (zAR _ (lR r c h hx))
theorem kM{g:Tr}{qf:Tr->Tr->Tr}(B:Btw g qf):∀(l:List Tr) (p z:Tr),(∀x∈p::l,0<x.1)->0<z.1->gvS g p*gvS g z<0->∃y∈aE g qf p (l++[z]),gvS g y=0/\∀d:Tr,(∀x∈p::(l++[z]),0<=gvS d x)->0<=gvS d y
 |[],p,z,h1,hz,lt=>by
  obtain⟨⟨m,s,t,C⟩,e⟩:=B p z (h1 p (by simp)) hz lt
  refine⟨qf p z,?_,e,fun d hd=>C.nng (hd p (by simp)) (hd z (by simp))⟩
  rw[zAv]
  unfold aE
  rw[if_pos lt]
  simp
 |c::r,p,z,h1,hz,lt=>by
  rcases zB4 (gvS g p*gvS g c) 0 with q|q|q
  ·obtain⟨⟨m,s,t,C⟩,e⟩:=B p c (h1 p (by simp)) (h1 c (by simp)) q
   refine⟨qf p c,?_,e,fun d hd=>C.nng (hd p (by simp)) (hd c (by simp))⟩
   rw[zAe]
   unfold aE
   rw[if_pos q]
   simp
  ·have hp:gvS g p≠0:=fun e=>by rw[e,zBY]at lt;exact zBT _ lt
   have hc:gvS g c=0:=(zA4.mp q).resolve_left hp
   exact⟨c,lR _ _ (by simp) (by omega),hc,fun d hd=>hd c (by simp)⟩
  ·have lt2:gvS g c*gvS g z<0:=by
    rcases Int.lt_or_gt_of_ne (show gvS g p≠0 from fun e=>by rw[e,zBY]at lt;exact zBT _ lt)with a|a
    ·have b:0<gvS g z:=zBS.mp fun b=>zBS.mpr lt (Int.mul_nonneg_of_nonpos_of_nonpos (zAd a) b)
     have d:gvS g c<0:=zBS.mp fun d=>zBS.mpr q (zBH (zAd a) d)
     exact zAt d b
    ·have b:gvS g z<0:=zBS.mp fun b=>zBS.mpr lt (zAc (zAd a) b)
     have d:0<gvS g c:=zBS.mp fun d=>zBS.mpr q (Int.mul_nonpos_of_nonneg_of_nonpos (zAd a) d)
     exact zBw d b
   obtain⟨y,hy,e,hd⟩:=kM B r c z (fun x hx=>h1 x (zAD _ hx)) hz lt2
   refine⟨y,?_,e,fun d k=>hd d fun x hx=>k x (zAD _ hx)⟩
   rw[zAe]
   unfold aE
   exact zAR _ (zAR _ hy)
def Tri(l:List Tr):Prop:=∀x y z,List.Sublist [x,y,z] l->0<=dt3 x y z
theorem Tri.sub{k l:List Tr}(h:Tri l)(s:k.Sublist l):Tri k:=fun x y z q=>h x y z (q.trans s)
def jy:List Tr->Prop
 |[]=>True
 |p::r=>r.Pairwise (fun a b=>0<=dt3 p a b)/\jy r
theorem Tri.p:∀{l:List Tr},Tri l->jy l
 |[],_=>True.intro
 |p::r,h=>⟨List.pairwise_iff_forall_sublist.mpr fun {a b} s=>h p a b (s.cons_cons p),Tri.p (h.sub (List.sublist_cons_self p r))⟩
theorem jy.t:∀{l:List Tr},jy l->Tri l
 |[],_,_,_,_,s=>by cases s
 |p::r,h,x,y,z,s=>by
  cases s with
  |cons _ s=>exact jy.t h.2 x y z s
  |cons_cons _ s=>exact List.pairwise_iff_forall_sublist.mp h.1 s
theorem jv{g d:Tr}{qf:Tr->Tr->Tr}(B:Btw g qf):∀(l:List Tr) (p:Tr),(∀x∈p::l,0<x.1)->(p::l).Pairwise (fun a b=>0<=dt3 d a b)->(p::aE g qf p l).Pairwise (fun a b=>0<=dt3 d a b)
 |[],_,_,h=>h
 |c::r,p,h1,h=>by
  have h1':∀x∈c::r,0<x.1:=fun x hx=>h1 x (zAD _ hx)
  obtain⟨hp,hc⟩:=zAp.mp h
  have ih:=jv B r c h1' hc
  obtain⟨ih1,ih2⟩:=zAp.mp ih
  have hw:∀w∈aE g qf c r,0<=dt3 d p w:=nE B r c h1' (d:=crs d p) hp
  have hcc:0<=dt3 d p c:=hp c (by simp)
  unfold aE
  by_cases lt:gvS g p*gvS g c<0
  ·rw[if_pos lt]
   obtain⟨⟨m,s,t,C⟩,e⟩:=B p c (h1 p (by simp)) (h1 c (by simp)) lt
   have pq:0<=dt3 d p (qf p c):=C.nng (g:=crs d p) (by show 0<=dt3 d p p;rw[l4];exact zA2 _) hcc
   have qx:∀x,0<=dt3 d p x->0<=dt3 d c x->0<=dt3 d (qf p c) x:=fun x a b=>by
    rw[eF,eF]at a b ⊢
    exact C.nng (g:=crs x d) a b
   have qc:0<=dt3 d (qf p c) c:=qx c hcc (by rw[l4];exact zA2 _)
   by_cases le:0<=gvS g c
   ·rw[if_pos le]
    refine zAp.mpr ⟨fun a ha=>?_,zAp.mpr ⟨fun a ha=>?_,?_⟩⟩
    ·simp only[zAe,zAv,zAC]at ha
     rcases ha with rfl|rfl|ha
     ·exact pq
     ·exact hcc
     ·exact hw a ha
    ·rcases zAC.mp (show a∈c::aE g qf c r from ha)with e|ha
     ·rw[e]
      exact qc
     ·exact qx a (hw a ha) (ih1 a ha)
    ·exact ih
   ·rw[if_neg le]
    refine zAp.mpr ⟨fun a ha=>?_,zAp.mpr ⟨fun a ha=>?_,?_⟩⟩
    ·simp only[zAe,zAv,zAC]at ha
     rcases ha with rfl|ha
     ·exact pq
     ·exact hw a ha
    ·simp only[zAv]at ha
     exact qx a (hw a ha) (ih1 a ha)
    ·exact ih2
  ·rw[if_neg lt]
   by_cases le:0<=gvS g c
   ·rw[if_pos le]
    refine zAp.mpr ⟨fun a ha=>?_,ih⟩
    simp only[zAe,zAv,zAC]at ha
    rcases ha with rfl|ha
    ·exact hcc
    ·exact hw a ha
   ·rw[if_neg le]
    exact zAp.mpr ⟨hw,ih2⟩
theorem tP{g:Tr}{qf:Tr->Tr->Tr}(B:Btw g qf):∀(l:List Tr) (p:Tr),(∀x∈p::l,0<x.1)->jy (p::l)->jy (p::aE g qf p l)
 |[],_,_,h=>h
 |c::r,p,h1,h=>by
  have h1':∀x∈c::r,0<x.1:=fun x hx=>h1 x (zAD _ hx)
  have ih:=tP B r c h1' h.2
  have hp:(p::c::r).Pairwise fun a b=>0<=dt3 p a b:=zAp.mpr ⟨fun a _=>by rw[xm];exact zA2 _,h.1⟩
  have pw:=(zAp.mp (jv (d:=p) B (c::r) p h1 hp)).2
  refine⟨pw,?_⟩
  have hcr:(c::r).Pairwise fun a b=>0<=dt3 p a b:=h.1
  have p1:=jv (d:=p) B r c h1' hcr
  have hc:(c::r).Pairwise fun a b=>0<=dt3 c a b:=zAp.mpr ⟨fun a _=>by rw[xm];exact zA2 _,h.2.1⟩
  have p2:=jv (d:=c) B r c h1' hc
  unfold aE
  by_cases lt:gvS g p*gvS g c<0
  ·rw[if_pos lt]
   obtain⟨⟨m,s,t,C⟩,e⟩:=B p c (h1 p (by simp)) (h1 c (by simp)) lt
   have pq:(c::aE g qf c r).Pairwise fun a b=>0<=dt3 (qf p c) a b:=by
    refine List.Pairwise.imp ?_ (List.pairwise_and_iff.mpr ⟨p1,p2⟩)
    intro a b ⟨x,y⟩
    rw[eF]at x y ⊢
    exact C.nng (g:=crs a b) x y
   by_cases le:0<=gvS g c
   ·rw[if_pos le]
    exact⟨pq,ih⟩
   ·rw[if_neg le]
    exact⟨(zAp.mp pq).2,ih.2⟩
  ·rw[if_neg lt]
   by_cases le:0<=gvS g c
   ·rw[if_pos le]
    exact ih
   ·rw[if_neg le]
    exact ih.2
theorem yu{l:List Tr}{a:Tr}(h:Tri (l++[a])):Tri (a::(l++[a])):=fun x y z s=>by
 cases s with
 |cons _ s=>exact h x y z s
 |cons_cons _ s =>
  obtain⟨k1,k2,e,s1,s2⟩:=List.sublist_append_iff.mp s
  rcases k2 with _|⟨w,k2⟩
  ·rw[zA5]at e
   subst e
   have:=h y z a (by
    have:[y,z,a]=[y,z]++[a]:=rfl
    rw[this]
    exact s1.append (List.Sublist.refl _))
   rw[eF]
   exact this
  ·have hk:k2=[]:=by
    have:=s2.length_le
    simp at this
    exact this
   subst hk
   have hw:w=a:=zAP.mp (s2.subset (by simp))
   subst hw
   rcases k1 with _|⟨u,_|⟨v,k1⟩⟩
   ·cases e
   ·cases e
    rw[lZ]
    exact zA2 _
   ·exact absurd (congrArg List.length e) (by simp)
def InC(l:List Tr)(X:Tr):Prop:=∀h:Tr,(∀p∈l,0<=gvS h p)->0<=gvS h X
def wgh(g u v:Tr):Tr:=(gvS g v*u.1 - gvS g u*v.1,gvS g v*u.2.1 - gvS g u*v.2.1,gvS g v*u.2.2 - gvS g u*v.2.2)
theorem yD(g u v h:Tr):gvS h (wgh g u v)=gvS g v*gvS h u - gvS g u*gvS h v:=by unfold wgh gvS;grind
theorem xU{g u v y h:Tr}(e1:gvS g y=0)(e2:dt3 u v y=0):gvS h y*(wgh g u v).1=y.1*gvS h (wgh g u v):=by
 unfold dt3 gvS crs at e2
 unfold wgh gvS at *
 dsimp only at *
 grind
theorem B9{g u v y1 y2 h:Tr}(e1:gvS g y1=0)(e2:gvS g y2=0)(d1:dt3 u v y1<=0)(d2:0<=dt3 u v y2)(p1:0<y1.1)(p2:0<y2.1)(h1:0<=gvS h y1)(h2:0<=gvS h y2):0<=gvS h (wgh g u v)*(wgh g u v).1:=by
 by_cases z:dt3 u v y1=0
 ·have k:=xU (h:=h) e1 z
  have sq:0<=(wgh g u v).1*(wgh g u v).1:=sqn _
  have:0<=y1.1*(gvS h (wgh g u v)*(wgh g u v).1):=by
   have:y1.1*(gvS h (wgh g u v)*(wgh g u v).1)=gvS h y1*((wgh g u v).1*(wgh g u v).1):=by
    rw[<- zCQ,<- k,zCQ]
   rw[this]
   exact zAc h1 sq
  exact zBD this p1
 ·have lt:dt3 u v y1<0:=by omega
  generalize ha:dt3 u v y1=a at *
  generalize hb:dt3 u v y2=b at *
  let y:Tr:=(b*y1.1 - a*y2.1,b*y1.2.1 - a*y2.2.1,b*y1.2.2 - a*y2.2.2)
  have lin:∀f:Tr,gvS f y=b*gvS f y1 - a*gvS f y2:=fun f=>by
   show gvS f (b*y1.1 - a*y2.1,b*y1.2.1 - a*y2.2.1,b*y1.2.2 - a*y2.2.2)=_
   unfold gvS
   grind
  have k:=xU (h:=h) (u:=u) (v:=v) (y:=y) (g:=g) (by rw[lin,e1,e2];simp) (by
   show gvS (crs u v) y=0
   rw[lin]
   show b*dt3 u v y1 - a*dt3 u v y2=0
   rw[ha,hb,zAn]
   omega)
  rw[lin]at k
  have y0:0<y.1:=by
   show 0<b*y1.1 - a*y2.1
   have:=zAc d2 (zAd p1)
   have:=zAt lt p2
   omega
  have n:0<=b*gvS h y1 - a*gvS h y2:=by
   have:=zAc d2 h1
   have:=zBH (zAd lt) h2
   omega
  have sq:0<=(wgh g u v).1*(wgh g u v).1:=sqn _
  have:0<=y.1*(gvS h (wgh g u v)*(wgh g u v).1):=by
   have:y.1*(gvS h (wgh g u v)*(wgh g u v).1)=(b*gvS h y1 - a*gvS h y2)*((wgh g u v).1*(wgh g u v).1):=by
    rw[<- zCQ,<- k,zCQ]
   rw[this]
   exact zAc n sq
  exact zBD this y0
theorem rK{g:Tr}{qf:Tr->Tr->Tr}(B:Btw g qf){A C D:List Tr}{u v z:Tr}{h:Tr}(hz:A++u::(C++v::D)=(A++u::(C++v::D)).dropLast++[z])(tri:Tri (A++u::(C++v::D)))(pos:∀x∈A++u::(C++v::D),0<x.1)
  (lt:gvS g u*gvS g v<0) (hh:∀y∈aE g qf z (A++u::(C++v::D)),0<=gvS h y):0<=gvS h (wgh g u v)*(wgh g u v).1:=by
 have hu:0<u.1:=pos u (by simp)
 have hv:0<v.1:=pos v (by simp)
 have hC:∀x∈C,0<x.1:=fun x hx=>pos x (by simp[hx])
 have hA:∀x∈A,0<x.1:=fun x hx=>pos x (by simp[hx])
 have hD:∀x∈D,0<x.1:=fun x hx=>pos x (by simp[hx])
 have zp:0<z.1:=pos z (by rw[hz];simp)
 have w1:aE g qf z (A++u::(C++v::D))=aE g qf z (A++[u])++(aE g qf u (C++[v])++aE g qf v D):=by rw[gE g qf A z u,gE g qf C u v]
 obtain⟨y1,m1,e1,d1⟩:=kM B C u v (fun x hx=>by
  rcases zAC.mp hx with rfl|hx
  ·exact hu
  ·exact hC x hx) hv lt
 have p1:0<y1.1:=nF B (C++[v]) u (fun x hx=>by
  simp only[zAC,zAI,zAS,or_false]at hx
  rcases hx with rfl|hx|rfl
  ·exact hu
  ·exact hC x hx
  ·exact hv) y1 m1
 have s1:dt3 u v y1<=0:=by
  have:=d1 (crs v u) fun x hx=>by
   show 0<=dt3 v u x
   simp only[zAC,zAI,zAS,or_false]at hx
   rcases hx with rfl|hx|rfl
   ·rw[l4];exact zA2 _
   ·have t:=tri u x v (by
     have a:List.Sublist [u,x,v] (u::(C++v::D)):=by
      refine List.Sublist.cons_cons u ?_
      have:[x,v]=[x]++[v]:=rfl
      rw[this]
      exact(zBb.mpr hx).append (zBb.mpr (by simp))
     exact a.trans (zBR _ _))
    rw[eF,eF]at t
    exact t
   ·rw[lZ];exact zA2 _
  have q:0<=dt3 v u y1:=this
  rw[mS]
  omega
 have dn:∀x∈v::D++(A++[u]),0<=dt3 u v x:=fun x hx=>by
  simp only[zAC,zAI,zAS,or_false,zAe]at hx
  rcases hx with rfl|hx|hx|rfl
  ·rw[l4];exact zA2 _
  ·exact tri u v x (by
    have a:List.Sublist [u,v,x] (u::(C++v::D)):=by
     refine List.Sublist.cons_cons u ?_
     exact(List.Sublist.cons_cons v (zBb.mpr hx)).trans (zBR _ _)
    exact a.trans (zBR _ _))
  ·have t:=tri x u v (by
    have:[x,u,v]=[x]++[u,v]:=rfl
    rw[this]
    refine(zBb.mpr hx).append (List.Sublist.cons_cons u ?_)
    exact(zBb.mpr (by simp)).trans (zBR _ _))
   rw[eF]at t
   exact t
  ·rw[lZ];exact zA2 _
 obtain⟨y2,m2,e2,d2⟩:=kM B (D++A) v u (fun x hx=>by
  simp only[zAC,zAI]at hx
  rcases hx with rfl|hx|hx
  ·exact hv
  ·exact hD x hx
  ·exact hA x hx) hu (by rw[zAn];exact lt)
 have p2:0<y2.1:=nF B (D++A++[u]) v (fun x hx=>by
  simp only[zAC,zAI,zAS,or_false]at hx
  rcases hx with rfl|(hx|hx)|rfl
  ·exact hv
  ·exact hD x hx
  ·exact hA x hx
  ·exact hu) y2 m2
 have s2:0<=dt3 u v y2:=d2 (crs u v) fun x hx=>dn x (by
  simp only[zAC,zAI,zAS,or_false,zAe]at hx ⊢
  rcases hx with hx|(hx|hx)|hx
  ·exact .inl hx
  ·exact .inr (.inl hx)
  ·exact .inr (.inr (.inl hx))
  ·exact .inr (.inr (.inr hx)))
 have k1:0<=gvS h y1:=hh y1 (by rw[w1];exact zAR _ (zAu _ m1))
 have k2:0<=gvS h y2:=by
  apply hh y2
  rw[w1]
  have:∃D',v::D=D'++[z]:=by
   have hn:v::D ≠ []:=by simp
   refine⟨(v::D).dropLast,?_⟩
   have e:(A++u::(C++v::D)).getLast?=some z:=by rw[hz];simp
   have e2:(A++u::(C++v::D)).getLast?=(v::D).getLast?:=by
    have:A++u::(C++v::D)=(A++u::C)++(v::D):=by simp
    rw[this,List.getLast?_append,zBk hn]
    rfl
   rw[e2,zBk hn]at e
   have e3:=(zBV hn).symm
   rw[zAi e]at e3
   exact e3
  obtain⟨D',hD'⟩:=this
  rcases D' with _|⟨w,D'⟩
  ·cases hD'
   rw[zAv]at m2
   exact zAu _ m2
  ·rw[zAe]at hD'
   cases hD'
   have e:D'++[z]++A++[u]=D'++z::(A++[u]):=by simp
   rw[e,gE]at m2
   rcases zAI.mp m2 with q|q
   ·exact zAR _ (zAR _ q)
   ·exact zAu _ q
 exact B9 e1 e2 s1 s2 p1 p2 k1 k2
theorem yq{l:List Tr}{a b:Tr}(ha:a∈l)(hb:b∈l)(ne:a≠b):(∃A C D,l=A++a::(C++b::D))∨∃ A C D,l=A++b::(C++a::D):=by
 obtain⟨A,R,rfl⟩:=zCB ha
 rcases zAI.mp hb with q|q
 ·obtain⟨A',R',rfl⟩:=zCB q
  exact .inr ⟨A',R',R,by simp⟩
 ·rcases zAC.mp q with q|q
  ·exact absurd q.symm ne
  ·obtain⟨A',R',rfl⟩:=zCB q
   exact .inl ⟨A,A',R',rfl⟩
theorem sQ(g h:Tr):∀l:List Tr,(∃n∈l,gvS g n<0/\gvS h n<0)->∃n∈l,gvS g n<0/\gvS h n<0/\∀m∈l,gvS g m<0->gvS g n*gvS h m<=gvS h n*gvS g m
 |[],⟨_,hn,_⟩=>by cases hn
 |x::r,hex=>by
  by_cases hr:∃n∈r,gvS g n<0/\gvS h n<0
  ·obtain⟨n,hn,n1,n2,nm⟩:=sQ g h r hr
   by_cases c:gvS g x<0/\¬(gvS g n*gvS h x<=gvS h n*gvS g x)
   ·obtain⟨c1,c2⟩:=c
    have c2':=zBS.mp c2
    have hx:gvS h x<0:=by
     have:0<gvS h n*gvS g x:=zBf n2 c1
     exact zBS.mp fun z=>by
      have:=zBH (zAd n1) z
      omega
    refine⟨x,by simp,c1,hx,fun m hm gm=>?_⟩
    rcases zAC.mp hm with rfl|hm
    ·rw[zAn];exact zA2 _
    ·have k:=nm m hm gm
     have a:0<=(-gvS g x)*(gvS h n*gvS g m - gvS g n*gvS h m):=zAc (by omega) (by omega)
     have b:0<=(-gvS g m)*(gvS g n*gvS h x - gvS h n*gvS g x):=zAc (by omega) (by omega)
     have e:(-gvS g x)*(gvS h n*gvS g m - gvS g n*gvS h m)+(-gvS g m)*(gvS g n*gvS h x - gvS h n*gvS g x)=(-gvS g n)*(gvS h x*gvS g m - gvS g x*gvS h m):=by grind
     have:0<=(-gvS g n)*(gvS h x*gvS g m - gvS g x*gvS h m):=by omega
     have:=zBD this (by omega)
     omega
   ·refine⟨n,zAD _ hn,n1,n2,fun m hm gm=>?_⟩
    rcases zAC.mp hm with rfl|hm
    ·exact Decidable.byContradiction fun z=>c ⟨gm,z⟩
    ·exact nm m hm gm
  ·obtain⟨n,hn,n1,n2⟩:=hex
   rcases zAC.mp hn with rfl|hn
   ·refine⟨n,by simp,n1,n2,fun m hm gm=>?_⟩
    rcases zAC.mp hm with rfl|hm
    ·rw[zAn];exact zA2 _
    ·have:0<=gvS h m:=zCh.mp fun z=>hr ⟨m,hm,gm,z⟩
     have a:=zBH (zAd n1) this
     have b:=zBf n2 gm
     omega
   ·exact absurd ⟨n,hn,n1,n2⟩ hr
theorem As{g X:Tr}{qf:Tr->Tr->Tr}(B:Btw g qf){l:List Tr}{z:Tr}(hz:l=l.dropLast++[z])(tri:Tri l)(pos:∀x∈l,0<x.1)(hX:InC l X)(gX:0<=gvS g X):InC (aE g qf z l) X:=fun h hh=>by
 have kp:∀p∈l,0<=gvS g p->0<=gvS h p:=fun p hp q=>hh p (lR l z hp q)
 by_cases hb:∃n∈l,gvS g n<0/\gvS h n<0
 ·obtain⟨n,hn,n1,n2,nm⟩:=sQ g h l hb
  let k:Tr:=(gvS h n*g.1 - gvS g n*h.1,gvS h n*g.2.1 - gvS g n*h.2.1,gvS h n*g.2.2 - gvS g n*h.2.2)
  have lin:∀p:Tr,gvS k p=gvS h n*gvS g p - gvS g n*gvS h p:=fun p=>by
   show gvS (gvS h n*g.1 - gvS g n*h.1,gvS h n*g.2.1 - gvS g n*h.2.1,gvS h n*g.2.2 - gvS g n*h.2.2) p=_
   generalize gvS h n=a
   generalize gvS g n=b
   unfold gvS
   grind
  have kn:∀p∈l,0<=gvS k p:=fun p hp=>by
   rw[lin]
   rcases zB4 (gvS g p) 0 with q|q|q
   ·have:=nm p hp q
    omega
   ·rw[q,zCK]
    have:=zBH (zAd n1) (kp p hp (by omega))
    omega
   ·have ne:p≠n:=fun e=>by rw[e]at q;omega
    have np:=pos n hn
    have pp:=pos p hp
    rcases yq hp hn ne with⟨A,C,D,rfl⟩| ⟨A,C,D,rfl⟩
    ·have r:=rK B hz tri pos (zBw q n1) hh
     rw[yD]at r
     have w0:(wgh g p n).1<0:=by
      show gvS g n*p.1 - gvS g p*n.1<0
      have:=zAt n1 pp
      have:=zBa q np
      omega
     have r2:gvS g n*gvS h p - gvS g p*gvS h n<=0:=zCh.mp fun z=>by
      have:=zBw z w0
      omega
     rw[zAn (gvS h n)]
     omega
    ·have r:=rK B hz tri pos (zAt n1 q) hh
     rw[yD]at r
     have w0:0<(wgh g n p).1:=by
      show 0<gvS g p*n.1 - gvS g n*p.1
      have:=zAt n1 pp
      have:=zBa q np
      omega
     have r2:0<=gvS g p*gvS h n - gvS g n*gvS h p:=zCh.mp fun z=>by
      have:=zAt z w0
      omega
     rw[zAn (gvS h n)]
     exact r2
  have kX:=hX k kn
  rw[lin]at kX
  have a:=zBH (zAd n2) gX
  exact zCh.mp fun z=>by
   have:=zBf n1 z
   omega
 ·refine hX h fun p hp=>?_
  by_cases q:0<=gvS g p
  ·exact kp p hp q
  ·exact zCh.mp fun z=>hb ⟨p,hp,by omega,z⟩
def Chn(R:Tr->Tr->Prop):List Tr->Prop
 |[]=>True
 |[_]=>True
 |a::b::r=>R a b/\Chn R (b::r)
theorem Chn.tail{R:Tr->Tr->Prop}{a:Tr}:∀{l:List Tr},Chn R (a::l)->Chn R l
 |[],_=>True.intro
 |_::_,h=>h.2
theorem iN{R:Tr->Tr->Prop}:∀(l:List Tr) (x:Tr) (k:List Tr),Chn R (l++x::k)↔Chn R (l++[x])/\Chn R (x::k)
 |[],x,k=>by simp[Chn]
 |[a],x,k=>by simp[Chn]
 |a::b::l,x,k=>by
  have:=iN (R:=R) (b::l) x k
  simp only[zAe,Chn]at this ⊢
  rw[this,and_assoc]
def Sh(G:Tr->Prop)(a b:Tr):Prop:=∃e,G e/\gvS e a=0/\gvS e b=0
theorem kL{g:Tr}{qf:Tr->Tr->Tr}(B:Btw g qf){G:Tr->Prop}(hg:G g):∀(l:List Tr) (p x:Tr),(∀y∈p::l,0<y.1)->((x=p/\0<=gvS g p)∨(gvS g x=0/\gvS g p<0))->Chn (Sh G) (p::l)->Chn (Sh G) (x::aE g qf p l)
 |[],_,_,_,_,_=>True.intro
 |c::r,p,x,h1,hx,h=>by
  have h1':∀y∈c::r,0<y.1:=fun y hy=>h1 y (zAD _ hy)
  obtain⟨⟨e,ge,ep,ec⟩,hr⟩:=h
  have ih:=fun x hx=>kL B hg r c x h1' hx hr
  unfold aE
  by_cases lt:gvS g p*gvS g c<0
  ·rw[if_pos lt]
   obtain⟨⟨m,s,t,C⟩,eq⟩:=B p c (h1 p (by simp)) (h1 c (by simp)) lt
   have eq':gvS e (qf p c)=0:=C.zero ep ec
   by_cases le:0<=gvS g c
   ·rw[if_pos le]
    refine⟨?_,⟨e,ge,eq',ec⟩,ih c (.inl ⟨rfl,le⟩)⟩
    rcases hx with⟨rfl,_⟩| ⟨hx,_⟩
    ·exact⟨e,ge,ep,eq'⟩
    ·exact⟨g,hg,hx,eq⟩
   ·rw[if_neg le]
    refine⟨?_,ih _ (.inr ⟨eq,by omega⟩)⟩
    rcases hx with⟨rfl,_⟩| ⟨hx,_⟩
    ·exact⟨e,ge,ep,eq'⟩
    ·exact⟨g,hg,hx,eq⟩
  ·rw[if_neg lt]
   by_cases le:0<=gvS g c
   ·rw[if_pos le]
    refine⟨?_,ih c (.inl ⟨rfl,le⟩)⟩
    rcases hx with⟨rfl,_⟩| ⟨hx,hp⟩
    ·exact⟨e,ge,ep,ec⟩
    ·have:gvS g c=0:=by
      rcases Int.lt_or_eq_of_le le with q|q
      ·exact absurd (zAt hp q) lt
      ·exact q.symm
     exact⟨g,hg,hx,this⟩
   ·rw[if_neg le]
    refine ih x ?_
    rcases hx with⟨rfl,hp⟩| ⟨hx,_⟩
    ·right
     refine⟨?_,by omega⟩
     rcases Int.lt_or_eq_of_le hp with q|q
     ·exact absurd (zBw q (by omega)) lt
     ·exact q.symm
    ·exact .inr ⟨hx,by omega⟩
theorem qI{g:Tr}{qf:Tr->Tr->Tr}(B:Btw g qf){G:Tr->Prop}(hg:G g):∀(l:List Tr) (p:Tr),(∀y∈p::l,0<y.1)->Chn (Sh G) (p::l)->Chn (Sh G) (aE g qf p l)
 |[],_,_,_=>True.intro
 |c::r,p,h1,h=>by
  by_cases hp:0<=gvS g p
  ·exact(kL B hg (c::r) p p h1 (.inl ⟨rfl,hp⟩) h).tail
  have h1':∀y∈c::r,0<y.1:=fun y hy=>h1 y (zAD _ hy)
  obtain⟨⟨e,ge,ep,ec⟩,hr⟩:=h
  unfold aE
  by_cases lt:gvS g p*gvS g c<0
  ·rw[if_pos lt]
   obtain⟨⟨m,s,t,C⟩,eq⟩:=B p c (h1 p (by simp)) (h1 c (by simp)) lt
   have eq':gvS e (qf p c)=0:=C.zero ep ec
   by_cases le:0<=gvS g c
   ·rw[if_pos le]
    exact⟨⟨e,ge,eq',ec⟩,kL B hg r c c h1' (.inl ⟨rfl,le⟩) hr⟩
   ·exact absurd (zBf (zBS.mp hp) (zBS.mp le)) (by omega)
  ·rw[if_neg lt]
   by_cases le:0<=gvS g c
   ·rw[if_pos le]
    exact kL B hg r c c h1' (.inl ⟨rfl,le⟩) hr
   ·rw[if_neg le]
    exact qI B hg r c h1' hr
def Cyc(R:Tr->Tr->Prop)(l:List Tr):Prop:=∀k z,l=k++[z]->Chn R (z::l)
theorem Ar{g:Tr}{qf:Tr->Tr->Tr}(B:Btw g qf){G:Tr->Prop}(hg:G g){l:List Tr}{z:Tr}(hz:l=l.dropLast++[z])(pos:∀y∈l,0<y.1)(h:Cyc (Sh G) l):Cyc (Sh G) (aE g qf z l):=fun k y ek=>by
 have c1:=h _ z hz
 have c2:Chn (Sh G) (z::(l++l)):=by
  have e:z::(l++l)=(z::l.dropLast)++(z::l):=by
   rw[zAe]
   congr 1
   conv=>lhs;arg 1;rw[hz]
   simp
  rw[e,iN]
  refine⟨?_,c1⟩
  rw[zAe,<- hz]
  exact c1
 have zl:z∈l:=by rw[hz];simp
 have c3:=qI B hg (l++l) z (fun y hy=>by
  simp only[zAC,zAI,or_self]at hy
  rcases hy with rfl|hy
  ·exact pos y zl
  ·exact pos y hy) c2
 have e:aE g qf z (l++l)=aE g qf z l++aE g qf z l:=by
  have a:l++l=l.dropLast++z::l:=by
   conv=>lhs;arg 1;rw[hz]
   simp
  rw[a,gE,<- hz]
 rw[e]at c3
 have e2:aE g qf z l++aE g qf z l=k++y::aE g qf z l:=by
  conv=>lhs;arg 1;rw[ek]
  simp
 rw[e2,iN]at c3
 exact c3.2
def ddF:List Tr->List Tr->List Tr
 |_,[]=>[]
 |seen,x::r=>if x∈seen then ddF seen r else x::ddF (seen++[x]) r
theorem lV:∀(l seen:List Tr),(ddF seen l).Sublist l
 |[],_=>List.Sublist.slnil
 |x::r,seen=>by
  unfold ddF
  split
  ·exact(lV r seen).cons x
  ·exact(lV r _).cons_cons x
theorem oX:∀(l seen:List Tr) {x:Tr},x∈l->x∈seen∨x∈ddF seen l
 |[],_,_,h=>by cases h
 |y::r,seen,x,h=>by
  unfold ddF
  rcases zAC.mp h with rfl|h
  ·split
   ·rename_i q
    exact .inl q
   ·exact .inr (by simp)
  ·split
   ·exact oX r seen h
   ·rcases oX r (seen++[y]) h with q|q
    ·rcases zAI.mp q with q|q
     ·exact .inl q
     ·rw[zAP.mp q]
      exact .inr (by simp)
    ·exact .inr (zAD _ q)
theorem p9:∀(l seen:List Tr),l.Nodup->(∀x∈l,x∉seen)->ddF seen l=l
 |[],_,_,_=>rfl
 |x::r,seen,h,hs=>by
  obtain⟨a,b⟩:=zBh.mp h
  unfold ddF
  rw[if_neg (hs x (by simp)),p9 r (seen++[x]) b fun y hy q=>by
   rcases zAI.mp q with q|q
   ·exact hs y (zAD _ hy) q
   ·exact a (by rw[<- zAP.mp q];exact hy)]
theorem kY:∀(l seen:List Tr) (v:Tr) (k:List Tr),v∈seen∨v∈l->ddF seen (l++v::k)=ddF seen (l++k)
 |[],seen,v,k,h=>by
  rw[zAv,zAv]
  conv=>lhs;unfold ddF
  rw[if_pos (h.resolve_right (by simp))]
 |x::r,seen,v,k,h=>by
  rw[zAe,zAe]
  unfold ddF
  split
  ·rename_i q
   refine kY r seen v k ?_
   rcases h with h|h
   ·exact .inl h
   ·rcases zAC.mp h with rfl|h
    ·exact .inl q
    ·exact .inr h
  ·congr 1
   refine kY r _ v k ?_
   rcases h with h|h
   ·exact .inl (zAu _ h)
   ·rcases zAC.mp h with rfl|h
    ·exact .inl (by simp)
    ·exact .inr h
theorem mK:∀l:List Tr,¬l.Nodup->∃A v C,l=A++v::C/\v∈A
 |[],h=>absurd List.nodup_nil h
 |x::r,h=>by
  by_cases hx:x∈r
  ·obtain⟨A,C,rfl⟩:=zCB hx
   exact⟨x::A,x,C,rfl,by simp⟩
  ·obtain⟨A,v,C,e,hv⟩:=mK r fun q=>h (zBh.mpr ⟨hx,q⟩)
   exact⟨x::A,v,C,by rw[e];rfl,zAD _ hv⟩
theorem Br{e a v b:Tr}(ea:gvS e a=0)(ev:gvS e v=0)(hd:dt3 v a b=0)(hw:crs v a≠(0,0,0)):gvS e b=0:=by
 have h1:gvS e b*(crs v a).1=0:=by unfold dt3 gvS crs at *;dsimp only at *;grind
 have h2:gvS e b*(crs v a).2.1=0:=by unfold dt3 gvS crs at *;dsimp only at *;grind
 have h3:gvS e b*(crs v a).2.2=0:=by unfold dt3 gvS crs at *;dsimp only at *;grind
 refine Decidable.byContradiction fun z=>hw ?_
 have a1:=(zA4.mp h1).resolve_left z
 have a2:=(zA4.mp h2).resolve_left z
 have a3:=(zA4.mp h3).resolve_left z
 generalize crs v a=w at a1 a2 a3
 obtain⟨x,y,t⟩:=w
 simp_all
structure Pr(p:Tr):Prop where
 pos:0<p.1
 low:PM.g3 p.1 p.2.1 p.2.2=1
theorem rH{v a:Tr}(hv:Pr v)(ha:Pr a)(h:crs v a=(0,0,0)):v=a:=by
 unfold crs at h
 simp only[zBU]at h
 obtain⟨h1,h2,h3⟩:=h
 have q1:v.2.1*a.1=a.2.1*v.1:=by have:=zAn v.1 a.2.1;omega
 have q2:v.2.2*a.1=a.2.2*v.1:=by have:=zAn v.1 a.2.2;omega
 have d1:v.1∣a.1:=iD (d:=v.1) (k:=a.1) (x:=v.1) (y:=v.2.1) (z:=v.2.2) (zB7 _ _) (by rw[zAn,q1];exact zB7 _ _) (by rw[zAn,q2];exact zB7 _ _) hv.low
 have d2:a.1∣v.1:=iD (d:=a.1) (k:=v.1) (x:=a.1) (y:=a.2.1) (z:=a.2.2) (zB7 _ _) (by rw[zAn,<- q1];exact zB7 _ _) (by rw[zAn,<- q2];exact zB7 _ _) ha.low
 have pa:=ha.pos
 have pv:=hv.pos
 have e:v.1=a.1:=by
  have l1:=Int.le_of_dvd pa d1
  have l2:=Int.le_of_dvd pv d2
  omega
 obtain⟨v1,v2,v3⟩:=v
 obtain⟨a1,a2,a3⟩:=a
 dsimp only at *
 subst e
 rw[Int.eq_of_mul_eq_mul_right (by omega) q1,Int.eq_of_mul_eq_mul_right (by omega) q2]
theorem xi{G:Tr->Prop}:∀(n:Nat) (l:List Tr),l.length<=n->Tri l->(∀p∈l,Pr p)->Cyc (Sh G) l->Cyc (Sh G) (ddF [] l)
 |n,l,hn,tri,pr,cy=>by
  by_cases nd:l.Nodup
  ·rw[p9 l [] nd (by simp)]
   exact cy
  obtain⟨A,v,C,rfl,hv⟩:=mK l nd
  rw[kY A [] v C (.inr hv)]
  cases n with
  |zero=>simp at hn
  |succ n =>
  have sub:(A++C).Sublist (A++v::C):=(List.Sublist.refl A).append (List.sublist_cons_self v C)
  refine xi n (A++C) (by simp at hn ⊢;omega) (tri.sub sub) (fun p hp=>pr p (sub.subset hp)) ?_
  obtain⟨A1,A2,rfl⟩:=zCB hv
  obtain⟨K,a,hK⟩:∃K a,A1++v::A2=K++[a]:=⟨_,_,(zBV (by simp:A1++v::A2 ≠ [])).symm⟩
  have am:a=v∨∃ A3,A2=A3++[a]:=by
   rcases List.eq_nil_or_concat A2 with rfl|⟨A3,w,rfl⟩
   ·left
    have:=congrArg List.getLast? hK
    simp at this
    exact this.symm
   ·right
    have e:A1++v::A3.concat w=(A1++v::A3)++[w]:=by simp
    rw[e]at hK
    have:=(List.append_inj' hK rfl).2
    cases this
    exact⟨A3,by simp⟩
  have pv:Pr v:=pr v (by simp)
  have pa:Pr a:=pr a (by
   rw[hK]
   simp)
  have glue:∀b,Sh G a v->Sh G v b->(a≠v->dt3 v a b=0)->Sh G a b:=fun b s1 s2 hd=>by
   by_cases q:a=v
   ·rw[q];exact s2
   ·obtain⟨e,ge,ea,ev⟩:=s1
    exact⟨e,ge,ea,Br ea ev (hd q) fun z=>q (rH pv pa z).symm⟩
  rw[hK]
  rw[hK]at cy tri
  rcases C with _|⟨b,C⟩
  ·have c:=cy (K++[a]) v (by simp)
   intro k z ek
   rw[zA5]at ek ⊢
   have ez:a=z:=by
    have:=congrArg List.getLast? ek
    simp at this
    exact this
   subst ez
   have c':Chn (Sh G) ((v::K)++a::[v]):=by simpa using c
   rw[iN]at c'
   obtain⟨c1,c2,_⟩:=c'
   rcases hA:K++[a]with _|⟨b,R⟩
   ·simp at hA
   ·have c3:Chn (Sh G) (v::b::R):=by
     rw[<- hA]
     exact c1
    refine⟨glue b c2 c3.1 fun ne=>?_,c3.2⟩
    obtain⟨A3,rfl⟩:=am.resolve_left ne
    rcases A1 with _|⟨b',A1⟩
    ·rw[<- hK]at hA
     cases hA
     rw[lZ]
    ·rw[<- hK]at hA
     cases hA
     have t1:=tri b v a (by
      rw[<- hK]
      refine List.Sublist.trans ?_ (List.sublist_append_left _ _)
      refine List.Sublist.cons_cons b ?_
      refine List.Sublist.trans ?_ (zBR _ _)
      refine List.Sublist.cons_cons v ?_
      exact zBR _ _)
     have t2:=tri b a v (by
      rw[<- hK]
      refine List.Sublist.cons_cons b ?_
      have:[a,v]=[a]++[v]:=rfl
      rw[this]
      refine List.Sublist.append ?_ (List.Sublist.refl _)
      exact zBb.mpr (by simp))
     rw[eF]at t1
     rw[eF,mS]at t2
     omega
  ·intro k z ek
   have c:=cy (((K++[a])++v::b::C).dropLast) z (by
    have e2:(K++[a]++v::b::C).getLast?=some z:=by
     have h1:(K++[a]++b::C).getLast?=some z:=by rw[ek];simp
     have h2:(K++[a]++b::C).getLast?=(b::C).getLast?:=by rw[List.getLast?_append,zBk (by simp:b::C ≠ [])];rfl
     have h3:(K++[a]++v::b::C)=(K++[a]++[v])++b::C:=by simp
     rw[h3,List.getLast?_append,<- h2,h1]
     rfl
    have hn:K++[a]++v::b::C ≠ []:=by simp
    rw[zBk hn]at e2
    have e3:=(zBV hn).symm
    rw[zAi e2]at e3
    exact e3)
   have c':Chn (Sh G) ((z::K)++a::(v::b::C)):=by simpa using c
   rw[iN]at c'
   obtain⟨c1,c2,c3,c4⟩:=c'
   have:z::(K++[a]++b::C)=(z::K)++a::(b::C):=by simp
   rw[this,iN]
   refine⟨c1,glue b c2 c3 fun ne=>?_,c4⟩
   obtain⟨A3,rfl⟩:=am.resolve_left ne
   have t1:=tri v a b (by
    rw[<- hK]
    have:A1++v::(A3++[a])++v::b::C=(A1++(v::A3))++(a::(v::(b::C))):=by simp
    rw[this]
    have:[v,a,b]=[v]++[a,b]:=rfl
    rw[this]
    refine List.Sublist.append (zBb.mpr (by simp)) (List.Sublist.cons_cons a ?_)
    exact List.Sublist.cons _ (List.Sublist.cons_cons b (List.nil_sublist _)))
   have t2:=tri a v b (by
    have:K++[a]++v::b::C=K++(a::v::b::C):=by simp
    rw[this]
    refine List.Sublist.trans ?_ (zBR _ _)
    exact List.Sublist.cons_cons a (List.Sublist.cons_cons v (List.Sublist.cons_cons b (List.nil_sublist _))))
   rw[mS]at t2
   omega
def plT(w:Tr):Tr:=(w.1.fdiv (PM.dv3 w.1 w.2.1 w.2.2 w.1),w.2.1.fdiv (PM.dv3 w.1 w.2.1 w.2.2 w.1),w.2.2.fdiv (PM.dv3 w.1 w.2.1 w.2.2 w.1))
def cw(g p c:Tr):Tr:=plT (wgh g p c)
theorem xX{w:Tr}(h:w.1≠0):Pr (plT w):=⟨PM.BQ h (PM.o5 _ _ _) fun z=>h z.1,PM.DF fun z=>h z.1⟩
theorem Dx{q w:Tr}(hq:Pr q)(h1:w.1*q.2.1=q.1*w.2.1)(h2:w.1*q.2.2=q.1*w.2.2):∃m,w.1=m*q.1/\w.2.1=m*q.2.1/\w.2.2=m*q.2.2:=by
 obtain⟨m,hm⟩:q.1∣w.1:=iD (d:=q.1) (k:=w.1) (x:=q.1) (y:=q.2.1) (z:=q.2.2) (zB7 _ _) (by rw[h1];exact Int.dvd_mul_right _ _) (by rw[h2];exact Int.dvd_mul_right _ _) hq.low
 have p:=hq.pos
 refine⟨m,by rw[hm,zAn],?_,?_⟩
 ·rw[hm,zCQ]at h1
  exact(zCq (by omega) h1).symm
 ·rw[hm,zCQ]at h2
  exact(zCq (by omega) h2).symm
theorem tQ{g p c:Tr}(hp:0<p.1)(hc:0<c.1)(lt:gvS g p*gvS g c<0):(gvS g p<0/\0<gvS g c/\0<(wgh g p c).1)∨(0<gvS g p/\gvS g c<0/\(wgh g p c).1<0):=by
 rcases Int.lt_or_gt_of_ne (show gvS g p≠0 from fun e=>by rw[e,zBY]at lt;exact zBT _ lt)with a|a
 ·left
  have b:0<gvS g c:=zBS.mp fun b=>zBS.mpr lt (Int.mul_nonneg_of_nonpos_of_nonpos (zAd a) b)
  refine⟨a,b,?_⟩
  show 0<gvS g c*p.1 - gvS g p*c.1
  have:=zBa b hp
  have:=zAt a hc
  omega
 ·right
  have b:gvS g c<0:=zBS.mp fun b=>zBS.mpr lt (zAc (zAd a) b)
  refine⟨a,b,?_⟩
  show gvS g c*p.1 - gvS g p*c.1<0
  have:=zAt b hp
  have:=zBa a hc
  omega
theorem w6(g:Tr):Btw g (cw g):=fun p c hp hc lt=>by
 have k:=tQ hp hc lt
 have e1:=PM.du (l:=(wgh g p c).1) (PM.o5 (wgh g p c).1 (wgh g p c).2.1 (wgh g p c).2.2)
 have e2:=PM.du (l:=(wgh g p c).1) (PM.sr (wgh g p c).1 (wgh g p c).2.1 (wgh g p c).2.2)
 have e3:=PM.du (l:=(wgh g p c).1) (PM.su (wgh g p c).1 (wgh g p c).2.1 (wgh g p c).2.2)
 have hne:(wgh g p c).1≠0:=by rcases k with⟨_,_,q⟩| ⟨_,_,q⟩<;>omega
 have hg:PM.g3 (wgh g p c).1 (wgh g p c).2.1 (wgh g p c).2.2≠0:=fun z=>hne (PM.o6.mp z).1
 have C:∃m s t,Cmb (cw g p c) p c m s t/\s*gvS g p+t*gvS g c=0:=by
  rcases k with⟨a,b,q⟩| ⟨a,b,q⟩
  ·have hd:PM.dv3 (wgh g p c).1 (wgh g p c).2.1 (wgh g p c).2.2 (wgh g p c).1=(PM.g3 (wgh g p c).1 (wgh g p c).2.1 (wgh g p c).2.2:Int):=by
    unfold PM.dv3;rw[if_neg (by omega)]
   refine⟨PM.g3 (wgh g p c).1 (wgh g p c).2.1 (wgh g p c).2.2,gvS g c,-gvS g p,⟨by omega,b,by omega,?_,?_,?_⟩,by rw[zA3,zAn];omega⟩
   ·show _*((wgh g p c).1.fdiv _)=_
    rw[<- hd,zAn,e1,zA3]
    rfl
   ·show _*((wgh g p c).2.1.fdiv _)=_
    rw[<- hd,zAn,e2,zA3]
    rfl
   ·show _*((wgh g p c).2.2.fdiv _)=_
    rw[<- hd,zAn,e3,zA3]
    rfl
  ·have hd:-PM.dv3 (wgh g p c).1 (wgh g p c).2.1 (wgh g p c).2.2 (wgh g p c).1=(PM.g3 (wgh g p c).1 (wgh g p c).2.1 (wgh g p c).2.2:Int):=by
    unfold PM.dv3;rw[if_pos (by omega),Int.neg_neg]
   refine⟨PM.g3 (wgh g p c).1 (wgh g p c).2.1 (wgh g p c).2.2,-gvS g c,gvS g p,⟨by omega,by omega,a,?_,?_,?_⟩,by rw[zA3,zAn];omega⟩
   ·show _*((wgh g p c).1.fdiv _)=_
    rw[<- hd,zA3,zAn,e1,zA3]
    show -(gvS g c*p.1 - gvS g p*c.1)=_
    omega
   ·show _*((wgh g p c).2.1.fdiv _)=_
    rw[<- hd,zA3,zAn,e2,zA3]
    show -(gvS g c*p.2.1 - gvS g p*c.2.1)=_
    omega
   ·show _*((wgh g p c).2.2.fdiv _)=_
    rw[<- hd,zA3,zAn,e3,zA3]
    show -(gvS g c*p.2.2 - gvS g p*c.2.2)=_
    omega
 obtain⟨m,s,t,C,z⟩:=C
 refine⟨⟨m,s,t,C⟩,?_⟩
 have:=C.gv g
 rw[z]at this
 exact(zA4.mp this).resolve_left (by have:=C.m0;omega)
theorem Cr{g p c:Tr}(hp:0<p.1)(hc:0<c.1)(lt:gvS g p*gvS g c<0):Pr (cw g p c):=xX (by rcases tQ hp hc lt with⟨_,_,q⟩| ⟨_,_,q⟩<;>omega)
theorem Cy{e g p:Tr}(he:e≠(0,0,0))(ep:gvS e p=0)(gp:gvS g p≠0):crs e g≠(0,0,0):=fun z=>he (by
 unfold crs at z
 simp only[zBU]at z
 obtain⟨z1,z2,z3⟩:=z
 have h1:e.1*gvS g p=0:=by unfold gvS at *;grind
 have h2:e.2.1*gvS g p=0:=by unfold gvS at *;grind
 have h3:e.2.2*gvS g p=0:=by unfold gvS at *;grind
 have a1:=(zA4.mp h1).resolve_right gp
 have a2:=(zA4.mp h2).resolve_right gp
 have a3:=(zA4.mp h3).resolve_right gp
 obtain⟨x,y,t⟩:=e
 simp_all)
theorem xQ{e g q:Tr}(hq:Pr q)(e1:gvS e q=0)(e2:gvS g q=0)(hw:crs e g≠(0,0,0)):∃m,m≠0/\(crs e g).1=m*q.1/\(crs e g).2.1=m*q.2.1/\(crs e g).2.2=m*q.2.2:=by
 obtain⟨m,h1,h2,h3⟩:=Dx (w:=crs e g) hq (by unfold gvS at *;unfold crs;grind) (by unfold gvS at *;unfold crs;grind)
 refine⟨m,fun z=>hw ?_,h1,h2,h3⟩
 rw[z,zBY]at h1 h2 h3
 exact zBe h1 (zBe h2 h3)
theorem xR{e g q:Tr}(hq:Pr q)(e1:gvS e q=0)(e2:gvS g q=0)(hw:crs e g≠(0,0,0)):q=plT (crs e g):=by
 obtain⟨m,m0,h1,h2,h3⟩:=xQ hq e1 e2 hw
 have w0:(crs e g).1≠0:=by
  rw[h1]
  exact Int.mul_ne_zero m0 (by have:=hq.pos;omega)
 have hp:=xX w0
 have r1:=PM.du (l:=(crs e g).1) (PM.o5 (crs e g).1 (crs e g).2.1 (crs e g).2.2)
 have r2:=PM.du (l:=(crs e g).1) (PM.sr (crs e g).1 (crs e g).2.1 (crs e g).2.2)
 have r3:=PM.du (l:=(crs e g).1) (PM.su (crs e g).1 (crs e g).2.1 (crs e g).2.2)
 have dn:PM.dv3 (crs e g).1 (crs e g).2.1 (crs e g).2.2 (crs e g).1≠0:=PM.rY fun z=>w0 z.1
 apply rH hq hp
 have r1':(plT (crs e g)).1*PM.dv3 (crs e g).1 (crs e g).2.1 (crs e g).2.2 (crs e g).1=m*q.1:=by rw[<- h1];exact r1
 have r2':(plT (crs e g)).2.1*PM.dv3 (crs e g).1 (crs e g).2.1 (crs e g).2.2 (crs e g).1=m*q.2.1:=by rw[<- h2];exact r2
 have r3':(plT (crs e g)).2.2*PM.dv3 (crs e g).1 (crs e g).2.1 (crs e g).2.2 (crs e g).1=m*q.2.2:=by rw[<- h3];exact r3
 generalize PM.dv3 (crs e g).1 (crs e g).2.1 (crs e g).2.2 (crs e g).1=d at *
 generalize plT (crs e g)=p at *
 unfold crs
 have k:∀a b a' b':Int,a*d=m*a'->b*d=m*b'->a'*b - b'*a=0:=fun a b a' b' h h'=>by
  have:m*d*(a'*b - b'*a)=0:=by grind
  exact(zA4.mp this).resolve_left (Int.mul_ne_zero m0 dn)
 rw[k _ _ _ _ r2' r3',k _ _ _ _ r3' r1',k _ _ _ _ r1' r2']
def d9(g:Tr)(l:List Tr):List Tr:=match l.getLast? with
 |none=>[]
 |some z=>ddF [] (aE g (cw g) z l)
structure GB3(n:Nat)(e:Tr):Prop where
 ne:e≠(0,0,0)
 c:Bd (2*n+2) e.1
 a:Bd (n+1) e.2.1
 b:Bd (n+1) e.2.2
structure CB(n:Nat)(p:Tr):Prop where
 b:Bd (2*n+3) p.1
 x:Bd (3*n+4) p.2.1
 y:Bd (3*n+4) p.2.2
structure Cor(n:Nat)(Gs Z l:List Tr):Prop where
 tri:Tri l
 pr:∀p∈l,Pr p
 cb:∀p∈l,CB n p
 cyc:Cyc (Sh (·∈Gs)) l
 mem:∀p∈l,p∈Z
 len:l.length<=Z.length
theorem D6{n m k:Nat}{a b c d:Int}(ha:Bd n a)(hb:Bd m b)(hc:Bd m c)(hd:Bd n d)(hk:n+m+1=k):Bd k (a*b - c*d):=by
 subst hk
 have h1:=ha.mul hb
 have h2:=hc.mul hd
 rw[Nat.add_comm m n]at h2
 exact h1.sub h2
theorem rZ{n:Nat}{m q w:Int}(hm:m≠0)(e:w=m*q)(h:Bd n w):Bd n q:=by
 unfold Bd at *
 rw[e,zB8]at h
 have:q.natAbs<=m.natAbs*q.natAbs:=Nat.le_mul_of_pos_left _ (by omega)
 omega
theorem oK{g:Tr}:∀(l:List Tr) (p:Tr) {y:Tr},y∈aE g (cw g) p l->y∈l∨∃ a b,a∈p::l/\b∈l/\List.Sublist [a,b] (p::l)/\gvS g a*gvS g b<0/\y=cw g a b/\∀R:Tr->Tr->Prop,Chn R (p::l)->R a b
 |[],_,_,h=>by cases h
 |c::r,p,y,h=>by
  unfold aE at h
  rcases zAI.mp h with q|q
  ·split at q
   ·rename_i lt
    exact .inr ⟨p,c,by simp,by simp,List.Sublist.cons_cons p (List.Sublist.cons_cons c (List.nil_sublist _)),lt,zAP.mp q,fun R hR=>hR.1⟩
   ·cases q
  ·rcases zAI.mp q with q|q
   ·split at q
    ·rw[zAP.mp q]
     exact .inl (by simp)
    ·cases q
   ·rcases oK r c q with q|⟨a,b,h1,h2,h3,h4,h5,h6⟩
    ·exact .inl (zAD _ q)
    ·exact .inr ⟨a,b,zAD _ h1,zAD _ h2,h3.cons p,h4,h5,fun R hR=>h6 R hR.2⟩
theorem rR:∀(l seen:List Tr),(ddF seen l).Nodup/\∀x∈ddF seen l,x∉seen
 |[],_=>⟨List.nodup_nil,fun _ h=>(by cases h)⟩
 |x::r,seen=>by
  unfold ddF
  split
  ·exact rR r seen
  ·rename_i q
   obtain⟨a,b⟩:=rR r (seen++[x])
   refine⟨zBh.mpr ⟨fun h=>b x h (by simp),a⟩,fun y hy=>?_⟩
   rcases zAC.mp hy with rfl|hy
   ·exact q
   ·exact fun z=>b y hy (zAu _ z)
theorem sE{l:List Tr}{z:Tr}(h:l.getLast?=some z):l=l.dropLast++[z]:=by
 have hn:l ≠ []:=fun e=>by rw[e]at h;cases h
 rw[zBk hn]at h
 have:=(zBV hn).symm
 rw[zAi h]at this
 exact this
theorem sV:∀{l Z:List Tr},l.Nodup->(∀x∈l,x∈Z)->l.length<=Z.length
 |[],_,_,_=>zAk _
 |x::r,Z,h,hm=>by
  obtain⟨a,b⟩:=zBh.mp h
  obtain⟨A,C,rfl⟩:=zCB (hm x (by simp))
  have:=sV (l:=r) (Z:=A++C) b fun y hy=>by
   have:=hm y (zAD _ hy)
   simp only[zAI,zAC]at this ⊢
   rcases this with q|q|q
   ·exact .inl q
   ·rw[q]at hy;exact absurd hy a
   ·exact .inr q
  simp at this ⊢
  omega
theorem yS{n:Nat}{Gs Z l:List Tr}{g:Tr}(hG:∀e∈Gs,GB3 n e)(hg:g∈Gs)(hZ:∀e∈Gs,plT (crs e g)∈Z)(C:Cor n Gs Z l):Cor n Gs Z (d9 g l):=by
 unfold d9
 cases hl:l.getLast? with
 |none=>exact⟨fun _ _ _ s=>(by cases s),fun _ h=>(by cases h),fun _ h=>(by cases h),fun k z e=>(by simp at e),fun _ h=>(by cases h),zAk _⟩
 |some z =>
  have hz:=sE hl
  have pos:∀x∈l,0<x.1:=fun x hx=>(C.pr x hx).pos
  have zl:z∈l:=by rw[hz];simp
  have pos':∀x∈z::l,0<x.1:=fun x hx=>by
   rcases zAC.mp hx with rfl|hx
   ·exact pos x zl
   ·exact pos x hx
  have B:=w6 g
  have tri0:Tri (z::l):=by
   have:=yu (l:=l.dropLast) (a:=z) (by rw[<- hz];exact C.tri)
   rw[<- hz]at this
   exact this
  have tri1:Tri (aE g (cw g) z l):=jy.t (tP B l z pos' tri0.p).2
  have cy:=Ar B (G:=(·∈Gs)) hg hz pos C.cyc
  have shp:∀y∈aE g (cw g) z l,Pr y/\CB n y/\y∈Z:=fun y hy=>by
   rcases oK l z hy with q|⟨a,b,ha,hb,_,lt,rfl,hR⟩
   ·exact⟨C.pr y q,C.cb y q,C.mem y q⟩
   ·have pa:=pos' a ha
    have pb:=pos b hb
    have pq:=Cr pa pb lt
    obtain⟨e,he,ea,eb⟩:=hR _ (C.cyc _ z hz)
    obtain⟨⟨m,s,t,K⟩,gq⟩:=B a b pa pb lt
    have eq:=K.zero ea eb
    have hw:=Cy (hG e he).ne ea (show gvS g a≠0 from fun z=>by rw[z,zBY]at lt;exact zBT _ lt)
    refine⟨pq,?_,?_⟩
    ·obtain⟨m,m0,h1,h2,h3⟩:=xQ pq eq gq hw
     have E:=hG e he
     have H:=hG g hg
     exact⟨rZ m0 h1 (D6 (k:=2*n+3) E.a H.b E.b H.a (by omega)),rZ m0 h2 (Bd.mono ((E.b.mul H.c).sub (Nat.add_comm _ _ ▸ E.c.mul H.b)) (by omega)),rZ m0 h3 (Bd.mono ((E.c.mul H.a).sub (Nat.add_comm _ _ ▸ E.a.mul H.c)) (by omega))⟩
    ·rw[xR pq eq gq hw]
     exact hZ e he
  have sub:=lV (aE g (cw g) z l) []
  exact⟨tri1.sub sub,fun p hp=>(shp p (sub.subset hp)).1,fun p hp=>(shp p (sub.subset hp)).2.1,xi _ _ (zAM _) tri1 (fun p hp=>(shp p hp).1) cy,fun p hp=>(shp p (sub.subset hp)).2.2,sV (rR _ _).1 fun p hp=>(shp p (sub.subset hp)).2.2⟩
theorem vA{l:List Tr}{g:Tr}(tri:Tri l)(pr:∀p∈l,Pr p):(∀X,InC l X->0<=gvS g X->InC (d9 g l) X)/\(∀y∈d9 g l,0<=gvS g y)/\∀d,(∀p∈l,0<=gvS d p)->∀y∈d9 g l,0<=gvS d y:=by
 unfold d9
 cases hl:l.getLast? with
 |none =>
  have e:=zBx.mp hl
  subst e
  exact⟨fun X h _=>h,fun _ h=>(by cases h),fun _ _ _ h=>by cases h⟩
 |some z =>
  have hz:=sE hl
  have pos:∀x∈l,0<x.1:=fun x hx=>(pr x hx).pos
  have zl:z∈l:=by rw[hz];simp
  have pos':∀x∈z::l,0<x.1:=fun x hx=>by
   rcases zAC.mp hx with rfl|hx
   ·exact pos x zl
   ·exact pos x hx
  have B:=w6 g
  have sub:=lV (aE g (cw g) z l) []
  refine⟨fun X hX gX h hh=>As B hz tri pos hX gX h fun p hp=>?_,fun y hy=>qJ B l z pos' y (sub.subset hy),fun d hd y hy=>nE B l z pos' (fun x hx=>?_) y (sub.subset hy)⟩
  ·exact hh p ((oX _ [] hp).resolve_left (by simp))
  ·rcases zAC.mp hx with rfl|hx
   ·exact hd x zl
   ·exact hd x hx
def bK(gs l:List Tr):List Tr:=gs.foldl (fun l g=>d9 g l) l
theorem xc{n:Nat}{Gs Z:List Tr}{X:Tr}(hG:∀e∈Gs,GB3 n e)(hZ:∀e∈Gs,∀g∈Gs,plT (crs e g)∈Z):∀(gs l:List Tr),(∀g∈gs,g∈Gs/\0<=gvS g X)->Cor n Gs Z l->InC l X →
  Cor n Gs Z (bK gs l)/\InC (bK gs l) X/\(∀g∈gs,∀y∈bK gs l,0<=gvS g y)/\∀d,(∀p∈l,0<=gvS d p)->∀y∈bK gs l,0<=gvS d y
 |[],l,_,C,I=>⟨C,I,fun _ h=>(by cases h),fun _ h=>h⟩
 |g::gs,l,h,C,I=>by
  obtain⟨f1,f2,f3⟩:=vA (g:=g) C.tri C.pr
  obtain⟨a,b,c,d⟩:=xc hG hZ gs (d9 g l) (fun x hx=>h x (zAD _ hx)) (yS hG (h g (by simp)).1 (fun e he=>hZ e he g (h g (by simp)).1) C) (f1 X I (h g (by simp)).2)
  refine⟨a,b,fun x hx y hy=>?_,fun e he=>d e (f3 e he)⟩
  rcases zAC.mp hx with rfl|hx
  ·exact d x f2 y hy
  ·exact c x hx y hy
theorem C6{l:List Tr}{X:Tr}(h:InC l X)(hX:0<X.1):l ≠ []:=fun e=>by
 subst e
 have:=h (-1,0,0) (fun _ q=>by cases q)
 unfold gvS at this
 dsimp only at this
 omega
def sT(p:Sp):Tr:=(1,p.1,p.2)
theorem CK(a b c:Sp):dt3 (sT a) (sT b) (sT c)=cr a b c:=by rw[bT];unfold dt3 sT gvS crs;grind
theorem qY{A B:Int}{x y z:Sp}(hy:0<A*y.1+B*y.2)(hx:0<=A*x.1+B*x.2)(hz:0<=A*z.1+B*z.2)(h1:0<=tn x y)(h2:0<=tn y z):0<=tn x z:=by
 have e:(A*y.1+B*y.2)*tn x z=(A*z.1+B*z.2)*tn x y+(A*x.1+B*x.2)*tn y z:=by unfold tn;grind
 have a1:=zAc hz h1
 have a2:=zAc hx h2
 exact zBD (a:=A*y.1+B*y.2) (by rw[e];omega) hy
def sb(a b:Sp):Sp:=(a.1 - b.1,a.2 - b.2)
theorem fE(a b c:Sp):cr a b c=tn (sb b a) (sb c a):=by rw[bT];unfold tn sb;grind
theorem eV(A B:Int)(a b:Sp):A*(sb a b).1+B*(sb a b).2=fA A B a - fA A B b:=by unfold sb fA;grind
theorem vd{A B:Int}{ps:List Sp}{n:Nat}{l:Nat->Sp}(L:Way A B ps n l){i j k:Nat}(hij:i<j)(hjk:j<k)(hk:k<n):0<=cr (l i) (l j) (l k):=by
 have e1:=L.edge j (by omega) (l i) (L.mem i (by omega))
 have e2:=L.edge j (by omega) (l k) (L.mem k hk)
 have r1:=L.rise i j hij (by omega)
 have r2:=L.rise j (j+1) (by omega) (by omega)
 have r3:=L.rise j k hjk hk
 have:=qY (A:=A) (B:=B) (x:=sb (l j) (l i)) (y:=sb (l (j+1)) (l j)) (z:=sb (l k) (l j)) (by rw[eV];omega) (by rw[eV];omega) (by rw[eV];omega) (by
  rw[bT]at e1
  unfold tn sb
  dsimp only
  have:(l j).1*1=(l j).1:=by omega
  grind) (by rw[<- fE];exact e2)
 rw[fE]
 have e:tn (sb (l j) (l i)) (sb (l k) (l i))=tn (sb (l j) (l i)) (sb (l k) (l j)):=by unfold tn sb;grind
 rw[e]
 exact this
theorem ve{A B:Int}{ps:List Sp}{n m:Nat}{l u:Nat->Sp}(L:Way A B ps n l)(U:Way (-A) (-B) ps (m+2) u)(e0:u (m+1)=l 0){i j k:Nat}(hij:i<j)(hj:j<n)(hk:k<m+2):0<=cr (l i) (l j) (u k):=by
 have up:=U.mem k hk
 have rij:=L.rise i j hij hj
 by_cases c1:fA A B (u k)<=fA A B (l i)
 ·have e1:=L.edge i (by omega) (u k) up
  have e2:=L.edge i (by omega) (l j) (L.mem j hj)
  have r:=L.rise i (i+1) (by omega) (by omega)
  have:=qY (A:=A) (B:=B) (x:=sb (l i) (u k)) (y:=sb (l (i+1)) (l i)) (z:=sb (l j) (l i)) (by rw[eV];omega) (by rw[eV];omega) (by rw[eV];omega) (by
   rw[fE]at e1
   have:tn (sb (l i) (u k)) (sb (l (i+1)) (l i))=tn (sb (l (i+1)) (l i)) (sb (u k) (l i)):=by unfold tn sb;grind
   rw[this];exact e1) (by rw[<- fE];exact e2)
  rw[fE]
  have e:tn (sb (l j) (l i)) (sb (u k) (l i))=tn (sb (l i) (u k)) (sb (l j) (l i)):=by unfold tn sb;grind
  rw[e]
  exact this
 ·by_cases c2:fA A B (l j)<=fA A B (u k)
  ·obtain⟨j',rfl⟩:∃j',j=j'+1:=⟨j - 1,by omega⟩
   have e1:=L.edge j' hj (u k) up
   have e2:=L.edge j' hj (l i) (L.mem i (by omega))
   have r:=L.rise j' (j'+1) (by omega) hj
   have:=qY (A:=A) (B:=B) (x:=sb (l (j'+1)) (l i)) (y:=sb (l (j'+1)) (l j')) (z:=sb (u k) (l (j'+1))) (by rw[eV];omega) (by rw[eV];omega) (by rw[eV];omega) (by
    rw[fE]at e2
    have:tn (sb (l (j'+1)) (l i)) (sb (l (j'+1)) (l j'))=tn (sb (l (j'+1)) (l j')) (sb (l i) (l j')):=by unfold tn sb;grind
    rw[this];exact e2) (by
    rw[fE]at e1
    have:tn (sb (l (j'+1)) (l j')) (sb (u k) (l (j'+1)))=tn (sb (l (j'+1)) (l j')) (sb (u k) (l j')):=by unfold tn sb;grind
    rw[this];exact e1)
   rw[fE]
   have e:tn (sb (l (j'+1)) (l i)) (sb (u k) (l i))=tn (sb (l (j'+1)) (l i)) (sb (u k) (l (j'+1))):=by unfold tn sb;grind
   rw[e]
   exact this
  ·have km:k<m+1:=by
    rcases Nat.lt_or_eq_of_le (Nat.le_of_lt_succ hk)with q|q
    ·exact q
    ·exfalso
     rw[q,e0]at c1
     exact c1 (L.lo _ (L.mem i (by omega)))
   have e1:=U.edge k (by omega) (l i) (L.mem i (by omega))
   have e2:=U.edge k (by omega) (l j) (L.mem j hj)
   have r:=U.rise k (k+1) (by omega) (by omega)
   rw[bR,bR]at r
   have:=qY (A:=A) (B:=B) (x:=sb (l j) (u k)) (y:=sb (u k) (u (k+1))) (z:=sb (u k) (l i)) (by rw[eV];omega) (by rw[eV];omega) (by rw[eV];omega) (by
    rw[fE]at e2
    have:tn (sb (l j) (u k)) (sb (u k) (u (k+1)))=tn (sb (u (k+1)) (u k)) (sb (l j) (u k)):=by unfold tn sb;grind
    rw[this];exact e2) (by
    rw[fE]at e1
    have:tn (sb (u k) (u (k+1))) (sb (u k) (l i))=tn (sb (u (k+1)) (u k)) (sb (l i) (u k)):=by unfold tn sb;grind
    rw[this];exact e1)
   rw[fE]
   have e:tn (sb (l j) (l i)) (sb (u k) (l i))=tn (sb (l j) (u k)) (sb (u k) (l i)):=by unfold tn sb;grind
   rw[e]
   exact this
theorem Cw(a b c:Sp):cr a b c=cr b c a:=by rw[bT,bT];grind
theorem Ae{A B:Int}{ps:List Sp}{n m:Nat}{l u h:Nat->Sp}(L:Way A B ps (n+2) l)(U:Way (-A) (-B) ps (m+2) u)(eM:l (n+1)=u 0)(e0:u (m+1)=l 0)
  (hl:∀k,k<n+2->h k=l k) (hu:∀j,j<m+1->h (n+1+j)=u j) {i j k:Nat} (hij:i<j) (hjk:j<k) (hk:k<n+m+2):0<=cr (h i) (h j) (h k):=by
 have U2:Way A B ps (n+2) l:=L
 have L':Way (-(-A)) (-(-B)) ps (n+2) l:=by rw[Int.neg_neg,Int.neg_neg];exact L
 have hu':∀k,n+1<=k->k<n+m+2->h k=u (k - (n+1)):=fun k h1 h2=>by
  have:=hu (k - (n+1)) (by omega)
  rw[<- this]
  congr 1
  omega
 by_cases ci:i<n+2
 ·by_cases cj:j<n+2
  ·by_cases ck:k<n+2
   ·rw[hl i ci,hl j cj,hl k ck]
    exact vd L hij hjk ck
   ·rw[hl i ci,hl j cj,hu' k (by omega) hk]
    exact ve L U e0 hij cj (by omega)
  ·rw[hl i ci,hu' j (by omega) (by omega),hu' k (by omega) hk,Cw]
   exact ve U L' eM (by omega) (by omega) ci
 ·rw[hu' i (by omega) (by omega),hu' j (by omega) (by omega),hu' k (by omega) hk]
  exact vd U (by omega) (by omega) (by omega)
theorem u9:∀{l:List Tr},(∀i j k (hij:i<j) (hjk:j<k) (hk:k<l.length),0<=dt3 (l[i]'(by omega)) (l[j]'(by omega)) (l[k]'hk))->jy l
 |[],_=>True.intro
 |p::r,h=>⟨zAy.mpr fun i j hi hj q=>h 0 (i+1) (j+1) (by omega) (by omega) (by simp;omega),u9 fun i j k hij hjk hk=>h (i+1) (j+1) (k+1) (by omega) (by omega) (by simp;omega)⟩
theorem sC{ys ps:List Sp}(h:cn ys ps):Tri ((aL ys).map sT)/\(1<(aL ys).length->∀k,k<(aL ys).length->bC (aL ys) k≠(aL ys).getD k (0,0)):=by
 have yl:=mZ h
 obtain⟨o,hm⟩:=h
 unfold aL
 by_cases c:ys.length<2
 ·rw[if_pos c]
  refine⟨fun x y z s=>?_,fun q=>absurd q (by omega)⟩
  have:=s.length_le
  simp at this
  omega
 rw[if_neg c]
 obtain⟨M,M0,hM⟩:=yQ ys
 have oF:ys.Pairwise fun p q=>fA (2*M) 1 p<fA (2*M) 1 q:=by
  refine List.Pairwise.imp_of_mem ?_ o
  intro p q hp hq h
  exact nZ M0 (hM p hp) (hM q hq) h
 have oB:ys.reverse.Pairwise fun p q=>fA (-(2*M)) (-1) p<fA (-(2*M)) (-1) q:=by
  refine List.pairwise_reverse.mpr (oF.imp ?_)
  intro p q h
  rw[bR,bR]
  exact Int.neg_lt_neg h
 have L:=(oM oF (zBl c)).to (qs:=ps) fun p=>(hm p).symm
 have U:=(oM oB (by rw[zA1];exact zBl c)).to (qs:=ps) fun p=>by rw[List.mem_reverse];exact(hm p).symm
 have ll:(aH ys).length<=ys.length:=by
  have:=fg [] ys
  unfold aH
  rw[zA1]
  simpa using this
 have lu:(aH ys.reverse).length<=ys.length:=by
  have:=fg [] ys.reverse
  unfold aH
  rw[zA1]
  simpa using this
 generalize aH ys=l at L ll ⊢
 generalize aH ys.reverse=u at U lu ⊢
 have inj:∀p∈ps,∀q∈ps,fA (2*M) 1 p=fA (2*M) 1 q->p=q:=fun p hp q hq e=>sj oF p ((hm p).mpr hp) q ((hm q).mpr hq) e
 have nl:∀p∈ps,∀q∈ps,fA (2*M) 1 p<=fA (2*M) 1 q->¬fe q p:=fun p hp q hq e x =>
  Int.not_le_of_gt (nZ M0 (hM q ((hm q).mpr hq)) (hM p ((hm p).mpr hp)) x) e
 generalize 2*M=A at L U inj nl
 clear oF oB hM M0 o hm
 obtain⟨n,hn⟩:∃n,l.length=n+2:=⟨l.length - 2,by have:=L.two;omega⟩
 obtain⟨m,hm⟩:∃m,u.length=m+2:=⟨u.length - 2,by have:=U.two;omega⟩
 have hl:(l.dropLast++u.dropLast).length=n+m+2:=by
  rw[zAO,zBA,zBA,hn,hm]
  show n+1+(m+1)=_
  omega
 have memD:∀{w:List Sp} {x:Sp},x∈w.dropLast->x∈w:=fun {w x} hx=>(List.dropLast_sublist w).subset hx
 have gm:∀{w:List Sp} {i:Nat} (hi:i<w.length),w.getD i (0,0)=w[i]:=fun {w i} hi=>by
  rw[zAG,zAB hi];rfl
 rw[hn]at L
 rw[hm]at U
 have eM:l.getD (n+1) (0,0)=u.getD 0 (0,0):=by
  have m1:=L.mem (n+1) (zAx _)
  have m2:=U.mem 0 (zBC _)
  have a1:=L.hi _ m2
  have a2:=U.lo _ m1
  rw[bR,bR]at a2
  exact inj _ m1 _ m2 (zCT (zCg a2) a1)
 have e0:u.getD (m+1) (0,0)=l.getD 0 (0,0):=by
  have m1:=L.mem 0 (zBC _)
  have m2:=U.mem (m+1) (zAx _)
  have a1:=L.lo _ m2
  have a2:=U.hi _ m1
  rw[bR,bR]at a2
  exact inj _ m2 _ m1 (zCT (zCg a2) a1)
 have gu:∀j,j<m+1->(l.dropLast++u.dropLast).getD (n+1+j) (0,0)=u.getD j (0,0):=fun j hj=>by
  have ld:l.dropLast.length=n+1:=by rw[zBA,hn];rfl
  rw[zAG,zAG,zAf (by rw[ld];exact zCl _ _),ld,Nat.add_sub_cancel_left,zCa,hm,if_pos (show j<m+2 - 1 from hj)]
 have gl:∀k,k<n+2->(l.dropLast++u.dropLast).getD k (0,0)=l.getD k (0,0):=fun k hk=>by
  rcases Nat.lt_or_eq_of_le (Nat.le_of_lt_succ hk)with z|z
  ·rw[zAG,zAG,zAq (by rw[zBA,hn];exact z),zCa,hn,if_pos (show k<n+2 - 1 from z)]
  ·rw[z,eM]
   exact gu 0 (zBC _)
 constructor
 rotate_left
 ·intro _ k hk e
  rw[hl]at hk
  unfold bC at e
  rw[hl]at e
  have gu':∀k,n+1<=k->k<n+m+2->(l.dropLast++u.dropLast).getD k (0,0)=u.getD (k - (n+1)) (0,0):=fun k h1 h2=>by
   have:=gu (k - (n+1)) (by omega)
   rw[<- this]
   congr 1
   omega
  cases k with
  |zero =>
   have e1:(0+(n+m+2) - 1) % (n+m+2)=n+m+1:=by rw[zAg (by omega)];omega
   rw[e1,gu' _ (by omega) (by omega),gl 0 (by omega),<- e0]at e
   have:=U.rise (n+m+1 - (n+1)) (m+1) (by omega) (by omega)
   rw[e]at this
   exact zBT _ this
  |succ k =>
   have e1:(k+1+(n+m+2) - 1) % (n+m+2)=k:=by
    have:k+1+(n+m+2) - 1=k+(n+m+2):=by omega
    rw[this,zCH,zAg (by omega)]
   rw[e1]at e
   by_cases q:k+1<n+2
   ·rw[gl k (by omega),gl (k+1) q]at e
    have:=L.rise k (k+1) (by omega) q
    rw[e]at this
    exact zBT _ this
   ·rw[gu' k (by omega) (by omega),gu' (k+1) (by omega) hk]at e
    have:=U.rise (k - (n+1)) (k+1 - (n+1)) (by omega) (by omega)
    rw[e]at this
    exact zBT _ this
 apply jy.t
 apply u9
 intro i j k hij hjk hk
 rw[zAA,hl]at hk
 have R:=Ae L U eM e0 gl gu hij hjk hk
 rw[gm (by rw[hl];omega),gm (by rw[hl];omega),gm (by rw[hl];omega)]at R
 rw[zAz,zAz,zAz,CK]
 exact R
theorem Ep(p:Sp):Pr (sT p):=⟨by show(0:Int)<1;decide,by
 show PM.g3 1 p.1 p.2=1
 unfold PM.g3
 rw[Int.one_gcd]
 exact Int.one_gcd⟩
theorem ma(h X:Tr)(p:Sp):X.1*gvS h (sT p) - gvS h X=h.2.1*(arS X p).1+h.2.2*(arS X p).2:=by unfold gvS sT arS;grind
theorem zA{X:Tr}{hs:List Sp}(h0:0<X.1)(B:mM X hs):InC (hs.map sT) X:=fun h hh=>by
 have hp:∀p∈hs,0<=X.1*gvS h (sT p):=fun p hp=>zAc (zAd h0) (hh _ (zAQ.mpr ⟨p,hp,rfl⟩))
 have two:∀p∈hs,∀q∈hs,∀s t:Int,0<s->0<t->s*(arS X p).1+t*(arS X q).1=0->s*(arS X p).2+t*(arS X q).2=0->0<=gvS h X:=fun p pm q qm s t s0 t0 e1 e2=>by
  have g1:=ma h X p
  have g2:=ma h X q
  have a1:=zAc (zAd s0) (hp p pm)
  have a2:=zAc (zAd t0) (hp q qm)
  have e:(s+t)*gvS h X=s*(X.1*gvS h (sT p))+t*(X.1*gvS h (sT q)):=by grind
  exact zBD (a:=s+t) (by rw[e];omega) (by omega)
 have three:∀p∈hs,∀q∈hs,∀r∈hs,∀s t w:Int,0<s->0<t->0<w->s*(arS X p).1+t*(arS X q).1+w*(arS X r).1=0->s*(arS X p).2+t*(arS X q).2+w*(arS X r).2=0->0<=gvS h X:=fun p pm q qm r rm s t w s0 t0 w0 e1 e2=>by
  have g1:=ma h X p
  have g2:=ma h X q
  have g3:=ma h X r
  have a1:=zAc (zAd s0) (hp p pm)
  have a2:=zAc (zAd t0) (hp q qm)
  have a3:=zAc (zAd w0) (hp r rm)
  have e:(s+t+w)*gvS h X=s*(X.1*gvS h (sT p))+t*(X.1*gvS h (sT q))+w*(X.1*gvS h (sT r)):=by grind
  exact zBD (a:=s+t+w) (by rw[e];omega) (by omega)
 rcases B with⟨p,pm,b⟩| ⟨p,pm,q,qm,b⟩| ⟨p,pm,q,qm,r,rm,b⟩
 ·have g:=ma h X p
  have b':arS X p=(0,0):=b
  rw[b',zCK,zCK]at g
  have:=hp p pm
  omega
 ·obtain⟨o1,o2⟩:=xS b.1
  have nz:arS X q≠(0,0):=fun e=>by have:=b.2;rw[e]at this;unfold dt2 at this;simp at this
  exact two p pm q qm _ _ (iO nz) (by have:=b.2;omega) o1 o2
 ·obtain⟨o1,o2⟩:=yP (arS X p) (arS X q) (arS X r)
  rcases b with⟨b1,b2,b3⟩| ⟨b1,b2,b3⟩
  ·exact three p pm q qm r rm _ _ _ b1 b2 b3 o1 o2
  ·exact three p pm q qm r rm (-tn (arS X q) (arS X r)) (-tn (arS X r) (arS X p)) (-tn (arS X p) (arS X q)) (by omega) (by omega) (by omega) (by rw[zA3,zA3,zA3];omega) (by rw[zA3,zA3,zA3];omega)
theorem vX{hs ps:List Sp}(g:jW hs ps)(hn:ps ≠ []):jW hs hs:=by
 refine⟨fun _ h=>h,by omega,fun _=>?_,fun a e p hp=>g.one a e p (g.mem p hp),fun a b e=>⟨(g.two a b e).1,fun p hp=>(g.two a b e).2 p (g.mem p hp)⟩,fun q k hk p hp=>g.edge q k hk p (g.mem p hp),g.bend⟩
 obtain⟨a,r,e,hl⟩:=g.some_ hn
 exact⟨a,r,e,fun p hp=>hl p (g.mem p hp)⟩
theorem o8{hs ps:List Sp}(g:jW hs ps)(hn:ps ≠ []):hs ≠ []:=by
 obtain⟨a,r,e,_⟩:=g.some_ hn
 rw[e]
 simp
theorem zy{hs ps:List Sp}{X:Tr}(g:jW hs ps)(hn:ps ≠ [])(h0:0<X.1)(hov:∀b∈aU hs,0<=gvS b X):InC (hs.map sT) X :=
 zA h0 (qD (vX g hn) (o8 g hn) h0 hov)
theorem yV(a b:Sp):gvS (dM a b) (sT a)=0/\gvS (dM a b) (sT b)=0:=by
 constructor<;>(unfold gvS dM sT;grind)
theorem oZ(a w:Sp):gvS (bQ a w) (sT a)=0:=by unfold gvS bQ sT;grind
theorem rE{R:Tr->Tr->Prop}:∀{l:List Tr},(∀i (h:i+1<l.length),R (l[i]'(by omega)) l[i+1])->Chn R l
 |[],_=>True.intro
 |[_],_=>True.intro
 |a::b::r,h=>⟨h 0 (by simp),rE fun i hi=>h (i+1) (by simp at hi ⊢;omega)⟩
theorem zx{hs:List Sp}{Gs:List Tr}(hn:hs ≠ [])(hG:∀b∈aU hs,b∈Gs):Cyc (Sh (·∈Gs)) (hs.map sT):=fun k z ek=>by
 by_cases c:hs.length<3
 ·have eb:aU hs=dH (hs.getD 0 (0,0)) (hs.getD (hs.length - 1) (0,0)):=by unfold aU;rw[if_pos c]
  have am:∃e∈Gs,∀p∈hs,gvS e (sT p)=0:=by
   refine⟨bQ (hs.getD 0 (0,0)) (lfW (aQ (hs.getD 0 (0,0)) (hs.getD (hs.length - 1) (0,0)))),hG _ (by rw[eb];unfold dH;simp),fun p hp=>?_⟩
   rcases hs with _|⟨a,_|⟨b,_|⟨d,r⟩⟩⟩
   ·exact absurd rfl hn
   ·rw[zAP.mp hp]
    exact oZ _ _
   ·simp only[zAC,zAS,or_false]at hp
    rcases hp with rfl|rfl
    ·exact oZ _ _
    ·show gvS (bQ a (lfW (aQ a p))) (sT p)=0
     unfold aQ
     split
     ·rename_i e
      rw[<- e]
      exact oZ _ _
     ·unfold gvS bQ sT lfW
      grind
   ·simp at c;omega
  obtain⟨e,he,hp⟩:=am
  have all:∀x∈hs.map sT,gvS e x=0:=fun x hx=>by
   obtain⟨p,pm,rfl⟩:=zAQ.mp hx
   exact hp p pm
  have zm:z∈hs.map sT:=by rw[ek];simp
  have all':∀x∈z::hs.map sT,gvS e x=0:=fun x hx=>by
   rcases zAC.mp hx with rfl|hx
   ·exact all x zm
   ·exact all x hx
  exact rE fun i hi=>⟨e,he,all' _ (zBL _),all' _ (zBL _)⟩
 ·have eb:aU hs=(List.range' 0 hs.length).map fun k=>dM (bC hs k) (hs.getD k (0,0)):=by unfold aU;rw[if_neg c]
  have gm:∀{i:Nat} (hi:i<hs.length),hs.getD i (0,0)=hs[i]:=fun {i} hi=>by
   rw[zAG,zAB hi];rfl
  have on:∀i (hi:i<hs.length),Sh (·∈Gs) (sT (bC hs i)) (sT hs[i]):=fun i hi=>by
   obtain⟨o1,o2⟩:=yV (bC hs i) (hs.getD i (0,0))
   refine⟨_,hG (dM (bC hs i) (hs.getD i (0,0))) (by rw[eb];exact zAQ.mpr ⟨i,by simp[hi],rfl⟩),o1,?_⟩
   rw[<- gm hi]
   exact o2
  have ez:z=sT (bC hs 0):=by
   have e1:(hs.map sT).getLast?=some z:=by rw[ek];simp
   rw[List.getLast?_map,zCs]at e1
   unfold bC
   have:(0+hs.length - 1) % hs.length=hs.length - 1:=by rw[zA6];exact zAg (by omega)
   rw[this,gm (by omega)]
   rw[zAB (by omega)]at e1
   exact(zAi e1).symm
  refine rE fun i hi=>?_
  cases i with
  |zero =>
   show Sh _ z ((hs.map sT)[0]'_)
   rw[ez,zAz]
   exact on 0 (by omega)
  |succ i =>
   show Sh _ ((hs.map sT)[i]'_) ((hs.map sT)[i+1]'_)
   rw[zAz,zAz]
   simp at hi
   have:=on (i+1) (by omega)
   unfold bC at this
   have e:(i+1+hs.length - 1) % hs.length=i:=by
    have:i+1+hs.length - 1=i+hs.length:=by omega
    rw[this,zCH]
    exact zAg (by omega)
   rw[e,gm (by omega)]at this
   exact this
theorem yK{n:Nat}{a b:Sp}(ha:WB n a)(hb:WB n b):WB (n+1) (aQ a b)/\aQ a b≠(0,0):=by
 unfold aQ
 split
 ·exact⟨⟨by unfold Bd;have:=zB3 (n:=2) (by decide) (show 1<=n+1 by omega);omega,by unfold Bd;exact Nat.pow_pos (by decide)⟩,by simp⟩
 ·rename_i ne
  refine⟨⟨?_,?_⟩,fun z=>ne ?_⟩
  ·show Bd _ (1*b.1 - 1*a.1)
   rw[zA9,zA9];exact hb.x.sub ha.x
  ·show Bd _ (1*b.2 - 1*a.2)
   rw[zA9,zA9];exact hb.y.sub ha.y
  ·simp only[zBU]at z
   exact zBe (by omega) (by omega)
theorem l6{n:Nat}{a w:Sp}(ha:WB n a)(hw:WB (n+1) w)(h0:w≠(0,0)):GB3 n (bQ a w):=by
 unfold bQ
 refine⟨fun z=>h0 ?_,?_,?_,?_⟩
 ·simp only[zBU]at z
  exact zBe (by omega) (by omega)
 ·exact Bd.mono (Bd.neg ((hw.x.mul ha.x).add (hw.y.mul ha.y))) (by omega)
 ·show Bd _ (w.1*1)
  rw[Int.mul_one];exact hw.x
 ·show Bd _ (w.2*1)
  rw[Int.mul_one];exact hw.y
theorem z9{hs:List Sp}(hn:hs ≠ [])(k:Nat):bC hs k∈hs:=by
 unfold bC
 have:(k+hs.length - 1) % hs.length<hs.length:=zB1 _ (List.length_pos_iff.mpr hn)
 rw[zAG,zAB this]
 exact zBL _
theorem getD_mem{hs:List Sp}{k:Nat}(h:k<hs.length):hs.getD k (0,0)∈hs:=by
 rw[zAG,zAB h]
 exact zBL _
theorem w5{n:Nat}{hs:List Sp}(hn:hs ≠ [])(nd:1<hs.length->∀k,k<hs.length->bC hs k≠hs.getD k (0,0))(hb:∀p∈hs,WB n p):∀b∈aU hs,GB3 n b:=fun b hbm=>by
 unfold aU at hbm
 split at hbm
 ·rename_i c
  have l0:0<hs.length:=List.length_pos_iff.mpr hn
  have wa:=hb _ (getD_mem (hs:=hs) (k:=0) l0)
  have wb:=hb _ (getD_mem (hs:=hs) (k:=hs.length - 1) (by omega))
  obtain⟨w1,w2⟩:=yK wa wb
  generalize hs.getD 0 (0,0)=a at *
  generalize hs.getD (hs.length - 1) (0,0)=d at *
  unfold dH at hbm
  simp only[zAC,zAS,or_false]at hbm
  generalize aQ a d=w at *
  have bk:WB (n+1) (bkW w)/\bkW w≠(0,0):=⟨⟨w1.x.neg,w1.y.neg⟩,fun z=>w2 (by
   unfold bkW at z
   simp only[zBU]at z
   exact zBe (by omega) (by omega))⟩
  have lf:WB (n+1) (lfW w)/\lfW w≠(0,0):=⟨⟨w1.y.neg,w1.x⟩,fun z=>w2 (by
   unfold lfW at z
   simp only[zBU]at z
   exact zBe (by omega) (by omega))⟩
  have bl:WB (n+1) (bkW (lfW w))/\bkW (lfW w)≠(0,0):=⟨⟨lf.1.x.neg,lf.1.y.neg⟩,fun z=>lf.2 (by
   generalize lfW w=v at *
   unfold bkW at z
   simp only[zBU]at z
   exact zBe (by omega) (by omega))⟩
  rcases hbm with rfl|rfl|rfl|rfl
  ·exact l6 wa w1 w2
  ·exact l6 wb bk.1 bk.2
  ·exact l6 wa lf.1 lf.2
  ·exact l6 wa bl.1 bl.2
 ·rename_i c
  obtain⟨k,hk,rfl⟩:=zAQ.mp hbm
  have hk':k<hs.length:=by simp at hk;exact hk
  have ne:=nd (by omega) k hk'
  have wa:=hb _ (z9 hn k)
  have wb:=hb _ (getD_mem hk')
  generalize bC hs k=a at *
  generalize hs.getD k (0,0)=d at *
  unfold dM
  refine⟨fun z=>ne ?_,?_,?_,?_⟩
  ·simp only[zBU]at z
   exact zBe (by omega) (by omega)
  ·exact Bd.mono ((wa.x.mul wb.y).sub (wb.x.mul wa.y)) (by omega)
  ·show Bd _ (a.2*1 - d.2*1)
   rw[Int.mul_one,Int.mul_one];exact wa.y.sub wb.y
  ·show Bd _ (1*d.1 - 1*a.1)
   rw[zA9,zA9];exact wb.x.sub wa.x
theorem zw{n:Nat}{ys ps:List Sp}{Gs Z:List Tr}(h:cn ys ps)(hn:ps ≠ [])(hb:∀p∈ps,WB n p)(hG:∀b∈aU (aL ys),b∈Gs)(hZ:∀p∈aL ys,sT p∈Z)(hL:(aL ys).length<=Z.length):Cor n Gs Z ((aL ys).map sT):=by
 have g:=dQ h
 have w:∀p∈aL ys,WB n p:=fun p hp=>hb p (g.mem p hp)
 refine⟨(sC h).1,fun p hp=>?_,fun p hp=>?_,zx (o8 g hn) hG,fun p hp=>?_,by rw[zAA];exact hL⟩
 ·obtain⟨q,_,rfl⟩:=zAQ.mp hp
  exact Ep q
 ·obtain⟨q,qm,rfl⟩:=zAQ.mp hp
  refine⟨?_,(w q qm).x.mono (by omega),(w q qm).y.mono (by omega)⟩
  show Bd _ 1
  unfold Bd
  exact zAW (show 1<2 ^ 1 by decide) (zB3 (by decide) (by omega))
 ·obtain⟨q,qm,rfl⟩:=zAQ.mp hp
  exact hZ q qm
theorem yB(g:Tr)(qf:Tr->Tr->Tr)(z:Tr)(l:List Tr)(c:Tr):aE g qf z (l++[c])=aE g qf z l++((if gvS g (l.getLastD z)*gvS g c<0 then[qf (l.getLastD z) c]else[])++(if 0<=gvS g c then[c]else[])):=by
 rcases List.eq_nil_or_concat l with rfl|⟨k,p,rfl⟩
 ·simp only[zAv,aE,zA5,List.getLastD_nil]
  rfl
 ·rw[List.concat_eq_append,zA7]
  show aE g qf z (k++p::[c])=_
  rw[gE]
  congr 1
  simp only[aE,zA5]
  rw[List.getLastD_concat]
theorem nC(g:Tr)(qf:Tr->Tr->Tr):∀(l:List Tr) (z:Tr),(aE g qf z l).length<=2*l.length
 |[],_=>zAM _
 |c::r,z=>by
  unfold aE
  have:=nC g qf r c
  rw[zAO,zAO,zAb]
  split<;>split<;>simp<;>omega
theorem kW:∀(l s s':List Tr),(∀x,x∈s↔x∈s')->ddF s l=ddF s' l
 |[],_,_,_=>rfl
 |x::r,s,s',h=>by
  unfold ddF
  by_cases q:x∈s
  ·rw[if_pos q,if_pos ((h x).mp q)]
   exact kW r s s' h
  ·rw[if_neg q,if_neg fun z=>q ((h x).mpr z)]
   congr 1
   exact kW r _ _ fun y=>by simp[h y]
theorem rS(z:Tr):∀(l pre:List Tr),((List.range' pre.length l.length).filter fun k=>!((pre++l).take k).any fun y=>decide (y=(pre++l).getD k z)).map (fun k=>(pre++l).getD k z)=ddF pre l
 |[],pre=>rfl
 |x::r,pre=>by
  have ih:=rS z r (pre++[x])
  have e:pre++[x]++r=pre++x::r:=by simp
  rw[e]at ih
  have hx:(pre++x::r).getD pre.length z=x:=by simp[zAG]
  have ht:(pre++x::r).take pre.length=pre:=by simp
  rw[zAb,List.range'_succ,List.filter_cons,hx,ht]
  have ha:(pre.any fun y=>decide (y=x))=decide (x∈pre):=by
   rw[zCR]
   simp
  rw[ha]
  have hl:(pre++[x]).length=pre.length+1:=by simp
  rw[hl]at ih
  unfold ddF
  by_cases q:x∈pre
  ·rw[if_pos q,if_neg (by simp[q]),ih]
   exact kW r _ _ fun y=>by
    simp only[zAI,zAP]
    exact⟨fun h=>h.elim id fun e=>e ▸ q,.inl⟩
  ·rw[if_neg q,if_pos (by simp[q]),zAK,hx,ih]
theorem DJ(a b:Int):(sg a*sg b<0)↔a*b<0:=by
 unfold sg
 rcases zB4 a 0 with ha|ha|ha
 ·rw[if_neg (by omega),if_pos ha]
  rcases zB4 b 0 with hb|hb|hb
  ·rw[if_neg (by omega),if_pos hb]
   have:=zBf ha hb
   constructor<;>intro<;>omega
  ·subst hb;simp
  ·rw[if_pos hb]
   have:=zAt ha hb
   constructor<;>intro<;>omega
 ·subst ha;simp
 ·rw[if_pos ha]
  rcases zB4 b 0 with hb|hb|hb
  ·rw[if_neg (by omega),if_pos hb]
   have:=zBw ha hb
   constructor<;>intro<;>omega
  ·subst hb;simp
  ·rw[if_pos hb]
   have:=zBa ha hb
   constructor<;>intro<;>omega
theorem DK(a:Int):(0<=sg a)↔0<=a:=by
 unfold sg
 split
 ·constructor<;>intro<;>omega
 ·split<;>(constructor<;>intro<;>omega)
theorem CQ(p q:Tr):eqD (trD p) (trD q)=decide (p=q):=by
 unfold trD
 rw[si]
 obtain⟨a,b,c⟩:=p
 obtain⟨d,e,f⟩:=q
 rw[zCR]
 simp
theorem ml(p:Tr):OkN 1 (trD p):=OkN.tup (.cons (.int _ _) (.cons (.int _ _) (.cons (.int _ _) (.nil _))))
def aZ(ps:List Sp):D:=.lst false (ps.map spD)
theorem zI{p q:List Sp}(h:aZ p=aZ q):p=q:=by
 unfold aZ at h
 simp only[D.lst.injEq,true_and]at h
 exact jU h
theorem ph{ps qs:List (List Sp)}(h:ps.map aZ=qs.map aZ):ps=qs:=gW zI h
theorem kI(p:List Sp):aM (aZ p)=aZ p:=by unfold aZ;rw[bP,fY]
theorem iK(ps:List (List Sp)):aX (ps.map aZ)=ps.map aZ:=da aZ kI ps
def bJ:List (List Sp)->List (List Sp)->Prop
 |[],[]=>True
 |ys::yss,ps::Ls=>cn ys ps/\bJ yss Ls
 |_,_=>False
theorem bJ.one:∀{yss zss Ls:List (List Sp)},bJ yss Ls->bJ zss Ls->yss=zss
 |[],[],[],_,_=>rfl
 |_::_,_::_,_::_,a,b=>by rw[m5 a.1 b.1,bJ.one a.2 b.2]
 |[],_::_,[],_,b=>b.elim
 |_::_,_,[],a,_=>a.elim
 |[],_,_::_,a,_=>a.elim
 |_::_,[],_::_,_,b=>b.elim
theorem bJ.len:∀{yss Ls:List (List Sp)},bJ yss Ls->yss.length=Ls.length
 |[],[],_=>rfl
 |_::_,_::_,a=>by rw[zAb,zAb,bJ.len a.2]
 |[],_::_,a=>a.elim
 |_::_,[],a=>a.elim
theorem bJ.snoc:∀{yss Ls:List (List Sp)} {ys ps:List Sp},bJ yss Ls->cn ys ps->bJ (yss++[ys]) (Ls++[ps])
 |[],[],_,_,_,h=>⟨h,True.intro⟩
 |_::_,_::_,_,_,a,h=>⟨a.1,bJ.snoc a.2 h⟩
 |[],_::_,_,_,a,_=>a.elim
 |_::_,[],_,_,a,_=>a.elim
theorem bJ.ex:∀{yss Ls:List (List Sp)},bJ yss Ls->∀ys∈yss,∃ps∈Ls,cn ys ps
 |[],_,_,_,h=>by cases h
 |y::yss,p::Ls,a,ys,h=>by
  rcases zAC.mp h with rfl|h
  ·exact⟨p,by simp,a.1⟩
  ·obtain⟨ps,m,r⟩:=bJ.ex a.2 ys h
   exact⟨ps,zAD _ m,r⟩
 |_::_,[],a,_,_=>a.elim
theorem bJ.ex2:∀{yss Ls:List (List Sp)},bJ yss Ls->∀ps∈Ls,∃ys∈yss,cn ys ps
 |_,[],_,_,h=>by cases h
 |y::yss,p::Ls,a,ps,h=>by
  rcases zAC.mp h with rfl|h
  ·exact⟨y,by simp,a.1⟩
  ·obtain⟨ys,m,r⟩:=bJ.ex2 a.2 ps h
   exact⟨ys,zAD _ m,r⟩
 |[],_::_,a,_,_=>a.elim
def aO:Nat->List (List Sp)->List (Int×Tr)
 |_,[]=>[]
 |n,ys::r=>((aU (aL ys)).map fun g=>((n:Int),g))++aO (n+1) r
theorem n9:∀(yss:List (List Sp)) (n:Nat) (ys:List Sp),aO n (yss++[ys])=aO n yss++(aU (aL ys)).map fun g=>(((n+yss.length:Nat):Int),g)
 |[],n,ys=>by simp[aO]
 |y::yss,n,ys=>by
  rw[zAe,aO,aO,n9 yss (n+1) ys,zA7,zAb]
  congr 4
  funext g
  congr 2
  omega
theorem qE:∀{yss:List (List Sp)} {n:Nat} {x:Int×Tr},x∈aO n yss->∃ys∈yss,x.2∈aU (aL ys)
 |[],_,_,h=>by cases h
 |y::yss,n,x,h=>by
  rw[aO]at h
  rcases zAI.mp h with h|h
  ·obtain⟨g,hg,rfl⟩:=zAQ.mp h
   exact⟨y,by simp,hg⟩
  ·obtain⟨ys,m,q⟩:=qE h
   exact⟨ys,zAD _ m,q⟩
theorem k9:∀{yss:List (List Sp)} (n:Nat) {ys:List Sp} {g:Tr},ys∈yss->g∈aU (aL ys)->g∈(aO n yss).map (·.2)
 |[],_,_,_,h,_=>by cases h
 |y::yss,n,ys,g,h,hg=>by
  rw[aO,zA0]
  rcases zAC.mp h with rfl|h
  ·refine zAu _ ?_
   rw[zAo]
   exact zAQ.mpr ⟨g,hg,rfl⟩
  ·exact zAR _ (k9 (n+1) h hg)
theorem lh{B:Nat}:∀(yss:List (List Sp)) (n:Nat),(∀ys∈yss,(aU (aL ys)).length<=B)->(aO n yss).length<=B*yss.length
 |[],_,_=>zAk _
 |y::yss,n,h=>by
  rw[aO,zAO,zAA,zAb,Nat.mul_succ]
  have:=h y (by simp)
  have:=lh yss (n+1) fun z hz=>h z (zAD _ hz)
  omega
def ogD(x:Int×Tr):D:=.tup [.int x.1,trD x.2]
theorem nB(x:Int×Tr):aM (ogD x)=ogD x:=by unfold ogD;simp only[cL,bF,bN,dY,d5]
theorem oI(xs:List (Int×Tr)):aX (xs.map ogD)=xs.map ogD:=da ogD nB xs
def cZ(r:List Nat×List Int):D:=.tup [pkD r.1,.lst true (r.2.map D.int)]
def fG (y:Tr) (rs:List (List Nat×List Int)):D:=.tup [.str "meet", trD y,.lst true (rs.map cZ)]
def nI(Ls:List (List Sp))(y:Tr)(rs:List (List Nat×List Int)):Prop :=
 ∃ yss,bJ yss Ls/\(bK ((aO 0 yss).map (·.2)) ((aL (yss.getD 0 [])).map sT)).head?=some y/\rs.map some=Ls.map fun ps=>bV (ps.map (arS y)) (cF ps.length)
theorem some_inj{α:Type}:∀{xs ys:List α},xs.map some=ys.map some->xs=ys
 |[],[],_=>rfl
 |[],_::_,h=>by cases h
 |_::_,[],h=>by cases h
 |x::xs,y::ys,h=>by
  rw[zAK,zAK]at h
  injection h with h1 h2
  rw[zAi h1,some_inj h2]
theorem nI.one{Ls:List (List Sp)}{y y':Tr}{rs rs':List (List Nat×List Int)}(a:nI Ls y rs)(b:nI Ls y' rs'):y=y'/\rs=rs':=by
 obtain⟨yss,r1,h1,e1⟩:=a
 obtain⟨zss,r2,h2,e2⟩:=b
 have:=r1.one r2
 subst this
 rw[h1]at h2
 have:=zAi h2
 subst this
 exact⟨rfl,some_inj (e1.trans e2.symm)⟩
structure LsOk(Ls:List (List Sp)):Prop where
 l0:0<Ls.length
 l8:Ls.length<=8
 ne:∀ps∈Ls,0<ps.length
 le:∀ps∈Ls,ps.length<=30
 bd:∀ps∈Ls,∀p∈ps,WB 40 p
def oO(Ls:List (List Sp))(X:Tr):Prop:=0<X.1/\∀ps∈Ls,∀g:Tr,(∀p∈ps,0<=gvS g (1,p.1,p.2))->0<=gvS g X
theorem CB.pb{y:Tr}(h:CB 40 y)(p:Pr y):PB 160 y:=⟨p.pos,h.b.mono (by decide),h.x.mono (by decide),h.y.mono (by decide)⟩
theorem vY{Ls yss:List (List Sp)}{X:Tr}(L:LsOk Ls)(K:bJ yss Ls)(C:oO Ls X):∃Z:List Tr,Z.length<=300000/\(∀j,Cor 40 ((aO 0 yss).map (·.2)) Z (bK (((aO 0 yss).map (·.2)).take j) ((aL (yss.getD 0 [])).map sT)))
  /\ InC (bK ((aO 0 yss).map (·.2)) ((aL (yss.getD 0 [])).map sT)) X/\(∀g∈(aO 0 yss).map (·.2),GB3 40 g/\∀y∈bK ((aO 0 yss).map (·.2)) ((aL (yss.getD 0 [])).map sT),0<=gvS g y)/\0<((aO 0 yss).map (·.2)).length/\((aO 0 yss).map (·.2)).length<=512:=by
 have hy:∀ys∈yss,∃ps∈Ls,cn ys ps:=K.ex
 have gb:∀g∈(aO 0 yss).map (·.2),GB3 40 g/\0<=gvS g X:=fun g hg=>by
  obtain⟨x,hx,rfl⟩:=zAQ.mp hg
  obtain⟨ys,ym,hb⟩:=qE hx
  obtain⟨ps,pm,r⟩:=hy ys ym
  have gd:=dQ r
  have ne:=zBg (L.ne ps pm)
  exact⟨w5 (o8 gd ne) (sC r).2 (fun p hp=>L.bd ps pm p (gd.mem p hp)) x.2 hb,C.2 ps pm x.2 fun p hp=>tV gd ne hb hp⟩
 obtain⟨ps0,Lr,rfl⟩:∃p r,Ls=p::r:=by
  cases Ls with
  |nil=>exact absurd L.l0 (by simp)
  |cons p r=>exact⟨p,r,rfl⟩
 obtain⟨ys0,yr,rfl⟩:∃p r,yss=p::r:=by
  cases yss with
  |nil=>exact K.elim
  |cons p r=>exact⟨p,r,rfl⟩
 have r0:cn ys0 ps0:=K.1
 have gd0:=dQ r0
 have ne0:=zBg (L.ne ps0 (by simp))
 show∃Z:List Tr,Z.length<=300000/\(∀j,Cor 40 _ Z (bK _ ((aL ys0).map sT)))/\InC (bK _ ((aL ys0).map sT)) X/\(∀g∈_,GB3 40 g/\∀y∈bK _ ((aL ys0).map sT),0<=gvS g y)/\_
 have l60:∀ys∈ys0::yr,(aU (aL ys)).length<=64:=fun ys hys=>by
  obtain⟨ps,pm,r⟩:=hy ys hys
  have:=(dQ r).len
  have:=L.le ps pm
  have:=jY (aL ys)
  omega
 have lo:(aO 0 (ys0::yr)).length<=64*(ys0::yr).length:=lh _ 0 l60
 have ly:=K.len
 have l8:=L.l8
 have b0:∀b∈aU (aL ys0),b∈(aO 0 (ys0::yr)).map (·.2):=fun b hb=>k9 0 (by simp) hb
 have lpos:0<((aO 0 (ys0::yr)).map (·.2)).length:=by
  rw[zAA,aO,zAO,zAA]
  have:0<(aU (aL ys0)).length:=by
   unfold aU
   split
   ·unfold dH;simp
   ·rw[zAA,zAj];omega
  omega
 have lG:((aO 0 (ys0::yr)).map (·.2)).length<=512:=by rw[zAA];omega
 generalize (aO 0 (ys0::yr)).map (·.2)=Gs at gb b0 lpos lG ⊢
 let Z:List Tr:=(aL ys0).map sT++Gs.flatMap fun e=>Gs.map fun g=>plT (crs e g)
 have Zl:Z.length<=300000:=by
  show((aL ys0).map sT++Gs.flatMap fun e=>Gs.map fun g=>plT (crs e g)).length<=300000
  rw[zAO,zAA]
  have h1:=gd0.len
  have h2:=L.le ps0 (by simp)
  have h3:(Gs.flatMap fun e=>Gs.map fun g=>plT (crs e g)).length<=512*512:=by
   have go:∀l:List Tr,(l.flatMap fun e=>Gs.map fun g=>plT (crs e g)).length<=l.length*512:=fun l=>by
    induction l with
    |nil=>simp
    |cons a r ih =>
     rw[List.flatMap_cons,zAO,zAA,zAb,Nat.succ_mul]
     omega
   have:=go Gs
   have:Gs.length*512<=512*512:=zCm _ lG
   omega
  omega
 have hZ:∀e∈Gs,∀g∈Gs,plT (crs e g)∈Z:=fun e he g hg=>zAR _ (zCj.mpr ⟨e,he,zAQ.mpr ⟨g,hg,rfl⟩⟩)
 have C0:Cor 40 Gs Z ((aL ys0).map sT):=zw r0 ne0 (L.bd ps0 (by simp)) b0 (fun p hp=>zAu _ (zAQ.mpr ⟨p,hp,rfl⟩)) (by
  show _<=((aL ys0).map sT++_).length
  rw[zAO,zAA]
  omega)
 have I0:InC ((aL ys0).map sT) X:=zy gd0 ne0 C.1 fun b hb=>(gb b (b0 b hb)).2
 have run:=fun(gs:List Tr) (h:∀g∈gs,g∈Gs)=>xc (X:=X) (fun e he=>(gb e he).1) hZ gs _ (fun g hg=>⟨h g hg,(gb g (h g hg)).2⟩) C0 I0
 obtain⟨_,i1,o1,_⟩:=run Gs fun g hg=>hg
 exact⟨Z,Zl,fun j=>(run (Gs.take j) fun g hg=>(zCc j Gs).subset hg).1,i1,fun g hg=>⟨(gb g hg).1,o1 g hg⟩,lpos,lG⟩
theorem vU{α:Type}(f:α->D)(z:α)(xs:List α):j7 0 (xs.map f)=(List.range' 0 xs.length).map fun k=>D.tup [.int ((k:Nat):Int),f (xs.getD k z)]:=by
 apply List.ext_getElem?
 intro i
 by_cases h:i<xs.length
 ·rw[kZ 0 (xs.map f) i (f xs[i]) (by rw[zAH,zAB h];rfl),zAH,zAB (by rw[zAj];exact h),zBn,zA6,zA6,zCp,Option.map_some,zAG,zAB h]
  rfl
 ·rw[zAs (by rw[k6,zAA];omega),zAs (by rw[zAA,zAj];omega)]
def c6(r:List Nat×List Int):D:=.tup [.lst false (r.1.map fun(k:Nat)=>D.int (k:Int)),.lst false (r.2.map D.int)]
def mh (y:Tr) (rs:List (List Nat×List Int)):D:=.tup [.str "meet", trD y,.lst false (rs.map c6)]
theorem kK(r:List Nat×List Int):aM (cZ r)=c6 r:=by
 have e:r.1.map (fun(k:Nat)=>D.int (k:Int))=(r.1.map fun(k:Nat)=>(k:Int)).map D.int:=by rw[zAo];rfl
 unfold cZ c6 pkD
 rw[e]
 simp only[cL,bF,bN,bP,gL]
theorem fX:∀rs:List (List Nat×List Int),aX (rs.map cZ)=rs.map c6
 |[]=>bN
 |r::rs=>by rw[zAK,bF,kK,fX rs,zAK]
theorem ui(r:List Nat×List Int):aM (c6 r)=c6 r:=by
 have e:r.1.map (fun(k:Nat)=>D.int (k:Int))=(r.1.map fun(k:Nat)=>(k:Int)).map D.int:=by rw[zAo];rfl
 unfold c6
 rw[e]
 simp only[cL,bF,bN,bP,gL]
theorem fW(y:Tr)(rs:List (List Nat×List Int)):aM (fG y rs)=mh y rs:=by
 unfold fG mh
 simp only[cL,bF,bN,bP,lP,d5,fX]
def dw(ps:List Sp):D:=.lst true (ps.map spD)
theorem kJ(ps:List Sp):aM (dw ps)=aZ ps:=by unfold dw aZ;rw[bP,fY]
theorem jH:∀Ls:List (List Sp),aX (Ls.map dw)=Ls.map aZ
 |[]=>bN
 |p::r=>by rw[zAK,bF,kJ,jH r,zAK]
theorem EF:yF 10 10:=⟨by decide,by decide,by decide⟩
theorem AO{n:Nat}:∀(l:List Int),(∀x∈l,Bd n x)->Bd (n+l.length) l.sum
 |[],_=>by unfold Bd;exact Nat.pow_pos (by decide)
 |x::r,h=>by
  rw[zBq,zAb]
  exact Bd.add (m:=n+r.length) ((h x (by simp)).mono (by omega)) (AO r fun y hy=>h y (zAD _ hy))
def zX(ps:List Sp)(zs:List (Nat×Int)):Int:=(zs.map fun z=>z.2*(ps.getD z.1 (0,0)).1).sum
def zY(ps:List Sp)(zs:List (Nat×Int)):Int:=(zs.map fun z=>z.2*(ps.getD z.1 (0,0)).2).sum
theorem D3(ps:List Sp):∀(pk:List Nat) (sh:List Int),zX ps (pk.zip sh)=sX (pk.map fun k=>ps.getD k (0,0)) sh
 |[],_=>by unfold zX sX;simp
 |_::_,[]=>by unfold zX sX;simp
 |k::pk,s::sh=>by
  have:=D3 ps pk sh
  unfold zX sX at this ⊢
  rw[zCw,zAK,zBq,this,zAK,zBJ,zBq,zAn]
theorem D4(ps:List Sp):∀(pk:List Nat) (sh:List Int),zY ps (pk.zip sh)=sY (pk.map fun k=>ps.getD k (0,0)) sh
 |[],_=>by unfold zY sY;simp
 |_::_,[]=>by unfold zY sY;simp
 |k::pk,s::sh=>by
  have:=D4 ps pk sh
  unfold zY sY at this ⊢
  rw[zCw,zAK,zBq,this,zAK,zBJ,zBq,zAn]
theorem tS:∀(pk:List Nat) (sh:List Int),List.zipWith (fun x y=>D.tup [x,y]) ((pk.map fun(k:Nat)=>(k:Int)).map D.int) (sh.map D.int)=(pk.zip sh).map fun z=>D.tup [.int ((z.1:Nat):Int),.int z.2]
 |[],_=>rfl
 |_::_,[]=>rfl
 |k::pk,s::sh=>by
  rw[zAK,zAK,zAK,zBJ,tS pk sh,zCw,zAK]
theorem zip_parts{α β:Type}(f:α->D)(g:β->D):∀(xs:List α) (ys:List β),List.zipWith (fun x y=>D.tup [x,y]) (xs.map f) (ys.map g)=(xs.zip ys).map fun z=>D.tup [f z.1,g z.2]
 |[],_=>rfl
 |_::_,[]=>rfl
 |x::xs,y::ys=>by
  rw[zAK,zAK,zBJ,zip_parts f g xs ys,zCw,zAK]
theorem dJ{α:Type}(f:α->D)(h:∀x,bI (f x)=true):∀xs:List α,d8 (xs.map f)=true
 |[]=>rfl
 |x::r=>by rw[zAK,d8,h x,dJ f h r];rfl
theorem pV(r:List Nat×List Int):bI (cZ r)=true:=by
 unfold cZ pkD
 rw[bI,d8,bI,dJ _ (fun _=>rfl),d8,bI,dJ _ (fun _=>rfl)]
 rfl
theorem wW(y:Tr)(rs:List (List Nat×List Int)):bI (fG y rs)=true:=by
 have e:bI (trD y)=true:=rfl
 unfold fG
 rw[bI,d8,d8,e,d8,bI,dJ _ pV]
 rfl
theorem AR(p:Sp):bI (spD p)=true:=rfl
theorem yI(ps:List Sp):bI (dw ps)=true:=by
 unfold dw
 rw[bI,dJ _ AR]
 rfl
theorem wX(Ls:List (List Sp)):bI (.lst true (Ls.map dw))=true:=by
 rw[bI,dJ _ yI]
 rfl
theorem zM(r:List Nat×List Int):OkN 2 (cZ r):=OkN.tup (.cons (OkN.map fun(_:Nat)=>OkN.int 0 _) (.cons (OkN.map (OkN.int 0)) (.nil _)))
theorem uQ(rs:List (List Nat×List Int)):okD (.lst true (rs.map cZ)):=(OkN.map zM).ok
theorem Ea(dj dh df:D):PD.CT 6 1 4 3 dj dh df=[none,some (.val dj),none,some (.val df),some (.val dh),none]:=rfl
theorem xI(t:Bool)(ps:List Sp):OkN 2 (.lst t (ps.map spD)):=OkN.map Dm
theorem EO(t:Bool)(Ls:List (List Sp)):okD (.lst t (Ls.map aZ)):=(OkN.map (fun ps=>xI false ps)).ok
theorem ER(Ls:List (List Sp)):okD (.lst true (Ls.map dw)):=(OkN.map (fun ps=>xI true ps)).ok
theorem ux:∀Ls:List (List Sp),gc (Ls.map aZ) (Ls.map dw)=true
 |[]=>mT
 |p::r=>by
  rw[zAK,zAK,gN,ux r,Bool.and_true]
  exact se _ _ _
theorem CS(Ls:List (List Sp)):eqD (.lst false (Ls.map aZ)) (.lst true (Ls.map dw))=true:=by rw[l5];exact ux Ls
theorem Al{Ls:List (List Sp)}(L:LsOk Ls):PD.Ak (.lst true (Ls.map dw)):=by
 refine⟨true,Ls.map fun ps=>ps.map spD,by rw[zAo];rfl,fun z=>?_,fun ds hd=>?_⟩
 ·have:=L.l0
  rw[List.map_eq_nil_iff.mp z]at this
  cases this
 ·obtain⟨ps,pm,rfl⟩:=zAQ.mp hd
  cases hp:ps with
  |nil=>have:=L.ne ps pm;rw[hp]at this;cases this
  |cons p r=>exact⟨p.1,[.int p.2],r.map spD,rfl,mj _⟩
structure Cf(m:Sp)(ps:List Sp):Prop where
 l0:0<ps.length
 l3:ps.length<=3
 bd:∀p∈ps,WB 40 p
 inn:∀g:Tr,(∀p∈ps,0<=gvS g (1,p.1,p.2))->0<=gvS g (1,m.1,m.2)
def pR(κ:Cls):DSp:=fun ds Q Ed=>∃(n:Int),ds=[.int n]/\(Q (.int (sg n)))
theorem oD(κ:Cls)(n:Int)(Q:D->Prop)(Ed:Value->Prop):pR κ [.int n] Q Ed=(Q (.int (sg n))):=by
 apply propext
 constructor
 ·rintro⟨x0,e,q⟩
  simp only[T3,zAL,D.int.injEq,D.tup.injEq,D.lst.injEq,and_true,true_and]at e
  obtain rfl:=e
  exact q
 ·intro q;exact⟨_,rfl,q⟩
def cP(κ:Cls):DSp:=fun ds Q Ed=>∃(a:Int) (b:Int),ds=[.int a,.int b]/\(Q (.int (Int.gcd a b:Int)))
theorem fQ(κ:Cls)(a:Int)(b:Int)(Q:D->Prop)(Ed:Value->Prop):cP κ [.int a,.int b] Q Ed=(Q (.int (Int.gcd a b:Int))):=by
 apply propext
 constructor
 ·rintro⟨x0,x1,e,q⟩
  simp only[T3,zAL,D.int.injEq,D.tup.injEq,D.lst.injEq,and_true,true_and]at e
  obtain⟨rfl,rfl⟩:=e
  exact q
 ·intro q;exact⟨_,_,rfl,q⟩
def fB(κ:Cls):DSp:=fun ds Q Ed=>∃(ns:List Int),ds=[.lst false (ns.map D.int)]/\(ns.length<100/\bu 0 ns≠0/\Bd 1000 (bu 0 ns)/\Q (.lst true ((cM ns).map D.int)))
theorem fT(κ:Cls)(ns:List Int)(Q:D->Prop)(Ed:Value->Prop):fB κ [.lst false (ns.map D.int)] Q Ed=(ns.length<100/\bu 0 ns≠0/\Bd 1000 (bu 0 ns)/\Q (.lst true ((cM ns).map D.int))):=by
 apply propext
 constructor
 ·rintro⟨x0,e,q⟩
  simp only[T3,zAL,D.int.injEq,D.tup.injEq,D.lst.injEq,and_true,true_and]at e
  have e_ns:=e
  have f_ns:=gG e_ns
  subst f_ns
  exact q
 ·intro q;exact⟨_,rfl,q⟩
def kF(κ:Cls):DSp:=fun ds Q Ed=>∃(x y z:Int) (l:Int),ds=[T3 x y z,.int l]/\(¬(x=0/\y=0/\z=0)/\Bd 4000 x/\Bd 4000 y/\Bd 4000 z/\Q (T3 (x.fdiv (PM.dv3 x y z l)) (y.fdiv (PM.dv3 x y z l)) (z.fdiv (PM.dv3 x y z l))))
theorem kO(κ:Cls)(x y z:Int)(l:Int)(Q:D->Prop)(Ed:Value->Prop):kF κ [T3 x y z,.int l] Q Ed=(¬(x=0/\y=0/\z=0)/\Bd 4000 x/\Bd 4000 y/\Bd 4000 z/\Q (T3 (x.fdiv (PM.dv3 x y z l)) (y.fdiv (PM.dv3 x y z l)) (z.fdiv (PM.dv3 x y z l)))):=by
 apply propext
 constructor
 ·rintro⟨x0,x1,x2,x3,e,q⟩
  simp only[T3,zAL,D.int.injEq,D.tup.injEq,D.lst.injEq,and_true,true_and]at e
  obtain⟨⟨rfl,rfl,rfl⟩,rfl⟩:=e
  exact q
 ·intro q;exact⟨_,_,_,_,rfl,q⟩
def nr(κ:Cls):DSp:=fun ds Q Ed=>∃(n:Int) (s:Int),ds=[.int n,.int s]/\(∃m t:Nat,n=(m:Int)/\s=(t:Int)/\m<=60/\t<=3/\Q (.lst true ((lev m t).map pkD)))
theorem mH(κ:Cls)(n:Int)(s:Int)(Q:D->Prop)(Ed:Value->Prop):nr κ [.int n,.int s] Q Ed=(∃m t:Nat,n=(m:Int)/\s=(t:Int)/\m<=60/\t<=3/\Q (.lst true ((lev m t).map pkD))):=by
 apply propext
 constructor
 ·rintro⟨x0,x1,e,q⟩
  simp only[T3,zAL,D.int.injEq,D.tup.injEq,D.lst.injEq,and_true,true_and]at e
  obtain⟨rfl,rfl⟩:=e
  exact q
 ·intro q;exact⟨_,_,rfl,q⟩
def kH(κ:Cls):DSp:=fun ds Q Ed=>∃(g0 g1 g2:Int) (p0 p1 p2:Int),ds=[T3 g0 g1 g2,T3 p0 p1 p2]/\(Bd 1000 g0/\Bd 1000 g1/\Bd 1000 g2/\Bd 1000 p0/\Bd 1000 p1/\Bd 1000 p2/\Q (.int (g0*p0+g1*p1+g2*p2)))
theorem mJ(κ:Cls)(g0 g1 g2:Int)(p0 p1 p2:Int)(Q:D->Prop)(Ed:Value->Prop):kH κ [T3 g0 g1 g2,T3 p0 p1 p2] Q Ed=(Bd 1000 g0/\Bd 1000 g1/\Bd 1000 g2/\Bd 1000 p0/\Bd 1000 p1/\Bd 1000 p2/\Q (.int (g0*p0+g1*p1+g2*p2))):=by
 apply propext
 constructor
 ·rintro⟨x0,x1,x2,x3,x4,x5,e,q⟩
  simp only[T3,zAL,D.int.injEq,D.tup.injEq,D.lst.injEq,and_true,true_and]at e
  obtain⟨⟨rfl,rfl,rfl⟩,⟨rfl,rfl,rfl⟩⟩:=e
  exact q
 ·intro q;exact⟨_,_,_,_,_,_,rfl,q⟩
def gB(κ:Cls):DSp:=fun ds Q Ed=>∃(g0 g1 g2:Int) (p0 p1 p2:Int),ds=[T3 g0 g1 g2,T3 p0 p1 p2]/\(Bd 1000 g0/\Bd 1000 g1/\Bd 1000 g2/\Bd 1000 p0/\Bd 1000 p1/\Bd 1000 p2/\Q (.int (sg (g0*p0+g1*p1+g2*p2))))
theorem fV(κ:Cls)(g0 g1 g2:Int)(p0 p1 p2:Int)(Q:D->Prop)(Ed:Value->Prop):gB κ [T3 g0 g1 g2,T3 p0 p1 p2] Q Ed=(Bd 1000 g0/\Bd 1000 g1/\Bd 1000 g2/\Bd 1000 p0/\Bd 1000 p1/\Bd 1000 p2/\Q (.int (sg (g0*p0+g1*p1+g2*p2)))):=by
 apply propext
 constructor
 ·rintro⟨x0,x1,x2,x3,x4,x5,e,q⟩
  simp only[T3,zAL,D.int.injEq,D.tup.injEq,D.lst.injEq,and_true,true_and]at e
  obtain⟨⟨rfl,rfl,rfl⟩,⟨rfl,rfl,rfl⟩⟩:=e
  exact q
 ·intro q;exact⟨_,_,_,_,_,_,rfl,q⟩
def iG(κ:Cls):DSp:=fun ds Q Ed=>∃(a0 a1 a2:Int) (b0 b1 b2:Int),ds=[T3 a0 a1 a2,T3 b0 b1 b2]/\(Bd 200 a0/\Bd 200 a1/\Bd 200 a2/\Bd 200 b0/\Bd 200 b1/\Bd 200 b2/\Q (T3 (a1*b2 - b1*a2) (a2*b0 - b2*a0) (a0*b1 - b0*a1)))
theorem ik(κ:Cls)(a0 a1 a2:Int)(b0 b1 b2:Int)(Q:D->Prop)(Ed:Value->Prop):iG κ [T3 a0 a1 a2,T3 b0 b1 b2] Q Ed=(Bd 200 a0/\Bd 200 a1/\Bd 200 a2/\Bd 200 b0/\Bd 200 b1/\Bd 200 b2/\Q (T3 (a1*b2 - b1*a2) (a2*b0 - b2*a0) (a0*b1 - b0*a1))):=by
 apply propext
 constructor
 ·rintro⟨x0,x1,x2,x3,x4,x5,e,q⟩
  simp only[T3,zAL,D.int.injEq,D.tup.injEq,D.lst.injEq,and_true,true_and]at e
  obtain⟨⟨rfl,rfl,rfl⟩,⟨rfl,rfl,rfl⟩⟩:=e
  exact q
 ·intro q;exact⟨_,_,_,_,_,_,rfl,q⟩
def cK(κ:Cls):DSp:=fun ds Q Ed=>∃(p0 p1 p2:Int) (w:Sp),ds=[T3 p0 p1 p2,spD w]/\(Bd 200 p0/\Bd 200 p1/\Bd 200 p2/\WB 200 w/\Q (T3 (-(w.1*p1+w.2*p2)) (w.1*p0) (w.2*p0)))
theorem ja(κ:Cls)(p0 p1 p2:Int)(w:Sp)(Q:D->Prop)(Ed:Value->Prop):cK κ [T3 p0 p1 p2,spD w] Q Ed=(Bd 200 p0/\Bd 200 p1/\Bd 200 p2/\WB 200 w/\Q (T3 (-(w.1*p1+w.2*p2)) (w.1*p0) (w.2*p0))):=by
 apply propext
 constructor
 ·rintro⟨x0,x1,x2,x3,e,q⟩
  simp only[T3,zAL,D.int.injEq,D.tup.injEq,D.lst.injEq,and_true,true_and]at e
  obtain⟨⟨rfl,rfl,rfl⟩,e_w⟩:=e
  have f_w:=bS e_w
  subst f_w
  exact q
 ·intro q;exact⟨_,_,_,_,rfl,q⟩
def nu(κ:Cls):DSp:=fun ds Q Ed=>∃(b:Int) (x:Int) (y:Int),ds=[.int b,.int x,.int y]/\(b≠0/\Bd 4000 b/\Bd 4000 x/\Bd 4000 y/\Q (xY b x y))
theorem mI(κ:Cls)(b:Int)(x:Int)(y:Int)(Q:D->Prop)(Ed:Value->Prop):nu κ [.int b,.int x,.int y] Q Ed=(b≠0/\Bd 4000 b/\Bd 4000 x/\Bd 4000 y/\Q (xY b x y)):=by
 apply propext
 constructor
 ·rintro⟨x0,x1,x2,e,q⟩
  simp only[T3,zAL,D.int.injEq,D.tup.injEq,D.lst.injEq,and_true,true_and]at e
  obtain⟨rfl,rfl,rfl⟩:=e
  exact q
 ·intro q;exact⟨_,_,_,rfl,q⟩
def gK(κ:Cls):DSp:=fun ds Q Ed=>∃(d:D),ds=[d]/\(∃p:Sp,d=spD p/\Q (plS p))
theorem jT(κ:Cls)(d:D)(Q:D->Prop)(Ed:Value->Prop):gK κ [d] Q Ed=(∃p:Sp,d=spD p/\Q (plS p)):=by
 apply propext
 constructor
 ·rintro⟨x0,e,q⟩
  simp only[T3,zAL,D.int.injEq,D.tup.injEq,D.lst.injEq,and_true,true_and]at e
  obtain rfl:=e
  exact q
 ·intro q;exact⟨_,rfl,q⟩
def kG(κ:Cls):DSp:=fun ds Q Ed=>∃(a0 a1 a2:Int) (b0 b1 b2:Int) (c0 c1 c2:Int),ds=[T3 a0 a1 a2,T3 b0 b1 b2,T3 c0 c1 c2]/\(Bd 1000 a0/\Bd 1000 a1/\Bd 1000 a2/\Bd 1000 b0/\Bd 1000 b1/\Bd 1000 b2/\Bd 1000 c0/\Bd 1000 c1/\Bd 1000 c2/\Q (.int (sw a0 a1 a2 b0 b1 b2 c0 c1 c2)))
theorem jG(κ:Cls)(a0 a1 a2:Int)(b0 b1 b2:Int)(c0 c1 c2:Int)(Q:D->Prop)(Ed:Value->Prop):kG κ [T3 a0 a1 a2,T3 b0 b1 b2,T3 c0 c1 c2] Q Ed=(Bd 1000 a0/\Bd 1000 a1/\Bd 1000 a2/\Bd 1000 b0/\Bd 1000 b1/\Bd 1000 b2/\Bd 1000 c0/\Bd 1000 c1/\Bd 1000 c2/\Q (.int (sw a0 a1 a2 b0 b1 b2 c0 c1 c2))):=by
 apply propext
 constructor
 ·rintro⟨x0,x1,x2,x3,x4,x5,x6,x7,x8,e,q⟩
  simp only[T3,zAL,D.int.injEq,D.tup.injEq,D.lst.injEq,and_true,true_and]at e
  obtain⟨⟨rfl,rfl,rfl⟩,⟨rfl,rfl,rfl⟩,⟨rfl,rfl,rfl⟩⟩:=e
  exact q
 ·intro q;exact⟨_,_,_,_,_,_,_,_,_,rfl,q⟩
def gw(κ:Cls):DSp:=fun ds Q Ed=>∃(a0 a1 a2:Int) (b0 b1 b2:Int),ds=[T3 a0 a1 a2,T3 b0 b1 b2]/\(Bd 200 a0/\Bd 200 a1/\Bd 200 a2/\Bd 200 b0/\Bd 200 b1/\Bd 200 b2/\Q (.tup [.int (a0*b1 - b0*a1),.int (a0*b2 - b0*a2)]))
theorem gI(κ:Cls)(a0 a1 a2:Int)(b0 b1 b2:Int)(Q:D->Prop)(Ed:Value->Prop):gw κ [T3 a0 a1 a2,T3 b0 b1 b2] Q Ed=(Bd 200 a0/\Bd 200 a1/\Bd 200 a2/\Bd 200 b0/\Bd 200 b1/\Bd 200 b2/\Q (.tup [.int (a0*b1 - b0*a1),.int (a0*b2 - b0*a2)])):=by
 apply propext
 constructor
 ·rintro⟨x0,x1,x2,x3,x4,x5,e,q⟩
  simp only[T3,zAL,D.int.injEq,D.tup.injEq,D.lst.injEq,and_true,true_and]at e
  obtain⟨⟨rfl,rfl,rfl⟩,⟨rfl,rfl,rfl⟩⟩:=e
  exact q
 ·intro q;exact⟨_,_,_,_,_,_,rfl,q⟩
def mr(κ:Cls):DSp:=fun ds Q Ed=>∃(a:Sp) (b:Sp),ds=[spD a,spD b]/\(WB 400 a/\WB 400 b/\Q (.int (tn a b)))
theorem oE(κ:Cls)(a:Sp)(b:Sp)(Q:D->Prop)(Ed:Value->Prop):mr κ [spD a,spD b] Q Ed=(WB 400 a/\WB 400 b/\Q (.int (tn a b))):=by
 apply propext
 constructor
 ·rintro⟨x0,x1,e,q⟩
  simp only[T3,zAL,D.int.injEq,D.tup.injEq,D.lst.injEq,and_true,true_and]at e
  obtain⟨e_a,e_b⟩:=e
  have f_a:=bS e_a
  subst f_a
  have f_b:=bS e_b
  subst f_b
  exact q
 ·intro q;exact⟨_,_,rfl,q⟩
def jR(κ:Cls):DSp:=fun ds Q Ed=>∃(w:Sp),ds=[spD w]/\(Q (spD (bkW w)))
theorem iE(κ:Cls)(w:Sp)(Q:D->Prop)(Ed:Value->Prop):jR κ [spD w] Q Ed=(Q (spD (bkW w))):=by
 apply propext
 constructor
 ·rintro⟨x0,e,q⟩
  simp only[T3,zAL,D.int.injEq,D.tup.injEq,D.lst.injEq,and_true,true_and]at e
  have e_w:=e
  have f_w:=bS e_w
  subst f_w
  exact q
 ·intro q;exact⟨_,rfl,q⟩
def iI(κ:Cls):DSp:=fun ds Q Ed=>∃(w:Sp),ds=[spD w]/\(Q (spD (lfW w)))
theorem iu(κ:Cls)(w:Sp)(Q:D->Prop)(Ed:Value->Prop):iI κ [spD w] Q Ed=(Q (spD (lfW w))):=by
 apply propext
 constructor
 ·rintro⟨x0,e,q⟩
  simp only[T3,zAL,D.int.injEq,D.tup.injEq,D.lst.injEq,and_true,true_and]at e
  have e_w:=e
  have f_w:=bS e_w
  subst f_w
  exact q
 ·intro q;exact⟨_,rfl,q⟩
def nk(κ:Cls):DSp:=fun ds Q Ed=>∃(ps:List Sp),ds=[.lst false (ps.map plS)]/\(ps.length<64/\(∀p∈ps,SB p)/\Q (.lst true ((bB [] ps).reverse.map plS)))
theorem jE(κ:Cls)(ps:List Sp)(Q:D->Prop)(Ed:Value->Prop):nk κ [.lst false (ps.map plS)] Q Ed=(ps.length<64/\(∀p∈ps,SB p)/\Q (.lst true ((bB [] ps).reverse.map plS))):=by
 apply propext
 constructor
 ·rintro⟨x0,e,q⟩
  simp only[T3,zAL,D.int.injEq,D.tup.injEq,D.lst.injEq,and_true,true_and]at e
  have e_ps:=e
  have f_ps:=uT e_ps
  subst f_ps
  exact q
 ·intro q;exact⟨_,rfl,q⟩
def iR(κ:Cls):DSp:=fun ds Q Ed=>∃(ps:List Sp),ds=[.lst false (ps.map spD)]/\(ps.length<64/\(∀p∈ps,SB p)/\∀ys,cn ys ps->ys.length<=ps.length->Q (.lst true ((aL ys).map plS)))
theorem iH(κ:Cls)(ps:List Sp)(Q:D->Prop)(Ed:Value->Prop):iR κ [.lst false (ps.map spD)] Q Ed=(ps.length<64/\(∀p∈ps,SB p)/\∀ys,cn ys ps->ys.length<=ps.length->Q (.lst true ((aL ys).map plS))):=by
 apply propext
 constructor
 ·rintro⟨x0,e,q⟩
  simp only[T3,zAL,D.int.injEq,D.tup.injEq,D.lst.injEq,and_true,true_and]at e
  have e_ps:=e
  have f_ps:=jU e_ps
  subst f_ps
  exact q
 ·intro q;exact⟨_,rfl,q⟩
def gC(κ:Cls):DSp:=fun ds Q Ed=>∃(a:Sp) (b:Sp),ds=[plS a,plS b]/\(SB a/\SB b/\Q (.lst true ((dH a b).map trD)))
theorem eO(κ:Cls)(a:Sp)(b:Sp)(Q:D->Prop)(Ed:Value->Prop):gC κ [plS a,plS b] Q Ed=(SB a/\SB b/\Q (.lst true ((dH a b).map trD))):=by
 apply propext
 constructor
 ·rintro⟨x0,x1,e,q⟩
  simp only[T3,zAL,D.int.injEq,D.tup.injEq,D.lst.injEq,and_true,true_and]at e
  obtain⟨e_a,e_b⟩:=e
  have f_a:=pE e_a
  subst f_a
  have f_b:=pE e_b
  subst f_b
  exact q
 ·intro q;exact⟨_,_,rfl,q⟩
def lM(κ:Cls):DSp:=fun ds Q Ed=>∃(hs:List Sp),ds=[.lst false (hs.map plS)]/\(0<hs.length/\hs.length<200/\(∀p∈hs,SB p)/\Q (.lst true ((aU hs).map trD)))
theorem i8(κ:Cls)(hs:List Sp)(Q:D->Prop)(Ed:Value->Prop):lM κ [.lst false (hs.map plS)] Q Ed=(0<hs.length/\hs.length<200/\(∀p∈hs,SB p)/\Q (.lst true ((aU hs).map trD))):=by
 apply propext
 constructor
 ·rintro⟨x0,e,q⟩
  simp only[T3,zAL,D.int.injEq,D.tup.injEq,D.lst.injEq,and_true,true_and]at e
  have e_hs:=e
  have f_hs:=uT e_hs
  subst f_hs
  exact q
 ·intro q;exact⟨_,rfl,q⟩
def jr(κ:Cls):DSp:=fun ds Q Ed=>∃(w:Sp),ds=[spD w]/\(Q (.int (bj w)))
theorem lO(κ:Cls)(w:Sp)(Q:D->Prop)(Ed:Value->Prop):jr κ [spD w] Q Ed=(Q (.int (bj w))):=by
 apply propext
 constructor
 ·rintro⟨x0,e,q⟩
  simp only[T3,zAL,D.int.injEq,D.tup.injEq,D.lst.injEq,and_true,true_and]at e
  have e_w:=e
  have f_w:=bS e_w
  subst f_w
  exact q
 ·intro q;exact⟨_,rfl,q⟩
def fO(κ:Cls):DSp:=fun ds Q Ed=>∃(a:Sp) (b:Sp),ds=[spD a,spD b]/\(WB 400 a/\WB 400 b/\Q (.bl (decide (tn a b=0/\dt2 a b<0))))
theorem gT(κ:Cls)(a:Sp)(b:Sp)(Q:D->Prop)(Ed:Value->Prop):fO κ [spD a,spD b] Q Ed=(WB 400 a/\WB 400 b/\Q (.bl (decide (tn a b=0/\dt2 a b<0)))):=by
 apply propext
 constructor
 ·rintro⟨x0,x1,e,q⟩
  simp only[T3,zAL,D.int.injEq,D.tup.injEq,D.lst.injEq,and_true,true_and]at e
  obtain⟨e_a,e_b⟩:=e
  have f_a:=bS e_a
  subst f_a
  have f_b:=bS e_b
  subst f_b
  exact q
 ·intro q;exact⟨_,_,rfl,q⟩
def eN(κ:Cls):DSp:=fun ds Q Ed=>∃(a:Sp) (b:Sp),ds=[spD a,spD b]/\(WB 400 a/\WB 400 b/\Q (oL (iU a b)))
theorem fP(κ:Cls)(a:Sp)(b:Sp)(Q:D->Prop)(Ed:Value->Prop):eN κ [spD a,spD b] Q Ed=(WB 400 a/\WB 400 b/\Q (oL (iU a b))):=by
 apply propext
 constructor
 ·rintro⟨x0,x1,e,q⟩
  simp only[T3,zAL,D.int.injEq,D.tup.injEq,D.lst.injEq,and_true,true_and]at e
  obtain⟨e_a,e_b⟩:=e
  have f_a:=bS e_a
  subst f_a
  have f_b:=bS e_b
  subst f_b
  exact q
 ·intro q;exact⟨_,_,rfl,q⟩
def dD(κ:Cls):DSp:=fun ds Q Ed=>∃(a:Sp) (b:Sp) (e:Sp),ds=[spD a,spD b,spD e]/\(WB 400 a/\WB 400 b/\WB 400 e/\Q (oL (iV a b e)))
theorem eR(κ:Cls)(a:Sp)(b:Sp)(e:Sp)(Q:D->Prop)(Ed:Value->Prop):dD κ [spD a,spD b,spD e] Q Ed=(WB 400 a/\WB 400 b/\WB 400 e/\Q (oL (iV a b e))):=by
 apply propext
 constructor
 ·rintro⟨x0,x1,x2,e,q⟩
  simp only[T3,zAL,D.int.injEq,D.tup.injEq,D.lst.injEq,and_true,true_and]at e
  obtain⟨e_a,e_b,e_e⟩:=e
  have f_a:=bS e_a
  subst f_a
  have f_b:=bS e_b
  subst f_b
  have f_e:=bS e_e
  subst f_e
  exact q
 ·intro q;exact⟨_,_,_,rfl,q⟩
def kC(κ:Cls):DSp:=fun ds Q Ed=>∃(ws:List Sp),ds=[.lst false (ws.map spD)]/\(0<ws.length/\ws.length<4/\(∀w∈ws,WB 400 w)/\Q (oL (hW ws)))
theorem ig(κ:Cls)(ws:List Sp)(Q:D->Prop)(Ed:Value->Prop):kC κ [.lst false (ws.map spD)] Q Ed=(0<ws.length/\ws.length<4/\(∀w∈ws,WB 400 w)/\Q (oL (hW ws))):=by
 apply propext
 constructor
 ·rintro⟨x0,e,q⟩
  simp only[T3,zAL,D.int.injEq,D.tup.injEq,D.lst.injEq,and_true,true_and]at e
  have e_ws:=e
  have f_ws:=jU e_ws
  subst f_ws
  exact q
 ·intro q;exact⟨_,rfl,q⟩
def iJ (κ:Cls):DSp:=fun ds Q Ed=>∃(ps:List Sp) (h0 h1 h2:Int),ds=[.lst false (ps.map spD),T3 h0 h1 h2]/\(0<ps.length/\ps.length<=30/\(∀p∈ps,SB p)/\PB 160 (h0,h1,h2)/\∃r,bV (ps.map (arS (h0,h1,h2))) (cF ps.length)=some r/\Q (.tup [.str "in", pkD r.1,.lst true (r.2.map D.int)]))
theorem iv (κ:Cls) (ps:List Sp) (h0 h1 h2:Int) (Q:D->Prop) (Ed:Value->Prop):iJ κ [.lst false (ps.map spD),T3 h0 h1 h2] Q Ed=(0<ps.length/\ps.length<=30/\(∀p∈ps,SB p)/\PB 160 (h0,h1,h2)/\∃r,bV (ps.map (arS (h0,h1,h2))) (cF ps.length)=some r/\Q (.tup [.str "in", pkD r.1,.lst true (r.2.map D.int)])):=by
 apply propext
 constructor
 ·rintro⟨x0,x1,x2,x3,e,q⟩
  simp only[T3,zAL,D.int.injEq,D.tup.injEq,D.lst.injEq,and_true,true_and]at e
  obtain⟨e_ps,⟨rfl,rfl,rfl⟩⟩:=e
  have f_ps:=jU e_ps
  subst f_ps
  exact q
 ·intro q;exact⟨_,_,_,_,rfl,q⟩
def c8(κ:Cls):DSp:=fun ds Q Ed=>∃(a0 a1 a2:Int) (b0 b1 b2:Int) (g0 g1 g2:Int),ds=[T3 a0 a1 a2,T3 b0 b1 b2,T3 g0 g1 g2]/\(Bd 200 a0/\Bd 200 a1/\Bd 200 a2/\Bd 200 b0/\Bd 200 b1/\Bd 200 b2/\Bd 200 g0/\Bd 200 g1/\Bd 200 g2/\(wgh (g0,g1,g2) (a0,a1,a2) (b0,b1,b2)).1≠0/\Q (trD (cw (g0,g1,g2) (a0,a1,a2) (b0,b1,b2))))
theorem dE(κ:Cls)(a0 a1 a2:Int)(b0 b1 b2:Int)(g0 g1 g2:Int)(Q:D->Prop)(Ed:Value->Prop):c8 κ [T3 a0 a1 a2,T3 b0 b1 b2,T3 g0 g1 g2] Q Ed=(Bd 200 a0/\Bd 200 a1/\Bd 200 a2/\Bd 200 b0/\Bd 200 b1/\Bd 200 b2/\Bd 200 g0/\Bd 200 g1/\Bd 200 g2/\(wgh (g0,g1,g2) (a0,a1,a2) (b0,b1,b2)).1≠0/\Q (trD (cw (g0,g1,g2) (a0,a1,a2) (b0,b1,b2)))):=by
 apply propext
 constructor
 ·rintro⟨x0,x1,x2,x3,x4,x5,x6,x7,x8,e,q⟩
  simp only[T3,zAL,D.int.injEq,D.tup.injEq,D.lst.injEq,and_true,true_and]at e
  obtain⟨⟨rfl,rfl,rfl⟩,⟨rfl,rfl,rfl⟩,⟨rfl,rfl,rfl⟩⟩:=e
  exact q
 ·intro q;exact⟨_,_,_,_,_,_,_,_,_,rfl,q⟩
def iF(κ:Cls):DSp:=fun ds Q Ed=>∃(cs:List Tr) (g0 g1 g2:Int),ds=[.lst false (cs.map trD),T3 g0 g1 g2]/\(cs.length<=300000/\(∀p∈cs,0<p.1/\CB 40 p)/\Bd 200 g0/\Bd 200 g1/\Bd 200 g2/\Q (.lst true ((d9 (g0,g1,g2) cs).map trD)))
theorem ij(κ:Cls)(cs:List Tr)(g0 g1 g2:Int)(Q:D->Prop)(Ed:Value->Prop):iF κ [.lst false (cs.map trD),T3 g0 g1 g2] Q Ed=(cs.length<=300000/\(∀p∈cs,0<p.1/\CB 40 p)/\Bd 200 g0/\Bd 200 g1/\Bd 200 g2/\Q (.lst true ((d9 (g0,g1,g2) cs).map trD))):=by
 apply propext
 constructor
 ·rintro⟨x0,x1,x2,x3,e,q⟩
  simp only[T3,zAL,D.int.injEq,D.tup.injEq,D.lst.injEq,and_true,true_and]at e
  obtain⟨e_cs,⟨rfl,rfl,rfl⟩⟩:=e
  have f_cs:=pS e_cs
  subst f_cs
  exact q
 ·intro q;exact⟨_,_,_,_,rfl,q⟩
def lN(κ:Cls):DSp:=fun ds Q Ed=>∃(cs:List Tr) (gs:List Tr),ds=[.lst false (cs.map trD),.lst false (gs.map trD)]/\(0<gs.length/\gs.length<=1000/\(∀j,j<gs.length->(bK (gs.take j) cs).length<=300000/\∀p∈bK (gs.take j) cs,0<p.1/\CB 40 p)/\(∀g∈gs,Bd 200 g.1/\Bd 200 g.2.1/\Bd 200 g.2.2)/\Q (.lst true ((bK gs cs).map trD)))
theorem i9(κ:Cls)(cs:List Tr)(gs:List Tr)(Q:D->Prop)(Ed:Value->Prop):lN κ [.lst false (cs.map trD),.lst false (gs.map trD)] Q Ed=(0<gs.length/\gs.length<=1000/\(∀j,j<gs.length->(bK (gs.take j) cs).length<=300000/\∀p∈bK (gs.take j) cs,0<p.1/\CB 40 p)/\(∀g∈gs,Bd 200 g.1/\Bd 200 g.2.1/\Bd 200 g.2.2)/\Q (.lst true ((bK gs cs).map trD))):=by
 apply propext
 constructor
 ·rintro⟨x0,x1,e,q⟩
  simp only[T3,zAL,D.int.injEq,D.tup.injEq,D.lst.injEq,and_true,true_and]at e
  obtain⟨e_cs,e_gs⟩:=e
  have f_cs:=pS e_cs
  subst f_cs
  have f_gs:=pS e_gs
  subst f_gs
  exact q
 ·intro q;exact⟨_,_,rfl,q⟩
def fU(κ:Cls):DSp:=fun ds Q Ed=>∃(Ls:List (List Sp)),ds=[.lst false (Ls.map aZ)]/\(LsOk Ls/\∀yss,bJ yss Ls->Q (.lst true ((aO 0 yss).map ogD)))
theorem gU(κ:Cls)(Ls:List (List Sp))(Q:D->Prop)(Ed:Value->Prop):fU κ [.lst false (Ls.map aZ)] Q Ed=(LsOk Ls/\∀yss,bJ yss Ls->Q (.lst true ((aO 0 yss).map ogD))):=by
 apply propext
 constructor
 ·rintro⟨x0,e,q⟩
  simp only[T3,zAL,D.int.injEq,D.tup.injEq,D.lst.injEq,and_true,true_and]at e
  have e_Ls:=e
  have f_Ls:=ph e_Ls
  subst f_Ls
  exact q
 ·intro q;exact⟨_,rfl,q⟩
def ip(κ:Cls):DSp:=fun ds Q Ed=>∃(Ls:List (List Sp)),ds=[.lst false (Ls.map aZ)]/\(LsOk Ls/\(∃X,oO Ls X)/\∀y rs,nI Ls y rs->Pr y->CB 40 y->(∀i,i<Ls.length->kQ (Ls.getD i []) y (rs.getD i ([],[])).1 (rs.getD i ([],[])).2)->rs.length=Ls.length->Q (fG y rs))
theorem c7(κ:Cls)(Ls:List (List Sp))(Q:D->Prop)(Ed:Value->Prop):ip κ [.lst false (Ls.map aZ)] Q Ed=(LsOk Ls/\(∃X,oO Ls X)/\∀y rs,nI Ls y rs->Pr y->CB 40 y->(∀i,i<Ls.length->kQ (Ls.getD i []) y (rs.getD i ([],[])).1 (rs.getD i ([],[])).2)->rs.length=Ls.length->Q (fG y rs)):=by
 apply propext
 constructor
 ·rintro⟨x0,e,q⟩
  simp only[T3,zAL,D.int.injEq,D.tup.injEq,D.lst.injEq,and_true,true_and]at e
  have e_Ls:=e
  have f_Ls:=ph e_Ls
  subst f_Ls
  exact q
 ·intro q;exact⟨_,rfl,q⟩
def fR(κ:Cls):DSp:=fun ds Q Ed=>∃(a:Int),ds=[.int a]/\(Q (.bl true))
theorem jq(κ:Cls)(a:Int)(Q:D->Prop)(Ed:Value->Prop):fR κ [.int a] Q Ed=(Q (.bl true)):=by
 apply propext
 constructor
 ·rintro⟨x0,e,q⟩
  simp only[T3,zAL,D.int.injEq,D.tup.injEq,D.lst.injEq,and_true,true_and]at e
  obtain rfl:=e
  exact q
 ·intro q;exact⟨_,rfl,q⟩
def gy(κ:Cls):DSp:=fun ds Q Ed=>∃(ns:List Int) (k:Int),ds=[.lst false (ns.map D.int),.int k]/\(0<=k/\ns.length<=63/\∀v:Int,Q (.int v))
theorem iw(κ:Cls)(ns:List Int)(k:Int)(Q:D->Prop)(Ed:Value->Prop):gy κ [.lst false (ns.map D.int),.int k] Q Ed=(0<=k/\ns.length<=63/\∀v:Int,Q (.int v)):=by
 apply propext
 constructor
 ·rintro⟨x0,x1,e,q⟩
  simp only[T3,zAL,D.int.injEq,D.tup.injEq,D.lst.injEq,and_true,true_and]at e
  obtain⟨e_ns,rfl⟩:=e
  have f_ns:=gG e_ns
  subst f_ns
  exact q
 ·intro q;exact⟨_,_,rfl,q⟩
def eK(κ:Cls):DSp:=fun ds Q Ed=>∃(a:Int) (b:Int),ds=[.int a,.int b]/\(Q (.int (Int.gcd a b:Int)))
theorem iz(κ:Cls)(a:Int)(b:Int)(Q:D->Prop)(Ed:Value->Prop):eK κ [.int a,.int b] Q Ed=(Q (.int (Int.gcd a b:Int))):=by
 apply propext
 constructor
 ·rintro⟨x0,x1,e,q⟩
  simp only[T3,zAL,D.int.injEq,D.tup.injEq,D.lst.injEq,and_true,true_and]at e
  obtain⟨rfl,rfl⟩:=e
  exact q
 ·intro q;exact⟨_,_,rfl,q⟩
def ir(κ:Cls):DSp:=fun ds Q Ed=>∃(c:Int) (m:Int),ds=[.int c,.int m]/\(0<=m/\m<1000/\∀xs:List Int,xs.length=m.toNat->(∀x∈xs,0<=x/\x<2147483647)->Q (.lst true (xs.map D.int)))
theorem jc(κ:Cls)(c:Int)(m:Int)(Q:D->Prop)(Ed:Value->Prop):ir κ [.int c,.int m] Q Ed=(0<=m/\m<1000/\∀xs:List Int,xs.length=m.toNat->(∀x∈xs,0<=x/\x<2147483647)->Q (.lst true (xs.map D.int))):=by
 apply propext
 constructor
 ·rintro⟨x0,x1,e,q⟩
  simp only[T3,zAL,D.int.injEq,D.tup.injEq,D.lst.injEq,and_true,true_and]at e
  obtain⟨rfl,rfl⟩:=e
  exact q
 ·intro q;exact⟨_,_,rfl,q⟩
def dG(κ:Cls):DSp:=fun ds Q Ed=>∃(h0 h1 h2:Int),ds=[T3 h0 h1 h2]/\(Pr (h0,h1,h2)/\Q (.bl true))
theorem dX(κ:Cls)(h0 h1 h2:Int)(Q:D->Prop)(Ed:Value->Prop):dG κ [T3 h0 h1 h2] Q Ed=(Pr (h0,h1,h2)/\Q (.bl true)):=by
 apply propext
 constructor
 ·rintro⟨x0,x1,x2,e,q⟩
  simp only[T3,zAL,D.int.injEq,D.tup.injEq,D.lst.injEq,and_true,true_and]at e
  obtain⟨rfl,rfl,rfl⟩:=e
  exact q
 ·intro q;exact⟨_,_,_,rfl,q⟩
def gz(κ:Cls):DSp:=fun ds Q Ed=>∃(ns:List Int),ds=[.lst false (ns.map D.int)]/\(0<ns.length/\ns.length<1000/\Q (.bl true))
theorem iA(κ:Cls)(ns:List Int)(Q:D->Prop)(Ed:Value->Prop):gz κ [.lst false (ns.map D.int)] Q Ed=(0<ns.length/\ns.length<1000/\Q (.bl true)):=by
 apply propext
 constructor
 ·rintro⟨x0,e,q⟩
  simp only[T3,zAL,D.int.injEq,D.tup.injEq,D.lst.injEq,and_true,true_and]at e
  have e_ns:=e
  have f_ns:=gG e_ns
  subst f_ns
  exact q
 ·intro q;exact⟨_,rfl,q⟩
def gJ(κ:Cls):DSp:=fun ds Q Ed=>∃(d:D) (ps:List Sp) (h0 h1 h2:Int),ds=[d,.lst false (ps.map spD),T3 h0 h1 h2]/\(∃pk sh,d=c6 (pk,sh)/\kQ ps (h0,h1,h2) pk sh/\ps.length<=30/\(∀p∈ps,WB 40 p)/\CB 40 (h0,h1,h2)/\Q (.bl true))
theorem gA(κ:Cls)(d:D)(ps:List Sp)(h0 h1 h2:Int)(Q:D->Prop)(Ed:Value->Prop):gJ κ [d,.lst false (ps.map spD),T3 h0 h1 h2] Q Ed=(∃pk sh,d=c6 (pk,sh)/\kQ ps (h0,h1,h2) pk sh/\ps.length<=30/\(∀p∈ps,WB 40 p)/\CB 40 (h0,h1,h2)/\Q (.bl true)):=by
 apply propext
 constructor
 ·rintro⟨x0,x1,x2,x3,x4,e,q⟩
  simp only[T3,zAL,D.int.injEq,D.tup.injEq,D.lst.injEq,and_true,true_and]at e
  obtain⟨rfl,e_ps,⟨rfl,rfl,rfl⟩⟩:=e
  have f_ps:=jU e_ps
  subst f_ps
  exact q
 ·intro q;exact⟨_,_,_,_,_,rfl,q⟩
def jb(κ:Cls):DSp:=fun ds Q Ed=>∃(m:Sp) (n:Int) (f:Int),ds=[spD m,.int n,.int f]/\(1<=f/\f<=10000000000/\-10000000000<=m.1/\m.1<=10000000000/\-10000000000<=m.2/\m.2<=10000000000/\∀ps,Cf m ps->Q (.lst true (ps.map spD)))
theorem jo(κ:Cls)(m:Sp)(n:Int)(f:Int)(Q:D->Prop)(Ed:Value->Prop):jb κ [spD m,.int n,.int f] Q Ed=(1<=f/\f<=10000000000/\-10000000000<=m.1/\m.1<=10000000000/\-10000000000<=m.2/\m.2<=10000000000/\∀ps,Cf m ps->Q (.lst true (ps.map spD))):=by
 apply propext
 constructor
 ·rintro⟨x0,x1,x2,e,q⟩
  simp only[T3,zAL,D.int.injEq,D.tup.injEq,D.lst.injEq,and_true,true_and]at e
  obtain⟨e_m,rfl,rfl⟩:=e
  have f_m:=bS e_m
  subst f_m
  exact q
 ·intro q;exact⟨_,_,_,rfl,q⟩
def jF(κ:Cls):DSp:=fun ds Q Ed=>∃(ns:List Int),ds=[.lst false (ns.map D.int)]/\(ns.length<=63/\∀Ls X,LsOk Ls->(∀ps∈Ls,ps.length<=7)->oO Ls X->Q (.lst true (Ls.map dw)))
theorem jS(κ:Cls)(ns:List Int)(Q:D->Prop)(Ed:Value->Prop):jF κ [.lst false (ns.map D.int)] Q Ed=(ns.length<=63/\∀Ls X,LsOk Ls->(∀ps∈Ls,ps.length<=7)->oO Ls X->Q (.lst true (Ls.map dw))):=by
 apply propext
 constructor
 ·rintro⟨x0,e,q⟩
  simp only[T3,zAL,D.int.injEq,D.tup.injEq,D.lst.injEq,and_true,true_and]at e
  have e_ns:=e
  have f_ns:=gG e_ns
  subst f_ns
  exact q
 ·intro q;exact⟨_,rfl,q⟩
def kE(κ:Cls):DSp:=fun ds Q Ed=>∃(d:D) (Ls:List (List Sp)),ds=[d,.lst false (Ls.map aZ)]/\(∃y rs,d=mh y rs/\LsOk Ls/\Pr y/\CB 40 y/\(∀i,i<Ls.length->kQ (Ls.getD i []) y (rs.getD i ([],[])).1 (rs.getD i ([],[])).2)/\rs.length=Ls.length/\Q (.bl true))
theorem iq(κ:Cls)(d:D)(Ls:List (List Sp))(Q:D->Prop)(Ed:Value->Prop):kE κ [d,.lst false (Ls.map aZ)] Q Ed=(∃y rs,d=mh y rs/\LsOk Ls/\Pr y/\CB 40 y/\(∀i,i<Ls.length->kQ (Ls.getD i []) y (rs.getD i ([],[])).1 (rs.getD i ([],[])).2)/\rs.length=Ls.length/\Q (.bl true)):=by
 apply propext
 constructor
 ·rintro⟨x0,x1,e,q⟩
  simp only[T3,zAL,D.int.injEq,D.tup.injEq,D.lst.injEq,and_true,true_and]at e
  obtain⟨rfl,e_Ls⟩:=e
  have f_Ls:=ph e_Ls
  subst f_Ls
  exact q
 ·intro q;exact⟨_,_,rfl,q⟩
section
variable{P:Program}{w:World}{K:PySem.W.Frag}{mg:Str->Option Value}{base:Heap}{κ:Cls}
local macro_rules | `(tactic| walk_at "rd") => do
 let l := ("vN vI vP y6 yX dOp dB yW dOr yZ vC vK dIf oV dC lT rN vQ vG qQ dCB dIs xg xh AL AM pG dS Aa Ab xy sW uP sZ iP sd si xB qR y3 oR oU uz uA jd kU xr xu xt zAK zBZ CY C2 dY tM qH lP cL bP bN bF gL tB kj AA xn uy zA5 zAe zAv uK uL xT uH uG qv uF nW qr qu qq qp true_and false_and and_false false_or or_false exists_false vF qU vM uY uX jM vD y4 gd2 zAa Bool.true_eq_false if_false if_true decide_eq_true_eq Bool.not_eq_eq_eq_not zCo Bool.not_false decide_eq_false_iff_not ite_not rg wV rP yY y8 y7 vO lU cD rL vL qS u6 yE uk rh rj zd rM xC y9 rO oW xo xp gH zCW zCV oS AB oD fQ fT kO mH mJ fV ik ja mI jT jG gI oE iE iu jE iH eO i8 lO gT fP eR ig iv dE ij i9 gU c7 jq iw iz jc dX iA gA jo jS iq CZ C3 ft fY dZ iL d5 iM rQ vR vE kI iK nB oI mP vH vJ nK kK fX fW kJ jH".splitOn " ").toArray.map fun s => Lean.mkIdent s.toName
 `(tactic| try simp only [at0, at1, at2, at3, $[$l:ident],*])
local macro_rules | `(tactic| walk_at "rx") => do
 let l := ("vN vI vP y6 yX dOp dB yW dOr yZ vC vK dIf oV dC lT rN vQ vG qQ dCB dIs xg xh AL AM pG dS Aa Ab xy sW uP sZ iP sd si xB qR y3 oR oU uz uA kU xr xu xt zAK zBZ CY C2 dY tM qH lP cL bP bN bF gL tB kj AA xn uy zA5 zAe zAv uK uL xT uH uG qv uF nW qr qu qq qp true_and false_and and_false false_or or_false exists_false qU vM uY uX jM vD y4 gd2 zAa Bool.true_eq_false if_false if_true decide_eq_true_eq Bool.not_eq_eq_eq_not zCo Bool.not_false decide_eq_false_iff_not ite_not rg wV rP yY y8 y7 vO lU cD rL vL qS u6 yE uk rh rj zd rM xC y9 rO oW xo xp gH zCW zCV oS AB oD fQ fT kO mH mJ fV ik ja mI jT jG gI oE iE iu jE iH eO i8 lO gT fP eR ig iv dE ij i9 gU c7 jq iw iz jc dX iA gA jo jS iq CZ C3 ft fY dZ iL d5 iM rQ vR vE kI iK nB oI mP vH vJ nK kK fX fW kJ jH".splitOn " ").toArray.map fun s => Lean.mkIdent s.toName
 `(tactic| try simp only [at0, at1, at2, at3, $[$l:ident],*])
theorem BG {f:Addr} {fd:FuncData} (F:aB K "sign" "sign" tH f fd) (C:COk K mg κ)    : aS P w K mg base (CX1 P w) 1 f fd ["number"] (aT K (pR κ)):=by
 refine aB.okN F BW (fun ds Q E h=>by obtain⟨_,rfl,_⟩:=h;rfl) fun cdv A outer s H E hr=>⟨_,(aq (bf (aP qW (dv 0) ae) (av (aA ae)) aR) (aq (bf (aP fH (dv 0) ae) (av (aA (cz ae))) aR) (av (aA ae)))),?_⟩
 rintro ds Q Ed ⟨n,rfl,h⟩
 have e0:aF ["number"] [.int n]=([some (.val (.int n))]:Ro):=rfl
 rw[e0];clear e0
 walk_at "rd"
 unfold sg at h
 split
 ·rename_i h0;rw[if_pos h0]at h;exact h
 ·rename_i h0
  rw[if_neg h0]at h
  split
  ·rename_i h1;rw[if_pos h1]at h;exact h
  ·rename_i h1;rw[if_neg h1]at h;exact h
theorem my {f:Addr} {fd:FuncData} (F:aB K "common_divisor" "common_divisor" fi f fd) (C:COk K mg κ)   (z_abs:mg "abs" = none):aS P w K mg base (CX1 P w) 1 f fd ["one", "other"] (aT K (cP κ)):=by
 refine aB.okN F cO (fun ds Q E h=>by obtain⟨_,_,rfl,_⟩:=h;rfl) fun cdv A outer s H E hr=>⟨_,(aq (mR PassesOwn.never (aP i5 (dv 1) ae) (aq (aI 2 cO.nd (ak bM (dv 0) (dv 1))) (aq (aI 0 cO.nd (dv 1)) (av (aI 1 cO.nd (dv 2)))))) (av (aA (aJ kS (by rfl) z_abs boot_abs (aa (dv 0) ai))))),?_⟩
 rintro ds Q Ed ⟨a,b,rfl,h⟩
 have e0:aF ["one", "other", "rest"] [.int a,.int b]=([some (.val (.int a)),some (.val (.int b)),none]:Ro):=rfl
 rw[e0];clear e0
 refine⟨fun m ρ=>∃(x y:Int) (r:Option Sl),ρ=[some (.val (.int x)),some (.val (.int y)),r]/\Int.gcd x y=Int.gcd a b/\m=y.natAbs,⟨_,a,b,none,rfl,rfl,rfl⟩,?_⟩
 rintro m ρ ⟨x,y,r,rfl,hg,rfl⟩
 walk_at "rd"
 by_cases hy:y=0
 ·subst hy
  rw[PM.qk]at hg
  rw[if_pos rfl,hg]
  exact h
 ·rw[if_neg hy]
  exact⟨hy,_,PM.qi x hy,y,x.fmod y,_,rfl,(PM.sA x y).trans hg,rfl⟩
theorem xP {f:Addr} {fd:FuncData} (F:aB K "lowest" "lowest" ky f fd) (C:COk K mg κ)  (h_common_divisor:Has P w K mg base "common_divisor" 1 ["one", "other"] (cP κ))  : aS P w K mg base (CX1 P w) 2 f fd ["numbers"] (aT K (fB κ)):=by
 refine aB.okN F jk (fun ds Q E h=>by obtain⟨_,rfl,_⟩:=h;rfl) fun cdv A outer s H E hr=>⟨_,(aq (aI 1 jk.nd ae) (aq (cA PassesOwn.never rfl (bO (dv 0)) (br 2 jk.nd) (av (aI 1 jk.nd (aw h_common_divisor (hr.mono (by decide)) (aa (dv 1) (aa (dv 2) ai)))))) (av (aA (eA (by rfl) (by exact bW (osc:=au ky) (xs:=["number"]) (ns:=["divisor"]) (by decide +kernel)) (bG.cons 1 bG.nil) (bO (dv 0)) (fun _ _ _ _ _=>di) (fun _ _ _ _ _=>(ak dq (dv 0) (dv 1)))))))),?_⟩
 rintro ds Q Ed ⟨ns,rfl,h⟩
 have e0:aF ["numbers", "divisor", "number"] [.lst false (ns.map D.int)]=([some (.val (.lst false (ns.map D.int))),none,none]:Ro):=rfl
 rw[e0];clear e0
 obtain⟨hl,hz,hb,h⟩:=h
 walk_at "rx"
 refine PD.bZ ns D.int (fun j ρ=>∃v2:Option Sl,ρ=[some (.val (.lst false (ns.map D.int))),some (.val (.int (bu 0 (ns.take j)))),v2]) (fun R q=>?_) ⟨none,rfl⟩ ?_ ?_
 ·walk_at "rd"
  exact q
 ·rintro j x ρ' hx ⟨v2,rfl⟩
  walk_at "rd"
  refine⟨some (.val (.int x)),?_⟩
  rw[zBv,hx]
  show _=[_,some (Sl.val (D.int (bu 0 (ns.take j++[x])))),_]
  rw[k7]
 ·rintro ρ' ⟨v2,rfl⟩
  rw[zBs]
  walk_at "rx"
  refine PD.comp_map ns D.int (fun _=>true) (fun x=>.int (x.fdiv (bu 0 ns))) (fun R q=>?_) (by rw[sizeLine_eq];omega) (fun x hx K hK=>?_) (fun x hx _ K hK=>?_) ?_
  ·walk_at "rd"
   exact q
  ·walk_at "rd"
   exact hK
  ·walk_at "rd"
   exact⟨⟨hz,hb.mono (by decide)⟩,hK⟩
  ·rw[zA8.mpr (fun _ _=>rfl)]
   unfold cM at h
   rw[zAo]at h
   exact h
theorem wx {f:Addr} {fd:FuncData} (F:aB K "reduced" "reduced" lJ f fd) (C:COk K mg κ)  (h_common_divisor:Has P w K mg base "common_divisor" 1 ["one", "other"] (cP κ))  : aS P w K mg base (CX1 P w) 2 f fd ["triple", "lead"] (aT K (kF κ)):=by
 refine aB.okN F kB (fun ds Q E h=>by obtain⟨_,_,_,_,rfl,_⟩:=h;rfl) fun cdv A outer s H E hr=>⟨_,(aq (aI 2 kB.nd (aw h_common_divisor (hr.mono (by decide)) (aa (aw h_common_divisor (hr.mono (by decide)) (aa (ao (dv 0) ae) (aa (ao (dv 0) ae) ai))) (aa (ao (dv 0) ae) ai)))) (aq (bf (aP fH (dv 1) ae) (av (aI 2 kB.nd (cz (dv 2)))) aR) (av (aA (bq (aa (ak dq (ao (dv 0) ae) (dv 2)) (aa (ak dq (ao (dv 0) ae) (dv 2)) (aa (ak dq (ao (dv 0) ae) (dv 2)) ai)))))))),?_⟩
 rintro ds Q Ed ⟨x,y,z,l,rfl,h⟩
 have e0:aF ["triple", "lead", "divisor"] [T3 x y z,.int l]=([some (.val (T3 x y z)),some (.val (.int l)),none]:Ro):=rfl
 rw[e0];clear e0
 obtain⟨hz,bx,by',bz,h⟩:=h
 have hne:=PM.rY (l:=l) hz
 have hbd:=(Cp (l:=l) hz bx by' bz).mono (show 4000<=8000 by decide)
 walk_at "rd"
 have eg:((Int.gcd (Int.gcd x y:Int) z:Nat):Int)=(PM.g3 x y z:Int):=rfl
 rw[eg]
 have fin:∀g:Int,g=PM.dv3 x y z l->CD x g/\CD y g/\CD z g/\([D.int (x.fdiv g),.int (y.fdiv g),.int (z.fdiv g)]:List D).length<=sizeLine/\Q (.tup [.int (x.fdiv g),.int (y.fdiv g),.int (z.fdiv g)]):=by
  rintro g rfl
  exact⟨⟨hne,hbd⟩,⟨hne,hbd⟩,⟨hne,hbd⟩,sz3 _ _ _,h⟩
 by_cases hl:l<0
 ·rw[if_pos (by simpa using hl)]
  exact fin _ (by unfold PM.dv3;rw[if_pos hl])
 ·rw[if_neg (by simpa using hl)]
  exact fin _ (by unfold PM.dv3;rw[if_neg hl])
theorem zP {f:Addr} {fd:FuncData} (F:aB K "picks" "picks" mq f fd) (C:COk K mg κ)   (z_range:mg "range" = none):aS P w K mg base (CX1 P w) 1 f fd ["count", "size"] (aT K (nr κ)):=by
 refine aB.okN F fk (fun ds Q E h=>by obtain⟨_,_,rfl,_⟩:=h;rfl) fun cdv A outer s H E hr=>⟨_,(aq (aI 2 fk.nd (cG (aa (cG ai) ai))) (aq (cA PassesOwn.never rfl (dR (by rfl) z_range (aa (dv 1) ai)) (br 3 fk.nd) (aq (jL 4 fk.nd ai) (aq (cA PassesOwn.never rfl (bO (dv 2)) (br 5 fk.nd) (aq (aI 6 fk.nd (mQ (aP qW (dv 3) ae) (ak aK (ao (dv 5) (cz ae)) ae) ae)) (av (qg 4 (eA (by rfl) (by exact bW (osc:=au mq) (xs:=["number"]) (ns:=["pick"]) (by decide +kernel)) (bG.cons 5 bG.nil) (qn (by rfl) z_range (aa (dv 6) (aa (dv 0) ai))) (fun _ _ _ _ _=>di) (fun _ _ _ _ _=>(ak aK (dv 1) (cG (aa (dv 0) ai))))))))) (cX 4 (av (aI 2 fk.nd (dv 4))))))) (av (aA (dv 2))))),?_⟩
 rintro ds Q Ed ⟨n,s,rfl,h⟩
 have e0:aF ["count", "size", "found", "length", "longer", "pick", "first"] [.int n,.int s]=([some (.val (.int n)),some (.val (.int s)),none,none,none,none,none]:Ro):=rfl
 rw[e0];clear e0
 obtain⟨m,t,rfl,rfl,hm,ht,h⟩:=h
 have sz:∀j,j<=3->(lev m j).length<=216000:=fun j hj=>zAw (uM m j) (zAw (Nat.pow_le_pow_left hm j) (zAw (zB3 (by decide) hj) (by decide)))
 walk_at "rx"
 refine⟨zAk _,by rw[sizeLine_eq];decide,?_⟩
 refine PD.bZ (List.range' 0 t) (fun(k:Nat)=>D.int (k:Int)) (fun j ρ=>∃v3 v4 v5 v6:Option Sl,ρ=[some (.val (.int m)),some (.val (.int t)),some (.val (.lst true ((lev m j).map pkD))),v3,v4,v5,v6]) (fun R q=>?_) ⟨none,none,none,none,rfl⟩ ?_ ?_
 ·walk_at "rd"
  rw[pI]
  exact⟨⟨by omega,by omega⟩,q⟩
 ·rintro j x ρ' hx ⟨v3,v4,v5,v6,rfl⟩
  obtain⟨hj,ex⟩:=zAE.mp hx
  rw[zAj]at hj
  rw[zBn]at ex
  have ex':x=j:=by omega
  subst ex'
  walk_at "rx"
  refine⟨zAk _,?_⟩
  refine PD.uB (lev m x) pkD (fun done ρ=>∃v5 v6:Option Sl,ρ=[some (.val (.int m)),some (.val (.int t)),some (.val (.lst true ((lev m x).map pkD))),some (.val (.int x)),some (.own ((done.flatMap (nxt m)).map pkD)),v5,v6]) (fun R q=>?_) ⟨_,_,rfl⟩ ?_ ?_
  ·walk_at "rd"
   exact q
  ·rintro done pk ρ2 hpk hlt ⟨v5,v6,rfl⟩
   obtain⟨hlen,hlt'⟩:=mf hpk
   have hf:cY pk<=m:=by
    unfold cY
    cases e:pk.getLast? with
    |none=>exact zAk _
    |some l=>have:=hlt' l (List.mem_of_getLast? e);exact this
   have dl:done.length*m<=216000*60:=Nat.mul_le_mul (zAw (zB0 hlt) (sz x (by omega))) hm
   have fl:=sk m done
   have nl:(nxt m pk).length<=60:=by unfold nxt;rw[zAA,zAj];omega
   have rest:∀(v:D) (Qd:D->Prop),v=.int (cY pk)->Qd (.lst true ((nxt m pk).map pkD))->jd (qU (lT (jz 6) (lT (jz 0) rN))) [5] kU (dOp qX (jz 1) (vG (lT (jz 0) rN))) [some (.val (.int m)),some (.val (.int t)),some (.val (.lst true ((lev m x).map pkD))),some (.val (.int x)),some (.own ((done.flatMap (nxt m)).map pkD)),some (.val (pkD pk)),some (.val v)] Qd:=by
    rintro v Qd rfl hQ
    refine PD.comp_map (List.range' (cY pk) (m - cY pk)) (fun(k:Nat)=>D.int (k:Int)) (fun _=>true) (fun k=>pkD (pk++[k])) (fun R q=>?_) (by rw[zAj,sizeLine_eq];omega) (fun k hk K hK=>?_) (fun k hk _ K hK=>?_) ?_
    ·walk_at "rd"
     rw[uZ]
     exact⟨⟨by omega,by omega⟩,⟨by omega,by omega⟩,q⟩
    ·walk_at "rd"
     exact hK
    ·unfold pkD at hK ⊢
     walk_at "rd"
     rw[zA0]at hK
     refine⟨sz1 _,?_,hK⟩
     rw[zAA,sizeLine_eq,hlen]
     show x+1<=_
     omega
    ·rw[zA8.mpr (fun _ _=>rfl)]
     unfold nxt at hQ
     rw[zAo]at hQ
     exact hQ
   have end_:∀v:D,∃xs,D.lst true ((nxt m pk).map pkD)=D.lst true xs/\(List.map pkD (List.flatMap (nxt m) done)).length+xs.length<=sizeLine/\∃v5 v6:Option Sl,([some (Sl.val (D.int m)),some (Sl.val (D.int t)),some (Sl.val (D.lst true (List.map pkD (lev m x)))),some (Sl.val (D.int x)),some (Sl.own (List.map pkD (List.flatMap (nxt m) done)++xs)),some (Sl.val (pkD pk)),some (Sl.val v)]:Ro)=[some (Sl.val (D.int m)),some (Sl.val (D.int t)),some (Sl.val (D.lst true (List.map pkD (lev m x)))),some (Sl.val (D.int x)),some (Sl.own (List.map pkD (List.flatMap (nxt m) (done++[pk])))),v5,v6]:=fun v =>
    ⟨_,rfl,by rw[zAA,zAA,sizeLine_eq];omega,_,_,by rw[List.flatMap_append,zA0,List.flatMap_singleton]⟩
   walk_at "rx"
   by_cases hx0:x=0
   ·subst hx0
    have:pk=[]:=zBj hlen
    subst this
    rw[if_neg (by omega)]
    exact rest _ _ rfl (end_ _)
   ·rw[if_pos (by omega)]
    have hne:pk ≠ []:=fun e=>hx0 (by rw[<- hlen,e];rfl)
    show tw (.lst true (pk.map fun(k:Nat)=>D.int (k:Int))) _ _
    rw[kj]
    refine AU hne ?_
    rw[rg]
    exact rest _ _ (by congr 1;omega) (end_ _)
  ·rintro ρ2 ⟨v5,v6,rfl⟩
   walk_at "rd"
   exact⟨_,_,_,_,rfl⟩
 ·rintro ρ' ⟨v3,v4,v5,v6,rfl⟩
  walk_at "rd"
  rw[zAj]
  exact h
theorem zS {f:Addr} {fd:FuncData} (F:aB K "value" "value" pN f fd) (C:COk K mg κ)    : aS P w K mg base (CX1 P w) 1 f fd ["gauge", "place"] (aT K (kH κ)):=by
 refine aB.okN F Aj (fun ds Q E h=>by obtain⟨_,_,_,_,_,_,rfl,_⟩:=h;rfl) fun cdv A outer s H E hr=>⟨_,(av (aA (ak aK (ak aK (ak aD (ao (dv 0) ae) (ao (dv 1) ae)) (ak aD (ao (dv 0) ae) (ao (dv 1) ae))) (ak aD (ao (dv 0) ae) (ao (dv 1) ae))))),?_⟩
 rintro ds Q Ed ⟨g0,g1,g2,p0,p1,p2,rfl,h⟩
 have e0:aF ["gauge", "place"] [T3 g0 g1 g2,T3 p0 p1 p2]=([some (.val (T3 g0 g1 g2)),some (.val (T3 p0 p1 p2))]:Ro):=rfl
 rw[e0];clear e0
 obtain⟨h0,h1,h2,k0,k1,k2,h⟩:=h
 have cm:∀{x y:Int},Bd 1000 x->Bd 1000 y->CM x y:=fun hx hy=>.inr (.inr ⟨hx.mono (by decide),hy.mono (by decide)⟩)
 walk_at "rd"
 exact⟨cm h0 k0,cm h1 k1,cm h2 k2,h⟩
theorem BF {f:Addr} {fd:FuncData} (F:aB K "side" "side" tG f fd) (C:COk K mg κ)  (h_sign:Has P w K mg base "sign" 1 ["number"] (pR κ)) (h_value:Has P w K mg base "value" 1 ["gauge", "place"] (kH κ))  : aS P w K mg base (CX1 P w) 2 f fd ["gauge", "place"] (aT K (gB κ)):=by
 refine aB.okN F BV (fun ds Q E h=>by obtain⟨_,_,_,_,_,_,rfl,_⟩:=h;rfl) fun cdv A outer s H E hr=>⟨_,(av (aA (aw h_sign (hr.mono (by decide)) (aa (aw h_value (hr.mono (by decide)) (aa (dv 0) (aa (dv 1) ai))) ai)))),?_⟩
 rintro ds Q Ed ⟨g0,g1,g2,p0,p1,p2,rfl,h⟩
 have e0:aF ["gauge", "place"] [T3 g0 g1 g2,T3 p0 p1 p2]=([some (.val (T3 g0 g1 g2)),some (.val (T3 p0 p1 p2))]:Ro):=rfl
 rw[e0];clear e0
 obtain⟨h0,h1,h2,k0,k1,k2,h⟩:=h
 walk_at "rd"
 exact⟨h0,h1,h2,k0,k1,k2,h⟩
theorem wo {f:Addr} {fd:FuncData} (F:aB K "crossed" "crossed" lE f fd) (C:COk K mg κ)    : aS P w K mg base (CX1 P w) 1 f fd ["one", "other"] (aT K (iG κ)):=by
 refine aB.okN F wD (fun ds Q E h=>by obtain⟨_,_,_,_,_,_,rfl,_⟩:=h;rfl) fun cdv A outer s H E hr=>⟨_,(av (aA (bq (aa (ak aY (ak aD (ao (dv 0) ae) (ao (dv 1) ae)) (ak aD (ao (dv 1) ae) (ao (dv 0) ae))) (aa (ak aY (ak aD (ao (dv 0) ae) (ao (dv 1) ae)) (ak aD (ao (dv 1) ae) (ao (dv 0) ae))) (aa (ak aY (ak aD (ao (dv 0) ae) (ao (dv 1) ae)) (ak aD (ao (dv 1) ae) (ao (dv 0) ae))) ai)))))),?_⟩
 rintro ds Q Ed ⟨a0,a1,a2,b0,b1,b2,rfl,h⟩
 have e0:aF ["one", "other"] [T3 a0 a1 a2,T3 b0 b1 b2]=([some (.val (T3 a0 a1 a2)),some (.val (T3 b0 b1 b2))]:Ro):=rfl
 rw[e0];clear e0
 obtain⟨h0,h1,h2,k0,k1,k2,h⟩:=h
 have cm:∀{x y:Int},Bd 200 x->Bd 200 y->CM x y:=fun hx hy=>.inr (.inr ⟨hx.mono (by decide),hy.mono (by decide)⟩)
 walk_at "rd"
 exact⟨cm h1 k2,cm k1 h2,cm h2 k0,cm k2 h0,cm h0 k1,cm k0 h1,sz3 _ _ _,h⟩
theorem xN {f:Addr} {fd:FuncData} (F:aB K "facing" "facing" m8 f fd) (C:COk K mg κ)    : aS P w K mg base (CX1 P w) 1 f fd ["place", "way"] (aT K (cK κ)):=by
 refine aB.okN F yj (fun ds Q E h=>by obtain⟨_,_,_,_,rfl,_⟩:=h;rfl) fun cdv A outer s H E hr=>⟨_,(av (aA (bq (aa (cz (ak aK (ak aD (ao (dv 1) ae) (ao (dv 0) ae)) (ak aD (ao (dv 1) ae) (ao (dv 0) ae)))) (aa (ak aD (ao (dv 1) ae) (ao (dv 0) ae)) (aa (ak aD (ao (dv 1) ae) (ao (dv 0) ae)) ai)))))),?_⟩
 rintro ds Q Ed ⟨p0,p1,p2,w,rfl,h⟩
 have e0:aF ["place", "way"] [T3 p0 p1 p2,spD w]=([some (.val (T3 p0 p1 p2)),some (.val (spD w))]:Ro):=rfl
 rw[e0];clear e0
 obtain⟨h0,h1,h2,hw,h⟩:=h
 unfold spD
 walk_at "rd"
 exact⟨cmB hw.x h1,cmB hw.y h2,cmB hw.x h0,cmB hw.y h0,sz3 _ _ _,h⟩
theorem zQ {f:Addr} {fd:FuncData} (F:aB K "place" "place" pL f fd) (C:COk K mg κ)  (h_reduced:Has P w K mg base "reduced" 2 ["triple", "lead"] (kF κ))  : aS P w K mg base (CX1 P w) 3 f fd ["by", "x", "y"] (aT K (nu κ)):=by
 refine aB.okN F Ah (fun ds Q E h=>by obtain⟨_,_,_,rfl,_⟩:=h;rfl) fun cdv A outer s H E hr=>⟨_,(aq (bf (aP cf (dv 0) ae) (av j5) aR) (av (aA (aw h_reduced (hr.mono (by decide)) (aa (bq (aa (dv 0) (aa (dv 1) (aa (dv 2) ai)))) (aa (dv 0) ai)))))),?_⟩
 rintro ds Q Ed ⟨b,x,y,rfl,h⟩
 have e0:aF ["by", "x", "y"] [.int b,.int x,.int y]=([some (.val (.int b)),some (.val (.int x)),some (.val (.int y))]:Ro):=rfl
 rw[e0];clear e0
 obtain⟨hb,h0,h1,h2,h⟩:=h
 walk_at "rd"
 rw[if_neg hb]
 exact⟨sz3 _ _ _,fun z=>hb z.1,h0,h1,h2,h⟩
theorem uf {f:Addr} {fd:FuncData} (F:aB K "place_of" "place_of" kz f fd) (C:COk K mg κ)    : aS P w K mg base (CX1 P w) 1 f fd ["spot"] (aT K (gK κ)):=by
 refine aB.okN F ug (fun ds Q E h=>by obtain⟨_,rfl,_⟩:=h;rfl) fun cdv A outer s H E hr=>⟨_,(av (aA (bq (aa ae (aa (ao (dv 0) ae) (aa (ao (dv 0) ae) ai)))))),?_⟩
 rintro ds Q Ed ⟨d,rfl,h⟩
 have e0:aF ["spot"] [d]=([some (.val (d))]:Ro):=rfl
 rw[e0];clear e0
 obtain⟨p,rfl,q⟩:=h
 unfold spD
 walk_at "rd"
 exact⟨sz3 _ _ _,q⟩
theorem zR {f:Addr} {fd:FuncData} (F:aB K "swing" "swing" pM f fd) (C:COk K mg κ)    : aS P w K mg base (CX1 P w) 1 f fd ["one", "two", "three"] (aT K (kG κ)):=by
 refine aB.okN F Ai (fun ds Q E h=>by obtain⟨_,_,_,_,_,_,_,_,_,rfl,_⟩:=h;rfl) fun cdv A outer s H E hr=>⟨_,(av (aA (ak aK (ak aK (ak aD (ao (dv 0) ae) (ak aY (ak aD (ao (dv 1) ae) (ao (dv 2) ae)) (ak aD (ao (dv 2) ae) (ao (dv 1) ae)))) (ak aD (ao (dv 1) ae) (ak aY (ak aD (ao (dv 2) ae) (ao (dv 0) ae)) (ak aD (ao (dv 0) ae) (ao (dv 2) ae))))) (ak aD (ao (dv 2) ae) (ak aY (ak aD (ao (dv 0) ae) (ao (dv 1) ae)) (ak aD (ao (dv 1) ae) (ao (dv 0) ae))))))),?_⟩
 rintro ds Q Ed ⟨a0,a1,a2,b0,b1,b2,c0,c1,c2,rfl,h⟩
 have e0:aF ["one", "two", "three"] [T3 a0 a1 a2,T3 b0 b1 b2,T3 c0 c1 c2]=([some (.val (T3 a0 a1 a2)),some (.val (T3 b0 b1 b2)),some (.val (T3 c0 c1 c2))]:Ro):=rfl
 rw[e0];clear e0
 obtain⟨h0,h1,h2,k0,k1,k2,l0,l1,l2,h⟩:=h
 have cm:∀{x y:Int},Bd 1000 x->Bd 1000 y->CM x y:=fun hx hy=>.inr (.inr ⟨hx.mono (by decide),hy.mono (by decide)⟩)
 have c3:∀{x p q r s:Int},Bd 1000 x->Bd 1000 p->Bd 1000 q->Bd 1000 r->Bd 1000 s->CM x (p*q - r*s):=fun hx hp hq hr hs=>.inr (.inr ⟨hx.mono (by decide),((hp.mul hq).sub (hr.mul hs)).mono (by decide)⟩)
 walk_at "rd"
 exact⟨cm k1 l2,cm l1 k2,c3 h0 k1 l2 l1 k2,cm l1 h2,cm h1 l2,c3 k0 l1 h2 h1 l2,cm h1 k2,cm k1 h2,c3 l0 h1 k2 k1 h2,h⟩
theorem zN {f:Addr} {fd:FuncData} (F:aB K "arrow" "arrow" pJ f fd) (C:COk K mg κ)    : aS P w K mg base (CX1 P w) 1 f fd ["one", "other"] (aT K (gw κ)):=by
 refine aB.okN F Ag (fun ds Q E h=>by obtain⟨_,_,_,_,_,_,rfl,_⟩:=h;rfl) fun cdv A outer s H E hr=>⟨_,(av (aA (bq (aa (ak aY (ak aD (ao (dv 0) ae) (ao (dv 1) ae)) (ak aD (ao (dv 1) ae) (ao (dv 0) ae))) (aa (ak aY (ak aD (ao (dv 0) ae) (ao (dv 1) ae)) (ak aD (ao (dv 1) ae) (ao (dv 0) ae))) ai))))),?_⟩
 rintro ds Q Ed ⟨a0,a1,a2,b0,b1,b2,rfl,h⟩
 have e0:aF ["one", "other"] [T3 a0 a1 a2,T3 b0 b1 b2]=([some (.val (T3 a0 a1 a2)),some (.val (T3 b0 b1 b2))]:Ro):=rfl
 rw[e0];clear e0
 obtain⟨h0,h1,h2,k0,k1,k2,h⟩:=h
 walk_at "rd"
 exact⟨cmB h0 k1,cmB k0 h1,cmB h0 k2,cmB k0 h2,sz2 _ _,h⟩
theorem BH {f:Addr} {fd:FuncData} (F:aB K "turn" "turn" tI f fd) (C:COk K mg κ)    : aS P w K mg base (CX1 P w) 1 f fd ["one", "other"] (aT K (mr κ)):=by
 refine aB.okN F BX (fun ds Q E h=>by obtain⟨_,_,rfl,_⟩:=h;rfl) fun cdv A outer s H E hr=>⟨_,(av (aA (ak aY (ak aD (ao (dv 0) ae) (ao (dv 1) ae)) (ak aD (ao (dv 1) ae) (ao (dv 0) ae))))),?_⟩
 rintro ds Q Ed ⟨a,b,rfl,h⟩
 have e0:aF ["one", "other"] [spD a,spD b]=([some (.val (spD a)),some (.val (spD b))]:Ro):=rfl
 rw[e0];clear e0
 obtain⟨ha,hb,h⟩:=h
 unfold spD
 walk_at "rd"
 exact⟨cmB ha.x hb.y,cmB hb.x ha.y,h⟩
theorem BC {f:Addr} {fd:FuncData} (F:aB K "back" "back" tF f fd) (C:COk K mg κ)    : aS P w K mg base (CX1 P w) 1 f fd ["way"] (aT K (jR κ)):=by
 refine aB.okN F BU (fun ds Q E h=>by obtain⟨_,rfl,_⟩:=h;rfl) fun cdv A outer s H E hr=>⟨_,(av (aA (bq (aa (cz (ao (dv 0) ae)) (aa (cz (ao (dv 0) ae)) ai))))),?_⟩
 rintro ds Q Ed ⟨w,rfl,h⟩
 have e0:aF ["way"] [spD w]=([some (.val (spD w))]:Ro):=rfl
 rw[e0];clear e0
 unfold spD at h ⊢
 walk_at "rd"
 exact⟨sz2 _ _,h⟩
theorem wt {f:Addr} {fd:FuncData} (F:aB K "left_of" "left_of" lH f fd) (C:COk K mg κ)    : aS P w K mg base (CX1 P w) 1 f fd ["way"] (aT K (iI κ)):=by
 refine aB.okN F wF (fun ds Q E h=>by obtain⟨_,rfl,_⟩:=h;rfl) fun cdv A outer s H E hr=>⟨_,(av (aA (bq (aa (cz (ao (dv 0) ae)) (aa (ao (dv 0) ae) ai))))),?_⟩
 rintro ds Q Ed ⟨w,rfl,h⟩
 have e0:aF ["way"] [spD w]=([some (.val (spD w))]:Ro):=rfl
 rw[e0];clear e0
 unfold spD at h ⊢
 walk_at "rd"
 exact⟨sz2 _ _,h⟩
theorem zO {f:Addr} {fd:FuncData} (F:aB K "chain" "chain" pK f fd) (C:COk K mg κ)  (h_swing:Has P w K mg base "swing" 1 ["one", "two", "three"] (kG κ)) (z_len:mg "len" = none):aS P w K mg base (CX1 P w) 2 f fd ["places"] (aT K (nk κ)):=by
 refine aB.okN F nc (fun ds Q E h=>by obtain⟨_,rfl,_⟩:=h;rfl) fun cdv A outer s H E hr=>⟨_,(aq (jL 1 nc.nd ai) (aq (cA PassesOwn.never rfl (bO (dv 0)) (br 2 nc.nd) (aq (mR PassesOwn.never (A7 1 (CN (aP qW (aJ bo (by rfl) z_len boot_len (aa (dv 1) ai)) ae) (A9 (aP AI (aw h_swing (hr.mono (by decide)) (aa (ao (dv 1) (cz ae)) (aa (ao (dv 1) (cz ae)) (aa (dv 2) ai)))) ae))).pt) (av (CJ 1))) (av (fv 1 (dv 2))))) (cX 1 (av (aA (dv 1)))))),?_⟩
 rintro ds Q Ed ⟨ps,rfl,h⟩
 have e0:aF ["places", "kept", "each"] [.lst false (ps.map plS)]=([some (.val (.lst false (ps.map plS))),none,none]:Ro):=rfl
 rw[e0];clear e0
 obtain⟨hl,hb,h⟩:=h
 walk_at "rx"
 refine⟨zAk _,?_⟩
 refine PD.uB ps plS (fun done ρ=>∃v:Option Sl,ρ=[some (.val (.lst false (ps.map plS))),some (.own ((bB [] done).reverse.map plS)),v]/\(bB [] done).length<=done.length/\∀p∈bB [] done,SB p) ?_ ?_ ?_ ?_
 ·intro R hR
  walk_at "rd"
  exact hR
 ·exact⟨none,rfl,zAM _,by simp[bB]⟩
 ·rintro done x ρ' hx hlt ⟨v,rfl,hL,hS⟩
  walk_at "rx"
  refine⟨fun m ρ=>∃st:List Sp,ρ=[some (.val (.lst false (ps.map plS))),some (.own (st.reverse.map plS)),some (.val (plS x))]/\m=st.length/\b6 st x=b6 (bB [] done) x/\st.length<=done.length/\∀p∈st,SB p,⟨_,_,rfl,rfl,rfl,hL,hS⟩,?_⟩
  rintro m ρ ⟨st,rfl,rfl,hp,hM,hB⟩
  have stop:b6 st x=st->((st.reverse.map plS).length<sizeLine/\∃v:Option Sl,([some (.val (.lst false (ps.map plS))),some (.own (st.reverse.map plS++[plS x])),some (.val (plS x))]:Ro)=[some (.val (.lst false (ps.map plS))),some (.own ((bB [] (done++[x])).reverse.map plS)),v]/\(bB [] (done++[x])).length<=(done++[x]).length/\∀p∈bB [] (done++[x]),SB p):=fun e=>by
   have e2:bB [] (done++[x])=x::st:=by rw[mC,<- hp,e]
   rw[e2]
   refine⟨by rw[zAA,zA1,sizeLine_eq];omega,_,by rw[zB5,zA0];rfl,by simp;omega,fun p hq=>?_⟩
   rcases zAC.mp hq with z|z
   ·rw[z];exact hb x hx
   ·exact hB p z
  walk_at "rx"
  rcases st with _|⟨b,_|⟨a,r⟩⟩
  ·rw[if_neg (by simp)];exact stop rfl
  ·rw[if_neg (by simp)];exact stop rfl
  ·rw[if_pos (by simp;omega)]
   have eL:(b::a::r).reverse.map plS=r.reverse.map plS++[plS a]++[plS b]:=by simp
   have Ba:=hB a (by simp)
   have Bb:=hB b (by simp)
   have Bx:=hb x hx
   have o1:Bd 1000 1:=by unfold Bd;decide
   refine⟨_,by rw[eL];exact wY _ _ _,_,by rw[eL];exact yM _ _,?_⟩
   try simp only[dZ]
   show kG κ [T3 1 a.1 a.2,T3 1 b.1 b.2,T3 1 x.1 x.2] _ _
   rw[jG]
   refine⟨o1,Ba.x.mono (by decide),Ba.y.mono (by decide),o1,Bb.x.mono (by decide),Bb.y.mono (by decide),o1,Bx.x.mono (by decide),Bx.y.mono (by decide),?_⟩
   rw[dS]
   refine⟨_,rfl,?_⟩
   by_cases c:sw 1 a.1 a.2 1 b.1 b.2 1 x.1 x.2<=0
   ·have c':cr a b x<=0:=c
    rw[if_pos (by simpa using c)]
    refine⟨by simp,(a::r).length,by simp,a::r,?_,rfl,?_,?_,fun p hq=>hB p (zAD _ hq)⟩
    ·rw[eL,List.dropLast_concat];simp
    ·rw[<- hp];conv=>rhs;unfold b6
     rw[if_pos c']
    ·simp at hM ⊢;omega
   ·have c':¬cr a b x<=0:=c
    rw[if_neg (by simpa using c)]
    exact stop (by unfold b6;rw[if_neg c'])
 ·rintro ρ' ⟨v,rfl,_⟩
  walk_at "rx"
  exact h
theorem BE {f:Addr} {fd:FuncData} (F:aB K "hull" "hull" oo f fd) (C:COk K mg κ)  (h_chain:Has P w K mg base "chain" 2 ["places"] (nk κ)) (h_place_of:Has P w K mg base "place_of" 1 ["spot"] (gK κ)) (z_len:mg "len" = none) (z_set:mg "set" = none) (z_sorted:mg "sorted" = none):aS P w K mg base (CX1 P w) 3 f fd ["spots"] (aT K (iR κ)):=by
 refine aB.okN F u4 (fun ds Q E h=>by obtain⟨_,rfl,_⟩:=h;rfl) fun cdv A outer s H E hr=>⟨_,(aq (j6 1 u4.nd (by rfl) (by exact bW (osc:=au oo) (xs:=["spot"]) (ns:=[]) (by decide +kernel)) bG.nil (bO ((vS rfl (by exact C4 hr) (by rfl) z_sorted (by rfl) z_set (dv 0))).ped) (fun _ _ _ _ _=>di) (fun _ _ _ _ _=>(aw h_place_of (hr.mono (by decide)) (aa (dv 0) ai)))) (aq (bf (aP fH (aJ bo (by rfl) z_len boot_len (aa (dv 1) ai)) ae) (av (aA (dv 1))) aR) (av (aA (ak aK ((eZ (aw h_chain (hr.mono (by decide)) (aa (dv 1) ai)) cE (eE (cz ae)))).ped ((eZ (aw h_chain (hr.mono (by decide)) (aa ((CG (dv 1))).ped ai)) cE (eE (cz ae)))).ped))))),?_⟩
 rintro ds Q Ed ⟨ps,rfl,h⟩
 have e0:aF ["spots", "places"] [.lst false (ps.map spD)]=([some (.val (.lst false (ps.map spD))),none]:Ro):=rfl
 rw[e0];clear e0
 obtain⟨hl,hb,h⟩:=h
 walk_at "rx"
 refine yT (P:=fun ys=>cn ys ps/\ys.length<=ps.length) spD plS (fun R hR=>?_) (fun ys hy=>by rw[sizeLine_eq];omega) (fun ys hy x hx K k=>?_) fun ys hy=>?_
 ·refine⟨_,rfl,false,ps.map spK,by rw[AN],by rw[zAA];omega,fun k hk=>?_,fun zs hz=>?_⟩
  ·obtain⟨p,_,e⟩:=zAQ.mp hk
   rw[<- e]
   exact List.cons_ne_nil _ _
  ·obtain⟨ys,rfl,hy⟩:=ya hz
   rw[<- AN]
   exact⟨true,_,rfl,hR ys ⟨hy,mZ hy⟩⟩
 ·walk_at "rd"
  exact⟨x,ft x,k⟩
 ·have ly:=hy.2
  have bs:∀p∈ys,SB p:=fun p hp=>hb p ((hy.1.2 p).mp hp)
  have hQ:=h ys hy.1 hy.2
  have l1:=fg [] ys
  have l2:=fg [] ys.reverse
  simp only[List.length_nil,zA1]at l1 l2
  unfold aL at hQ
  walk_at "rd"
  rw[zAA]
  split
  ·rename_i c
   rw[if_pos (by omega)]at hQ
   exact hQ
  ·rename_i c
   rw[if_neg (by omega)]at hQ
   refine⟨by omega,bs,?_⟩
   rw[<- List.map_reverse,iL,jE]
   refine⟨by rw[zA1];omega,fun p hp=>bs p (List.mem_reverse.mp hp),true,_,rfl,?_⟩
   rw[rJ,rJ]
   refine⟨?_,?_⟩
   ·rw[zBA,zBA,zAA,zAA,zA1,zA1,sizeLine_eq];omega
   ·rw[<- List.map_dropLast,<- List.map_dropLast,<- zA0];exact hQ
theorem pD {f:Addr} {fd:FuncData} (F:aB K "thin_bounds" "thin_bounds" ic f fd) (C:COk K mg κ)  (h_arrow:Has P w K mg base "arrow" 1 ["one", "other"] (gw κ)) (h_back:Has P w K mg base "back" 1 ["way"] (jR κ)) (h_facing:Has P w K mg base "facing" 1 ["place", "way"] (cK κ)) (h_left_of:Has P w K mg base "left_of" 1 ["way"] (iI κ))  : aS P w K mg base (CX1 P w) 2 f fd ["one", "other"] (aT K (gC κ)):=by
 refine aB.okN F gr (fun ds Q E h=>by obtain⟨_,_,rfl,_⟩:=h;rfl) fun cdv A outer s H E hr=>⟨_,(aq (aI 2 gr.nd (mQ (aP (wg (by exact hr.units)) (dv 0) (dv 1)) (aw h_arrow (hr.mono (by decide)) (aa (dv 0) (aa (dv 1) ai))) (bq (aa ae (aa ae ai))))) (aq (aI 3 gr.nd (aw h_left_of (hr.mono (by decide)) (aa (dv 2) ai))) (av (aA (cG (aa (aw h_facing (hr.mono (by decide)) (aa (dv 0) (aa (dv 2) ai))) (aa (aw h_facing (hr.mono (by decide)) (aa (dv 1) (aa (aw h_back (hr.mono (by decide)) (aa (dv 2) ai)) ai))) (aa (aw h_facing (hr.mono (by decide)) (aa (dv 0) (aa (dv 3) ai))) (aa (aw h_facing (hr.mono (by decide)) (aa (dv 0) (aa (aw h_back (hr.mono (by decide)) (aa (dv 3) ai)) ai))) ai))))))))),?_⟩
 rintro ds Q Ed ⟨a,b,rfl,h⟩
 have e0:aF ["one", "other", "along", "across"] [plS a,plS b]=([some (.val (plS a)),some (.val (plS b)),none,none]:Ro):=rfl
 rw[e0];clear e0
 obtain⟨ha,hb,h⟩:=h
 have o1:Bd 200 1:=by unfold Bd;decide
 have fc:∀(p w:Sp) (K:D->Prop),SB p->WB 62 w->K (trD (bQ p w))->cK κ [plS p,spD w] K fun _=>False:=fun p w K hp hw hK=>by
  show cK κ [T3 1 p.1 p.2,spD w] K _
  rw[ja]
  exact⟨o1,hp.x.mono (by decide),hp.y.mono (by decide),hw.mono (by decide),hK⟩
 have bkB:∀{w:Sp},WB 62 w->WB 62 (bkW w):=fun hw=>⟨iW hw.x,iW hw.y⟩
 have lfB:∀{w:Sp},WB 62 w->WB 62 (lfW w):=fun hw=>⟨iW hw.y,hw.x⟩
 have all:∀w:Sp,WB 62 w->Q (.lst true ([bQ a w,bQ b (bkW w),bQ a (lfW w),bQ a (bkW (lfW w))].map trD))->iI κ [spD w] (fun d_1=>cK κ [plS a,spD w] (fun x=>jR κ [spD w] (fun x_1=>cK κ [plS b,aM x_1] (fun x_2=>cK κ [plS a,aM d_1] (fun x_3=>jR κ [aM d_1] (fun x_4=>cK κ [plS a,aM x_4] (fun x_5=>[x,x_2,x_3,x_5].length<=sizeLine/\Q (D.lst true [x,x_2,x_3,x_5])) fun _=>False) fun _=>False) fun _=>False) fun _=>False) fun _=>False) fun _=>False) fun _=>False:=fun w hw hQ=>by
  rw[iu]
  refine fc a w _ ha hw ?_
  rw[iE,ft]
  refine fc b _ _ hb (bkB hw) ?_
  rw[ft]
  refine fc a _ _ ha (lfB hw) ?_
  rw[iE,ft]
  exact fc a _ _ ha (bkB (lfB hw)) ⟨sz4 _ _ _ _,hQ⟩
 unfold dH aQ at h
 walk_at "rx"
 refine⟨(xJ a).ok,(xJ b).ok,?_⟩
 by_cases c:a=b
 ·rw[if_pos c]at h
  rw[if_neg (by rw[c,iY];simp)]
  exact⟨sz2 _ _,all (1,0) ⟨by unfold Bd;decide,by unfold Bd;decide⟩ h⟩
 ·rw[if_neg c]at h
  rw[if_pos (by rw[CP];simpa using c)]
  show gw κ [T3 1 a.1 a.2,T3 1 b.1 b.2] _ _
  rw[gI]
  refine⟨o1,ha.x.mono (by decide),ha.y.mono (by decide),o1,hb.x.mono (by decide),hb.y.mono (by decide),?_⟩
  have ab:=yJ ha hb
  unfold aQ at ab
  rw[if_neg c]at ab
  exact all (1*b.1 - 1*a.1,1*b.2 - 1*a.2) ab h
theorem xK {f:Addr} {fd:FuncData} (F:aB K "bounds" "bounds" ku f fd) (C:COk K mg κ)  (h_crossed:Has P w K mg base "crossed" 1 ["one", "other"] (iG κ)) (h_thin_bounds:Has P w K mg base "thin_bounds" 2 ["one", "other"] (gC κ)) (z_len:mg "len" = none) (z_range:mg "range" = none):aS P w K mg base (CX1 P w) 3 f fd ["corners"] (aT K (lM κ)):=by
 refine aB.okN F yh (fun ds Q E h=>by obtain⟨_,rfl,_⟩:=h;rfl) fun cdv A outer s H E hr=>⟨_,(aq (bf (aP fH (aJ bo (by rfl) z_len boot_len (aa (dv 0) ai)) ae) (av (aA (aw h_thin_bounds (hr.mono (by decide)) (aa (ao (dv 0) ae) (aa (ao (dv 0) (cz ae)) ai))))) aR) (av (aA (eA (by rfl) (by exact bW (osc:=au ku) (xs:=["index"]) (ns:=["corners"]) (by decide +kernel)) (bG.cons 0 bG.nil) (dR (by rfl) z_range (aa (aJ bo (by rfl) z_len boot_len (aa (dv 0) ai)) ai)) (fun _ _ _ _ _=>di) (fun _ _ _ _ _=>(aw h_crossed (hr.mono (by decide)) (aa (ao (dv 1) (ak aY (dv 0) ae)) (aa (ao (dv 1) (dv 0)) ai)))))))),?_⟩
 rintro ds Q Ed ⟨hs,rfl,h⟩
 have e0:aF ["corners"] [.lst false (hs.map plS)]=([some (.val (.lst false (hs.map plS)))]:Ro):=rfl
 rw[e0];clear e0
 obtain⟨h0,hl,hb,h⟩:=h
 unfold aU at h
 have gt:∀i,i<hs.length->hs[i]?=some (hs.getD i (0,0)):=fun i hi=>by
  rw[zAG,zAB hi];rfl
 have gm:∀i,i<hs.length->SB (hs.getD i (0,0)):=fun i hi=>hb _ (zAT (gt i hi))
 walk_at "rx"
 rw[zAA]
 by_cases c:hs.length<3
 ·rw[if_pos (by omega)]
  rw[if_pos c]at h
  refine⟨_,bA (j:=0) (by rw[zAH,gt 0 h0];rfl),_,pX (by rw[zAA];exact h0) (by rw[zAA,zAH,gt _ (by omega)];rfl),?_⟩
  rw[dZ,dZ,eO]
  exact⟨gm 0 h0,gm _ (by omega),h⟩
 ·rw[if_neg (by omega)]
  rw[if_neg c]at h
  refine PD.comp_map (List.range' 0 hs.length) (fun(k:Nat)=>D.int (k:Int)) (fun _=>true) (fun k=>trD (dM (bC hs k) (hs.getD k (0,0)))) (fun R q=>?_) (by rw[zAj,sizeLine_eq];omega) (fun k hk K hK=>?_) (fun k hk _ K hK=>?_) ?_
  ·walk_at "rd"
   rw[zAA,pI]
   exact⟨⟨by omega,by omega⟩,q⟩
  ·walk_at "rd"
   exact hK
  ·have hk':k<hs.length:=by rw[zBI]at hk;omega
   have m1:(k+hs.length - 1) % hs.length<hs.length:=zB1 _ h0
   have at1:atI (hs.map plS) ((k:Int) - 1)=some (plS (bC hs k)):=by
    have:=rz (hs.map plS) k 1 (by rw[zAA];exact hk') (by rw[zAA];exact h0)
    rw[zAA,zAH,gt _ m1]at this
    exact this
   have at0:atI (hs.map plS) (k:Int)=some (plS (hs.getD k (0,0))):=bA (by rw[zAH,gt k hk'];rfl)
   have B1:SB (bC hs k):=gm _ m1
   have B0:=gm k hk'
   have o1:Bd 200 1:=by unfold Bd;decide
   walk_at "rx"
   refine⟨_,at1,_,at0,?_⟩
   rw[dZ,dZ]
   show iG κ [T3 1 (bC hs k).1 (bC hs k).2,T3 1 (hs.getD k (0,0)).1 (hs.getD k (0,0)).2] _ _
   rw[ik]
   exact⟨o1,B1.x.mono (by decide),B1.y.mono (by decide),o1,B0.x.mono (by decide),B0.y.mono (by decide),hK⟩
  ·rw[zA8.mpr (fun _ _=>rfl)]
   rw[zAo]at h
   exact h
theorem xO {f:Addr} {fd:FuncData} (F:aB K "length" "length" m9 f fd) (C:COk K mg κ)   (z_abs:mg "abs" = none):aS P w K mg base (CX1 P w) 1 f fd ["way"] (aT K (jr κ)):=by
 refine aB.okN F yn (fun ds Q E h=>by obtain⟨_,rfl,_⟩:=h;rfl) fun cdv A outer s H E hr=>⟨_,(av (aA (ak aK (aJ kS (by rfl) z_abs boot_abs (aa (ao (dv 0) ae) ai)) (aJ kS (by rfl) z_abs boot_abs (aa (ao (dv 0) ae) ai))))),?_⟩
 rintro ds Q Ed ⟨w,rfl,h⟩
 have e0:aF ["way"] [spD w]=([some (.val (spD w))]:Ro):=rfl
 rw[e0];clear e0
 unfold spD
 walk_at "rd"
 exact h
theorem n5 {f:Addr} {fd:FuncData} (F:aB K "are_opposite" "are_opposite" gh f fd) (C:COk K mg κ)  (h_turn:Has P w K mg base "turn" 1 ["one", "other"] (mr κ))  : aS P w K mg base (CX1 P w) 2 f fd ["one", "other"] (aT K (fO κ)):=by
 refine aB.okN F ot (fun ds Q E h=>by obtain⟨_,_,rfl,_⟩:=h;rfl) fun cdv A outer s H E hr=>⟨_,(av (aA (jK (fF cf (aw h_turn (hr.mono (by decide)) (aa (dv 0) (aa (dv 1) ai))) ae) (nM (fF fH (ak aK (ak aD (ao (dv 0) ae) (ao (dv 1) ae)) (ak aD (ao (dv 0) ae) (ao (dv 1) ae))) ae))))),?_⟩
 rintro ds Q Ed ⟨a,b,rfl,h⟩
 have e0:aF ["one", "other"] [spD a,spD b]=([some (.val (spD a)),some (.val (spD b))]:Ro):=rfl
 rw[e0];clear e0
 obtain⟨ha,hb,h⟩:=h
 walk_at "rx"
 refine⟨ha,hb,?_⟩
 by_cases c:tn a b=0
 ·rw[if_pos c]
  unfold spD
  walk_at "rd"
  refine⟨cmB ha.x hb.x,cmB ha.y hb.y,?_⟩
  have e:decide (tn a b=0/\dt2 a b<0)=decide (a.1*b.1+a.2*b.2<0):=by
   rw[decide_eq_decide]
   exact⟨fun q=>q.2,fun q=>⟨c,q⟩⟩
  rw[e]at h
  exact h
 ·rw[if_neg c]
  rw[decide_eq_false (fun q=>c q.1)]at h
  exact h
theorem mw {f:Addr} {fd:FuncData} (F:aB K "balance_of_two" "balance_of_two" fh f fd) (C:COk K mg κ)  (h_are_opposite:Has P w K mg base "are_opposite" 2 ["one", "other"] (fO κ)) (h_length:Has P w K mg base "length" 1 ["way"] (jr κ)) (h_lowest:Has P w K mg base "lowest" 2 ["numbers"] (fB κ))  : aS P w K mg base (CX1 P w) 3 f fd ["one", "other"] (aT K (eN κ)):=by
 refine aB.okN F mB (fun ds Q E h=>by obtain⟨_,_,rfl,_⟩:=h;rfl) fun cdv A outer s H E hr=>⟨_,(aq (bf (cB (cc (aw h_are_opposite (hr.mono (by decide)) (aa (dv 0) (aa (dv 1) ai))))) (av (aA nL)) aR) (av (aA (aw h_lowest (hr.mono (by decide)) (aa (cG (aa (aw h_length (hr.mono (by decide)) (aa (dv 1) ai)) (aa (aw h_length (hr.mono (by decide)) (aa (dv 0) ai)) ai))) ai))))),?_⟩
 rintro ds Q Ed ⟨a,b,rfl,h⟩
 have e0:aF ["one", "other"] [spD a,spD b]=([some (.val (spD a)),some (.val (spD b))]:Ro):=rfl
 rw[e0];clear e0
 obtain⟨ha,hb,h⟩:=h
 walk_at "rx"
 refine⟨ha,hb,?_⟩
 unfold iU at h
 split
 ·rename_i c
  rw[if_pos c]at h
  have na:a≠(0,0):=fun e=>by have:=c.2;rw[e]at this;unfold dt2 at this;simp at this
  have la:=iZ na
  have ba:Bd 402 (bj a):=me ha
  have bb:Bd 402 (bj b):=me hb
  refine⟨sz2 _ _,?_⟩
  show fB κ [D.lst false ([bj b,bj a].map D.int)] _ _
  rw[fT]
  have g:=Bj (d:=bj b) (x:=bj a) (by omega)
  exact⟨by simp,by show((Int.gcd ((Int.gcd 0 (bj b):Nat):Int) (bj a):Nat):Int)≠0;omega,zt ba (by omega),h⟩
 ·rename_i c
  rw[if_neg c]at h
  exact h
theorem kP {f:Addr} {fd:FuncData} (F:aB K "balance_of_three" "balance_of_three" cJ f fd) (C:COk K mg κ)  (h_lowest:Has P w K mg base "lowest" 2 ["numbers"] (fB κ)) (h_turn:Has P w K mg base "turn" 1 ["one", "other"] (mr κ)) (z_max:mg "max" = none) (z_min:mg "min" = none):aS P w K mg base (CX1 P w) 3 f fd ["one", "two", "three"] (aT K (dD κ)):=by
 refine aB.okN F dA (fun ds Q E h=>by obtain⟨_,_,_,rfl,_⟩:=h;rfl) fun cdv A outer s H E hr=>⟨_,(aq (aI 3 dA.nd (cG (aa (aw h_turn (hr.mono (by decide)) (aa (dv 1) (aa (dv 2) ai))) (aa (aw h_turn (hr.mono (by decide)) (aa (dv 2) (aa (dv 0) ai))) (aa (aw h_turn (hr.mono (by decide)) (aa (dv 0) (aa (dv 1) ai))) ai))))) (aq (bf (aP fH (aJ (AZ rfl) (by rfl) z_max boot_max (aa (dv 3) ai)) ae) (av (j6 3 dA.nd (by rfl) (by exact bW (osc:=au cJ) (xs:=["each"]) (ns:=[]) (by decide +kernel)) bG.nil (bO (dv 3)) (fun _ _ _ _ _=>di) (fun _ _ _ _ _=>(cz (dv 0))))) aR) (aq (bf (aP AI (aJ (A0 rfl) (by rfl) z_min boot_min (aa (dv 3) ai)) ae) (av (aA nL)) aR) (av (aA (aw h_lowest (hr.mono (by decide)) (aa (dv 3) ai))))))),?_⟩
 rintro ds Q Ed ⟨a,b,e,rfl,h⟩
 have e0:aF ["one", "two", "three", "turns"] [spD a,spD b,spD e]=([some (.val (spD a)),some (.val (spD b)),some (.val (spD e)),none]:Ro):=rfl
 rw[e0];clear e0
 obtain⟨ha,hb,he,h⟩:=h
 have b1:Bd 801 (tn b e):=(hb.x.mul he.y).sub (he.x.mul hb.y)
 have b2:Bd 801 (tn e a):=(he.x.mul ha.y).sub (ha.x.mul he.y)
 have b3:Bd 801 (tn a b):=(ha.x.mul hb.y).sub (hb.x.mul ha.y)
 unfold iV at h
 generalize e1:tn b e=x at *
 generalize e2:tn e a=y at *
 generalize e3:tn a b=z at *
 have low:∀u v w:Int,Bd 801 w->0<w->Q (.lst true ((cM [u,v,w]).map D.int))->fB κ [D.lst false ([u,v,w].map D.int)] Q fun _=>False:=fun u v w bw pw q=>by
  rw[fT]
  have hne:w≠0:=by omega
  have gp:0<Int.gcd ((Int.gcd ((Int.gcd 0 u:Nat):Int) v:Nat):Int) w:=Int.gcd_pos_iff.mpr (.inr hne)
  exact⟨by simp,by show((Int.gcd ((Int.gcd ((Int.gcd 0 u:Nat):Int) v:Nat):Int) w:Nat):Int)≠0;omega,(xq bw hne).mono (by decide),q⟩
 walk_at "rx"
 refine⟨hb,he,he,ha,ha,hb,?_⟩
 rw[e1,e2,e3]
 refine⟨sz3 _ _ _,.inr ⟨true,[x,y,z],rfl,by simp,fun m hm hmx=>?_⟩⟩
 have m1:=hmx x (by simp)
 have m2:=hmx y (by simp)
 have m3:=hmx z (by simp)
 have mm:m=x∨m=y∨m=z:=by simpa using hm
 split
 ·rename_i c
  refine PD.comp_map [x,y,z] D.int (fun _=>true) (fun k=>.int (-k)) (fun R q=>?_) (by rw[sizeLine_eq];simp) (fun k hk K hK=>?_) (fun k hk _ K hK=>?_) ?_
  ·walk_at "rd"
   exact q
  ·walk_at "rd"
   exact hK
  ·walk_at "rd"
   exact hK
  ·refine⟨true,[-x,-y,-z],rfl,by simp,fun n hn hmn=>?_⟩
   have nn:n=-x∨n=-y∨n=-z:=by simpa using hn
   rw[if_neg (by omega)]at h ⊢
   rw[if_pos (by omega)]at h
   exact low _ _ _ (iW b3) (by omega) h
 ·rename_i c
  refine⟨true,[x,y,z],rfl,by simp,fun n hn hmn=>?_⟩
  have nn:n=x∨n=y∨n=z:=by simpa using hn
  have n1:=hmn x (by simp)
  have n2:=hmn y (by simp)
  have n3:=hmn z (by simp)
  split
  ·rename_i d
   rw[if_neg (by omega),if_neg (by omega)]at h
   exact h
  ·rename_i d
   rw[if_pos (by omega)]at h
   exact low _ _ _ b3 (by omega) h
theorem wj {f:Addr} {fd:FuncData} (F:aB K "balance" "balance" lD f fd) (C:COk K mg κ)  (h_balance_of_three:Has P w K mg base "balance_of_three" 3 ["one", "two", "three"] (dD κ)) (h_balance_of_two:Has P w K mg base "balance_of_two" 3 ["one", "other"] (eN κ)) (h_length:Has P w K mg base "length" 1 ["way"] (jr κ)) (z_len:mg "len" = none):aS P w K mg base (CX1 P w) 4 f fd ["ways"] (aT K (kC κ)):=by
 refine aB.okN F wC (fun ds Q E h=>by obtain⟨_,rfl,_⟩:=h;rfl) fun cdv A outer s H E hr=>⟨_,(aq (bf (aP cf (aJ bo (by rfl) z_len boot_len (aa (dv 0) ai)) ae) (av (aA (mQ (aP cf (aw h_length (hr.mono (by decide)) (aa (ao (dv 0) ae) ai)) ae) (cG (aa ae ai)) nL))) aR) (aq (bf (aP cf (aJ bo (by rfl) z_len boot_len (aa (dv 0) ai)) ae) (av (aA (aw h_balance_of_two (hr.mono (by decide)) (aa (ao (dv 0) ae) (aa (ao (dv 0) ae) ai))))) aR) (av (aA (aw h_balance_of_three (hr.mono (by decide)) (aa (ao (dv 0) ae) (aa (ao (dv 0) ae) (aa (ao (dv 0) ae) ai)))))))),?_⟩
 rintro ds Q Ed ⟨ws,rfl,h⟩
 have e0:aF ["ways"] [.lst false (ws.map spD)]=([some (.val (.lst false (ws.map spD)))]:Ro):=rfl
 rw[e0];clear e0
 obtain⟨h0,h3,hw,h⟩:=h
 rcases ws with _|⟨a,_|⟨b,_|⟨e,_|⟨z,r⟩⟩⟩⟩
 ·simp at h0
 ·have h':Q (oL (jX a)):=h
  unfold jX at h'
  walk_at "rx"
  rw[if_pos (by simp)]
  by_cases c:bj a=0
  ·rw[if_pos c]at h' ⊢
   exact⟨sz1 _,h'⟩
  ·rw[if_neg c]at h' ⊢
   exact h'
 ·have h':Q (oL (iU a b)):=h
  have a0:atI [spD a,spD b] 0=some (spD a):=bA (j:=0) rfl
  have a1:atI [spD a,spD b] 1=some (spD b):=bA (j:=1) rfl
  walk_at "rx"
  rw[if_neg (by simp),if_pos (by simp)]
  exact⟨hw a (by simp),hw b (by simp),h'⟩
 ·have h':Q (oL (iV a b e)):=h
  walk_at "rx"
  rw[if_neg (by simp),if_neg (by simp)]
  exact⟨hw a (by simp),hw b (by simp),hw e (by simp),h'⟩
 ·simp at h3
  omega
theorem wu {f:Addr} {fd:FuncData} (F:aB K "mixture" "mixture" gS f fd) (C:COk K mg κ)  (h_arrow:Has P w K mg base "arrow" 1 ["one", "other"] (gw κ)) (h_balance:Has P w K mg base "balance" 4 ["ways"] (kC κ)) (h_picks:Has P w K mg base "picks" 1 ["count", "size"] (nr κ)) (h_place_of:Has P w K mg base "place_of" 1 ["spot"] (gK κ)) (z_len:mg "len" = none):aS P w K mg base (CX1 P w) 5 f fd ["spots", "place"] (aT K (iJ κ)):=by
 refine aB.okN F fN (fun ds Q E h=>by obtain⟨_,_,_,_,rfl,_⟩:=h;rfl) fun cdv A outer s H E hr=>⟨_,(aq (bf (aP cf (aJ bo (by rfl) z_len boot_len (aa (dv 0) ai)) ae) (av j5) aR) (aq (aI 2 fN.nd (eA (by rfl) (by exact bW (osc:=au gS) (xs:=["spot"]) (ns:=["place"]) (by decide +kernel)) (bG.cons 1 bG.nil) (bO (dv 0)) (fun _ _ _ _ _=>di) (fun _ _ _ _ _=>(aw h_arrow (hr.mono (by decide)) (aa (dv 1) (aa (aw h_place_of (hr.mono (by decide)) (aa (dv 0) ai)) ai)))))) (aq (cA PassesOwn.never rfl (C5 (bq (aa ae (aa ae (aa ae ai))))) (br 3 fN.nd) (av (cA PassesOwn.never rfl (bO (aw h_picks (hr.mono (by decide)) (aa (aJ bo (by rfl) z_len boot_len (aa (dv 0) ai)) (aa (dv 3) ai)))) (br 4 fN.nd) (aq (aI 5 fN.nd (aw h_balance (hr.mono (by decide)) (aa (eA (by rfl) (by exact bW (osc:=au gS) (xs:=["number"]) (ns:=["ways"]) (by decide +kernel)) (bG.cons 2 bG.nil) (bO (dv 4)) (fun _ _ _ _ _=>di) (fun _ _ _ _ _=>(ao (dv 1) (dv 0)))) ai))) (av (bf (aP Bw (dv 5) nL) (av (aA (bq (aa rT (aa (dv 4) (aa (dv 5) ai)))))) aR)))))) (av j5)))),?_⟩
 rintro ds Q Ed ⟨ps,h0,h1,h2,rfl,h⟩
 have e0:aF ["spots", "place", "ways", "size", "numbers", "shares"] [.lst false (ps.map spD),T3 h0 h1 h2]=([some (.val (.lst false (ps.map spD))),some (.val (T3 h0 h1 h2)),none,none,none,none]:Ro):=rfl
 rw[e0];clear e0
 obtain⟨hz,hl,hb,hP,res,hres,h⟩:=h
 have o1:Bd 200 1:=by unfold Bd;decide
 have hmx:bV (ps.map (arS (h0,h1,h2))) (cF ps.length)=bV (ps.map (arS (h0,h1,h2))) (pH ps.length 0):=by rw[Ad]
 have wB:∀w∈ps.map (arS (h0,h1,h2)),WB 400 w:=fun w hw=>by
  obtain⟨p,hp,rfl⟩:=zAQ.mp hw
  have B:=hb p hp
  refine⟨?_,?_⟩
  ·show Bd 400 (h0*p.1 - 1*h1);rw[zA9];exact Bd.mono (m:=161) ((hP.b.mul B.x).sub hP.x) (by decide)
  ·show Bd 400 (h0*p.2 - 1*h2);rw[zA9];exact Bd.mono (m:=161) ((hP.b.mul B.y).sub hP.y) (by decide)
 walk_at "rx"
 rw[zAA,if_neg (by omega)]
 refine PD.comp_map ps spD (fun _=>true) (fun p=>spD (arS (h0,h1,h2) p)) (fun R q=>?_) (by rw[sizeLine_eq];omega) (fun p hp K hK=>?_) (fun p hp _ K hK=>?_) ?_
 ·walk_at "rd"
  exact q
 ·walk_at "rd"
  exact hK
 ·have B:=hb p hp
  walk_at "rx"
  refine⟨p,rfl,?_⟩
  show gw κ [T3 h0 h1 h2,T3 1 p.1 p.2] _ _
  rw[gI]
  exact⟨hP.b.mono (by decide),hP.x.mono (by decide),hP.y.mono (by decide),o1,B.x.mono (by decide),B.y.mono (by decide),hK⟩
 rw[zA8.mpr (fun _ _=>rfl)]
 have em:ps.map (fun p=>spD (arS (h0,h1,h2) p))=(ps.map (arS (h0,h1,h2))).map spD:=by rw[zAo];rfl
 rw[em]
 have wl:(ps.map (arS (h0,h1,h2))).length=ps.length:=zAA _
 generalize ps.map (arS (h0,h1,h2))=ws at *
 refine PD.bZ [1,2,3] (fun(k:Nat)=>D.int (k:Int)) (fun j ρ=>∃v3 v4 v5:Option Sl,ρ=[some (.val (.lst false (ps.map spD))),some (.val (T3 h0 h1 h2)),some (.val (.lst true (ws.map spD))),v3,v4,v5]/\bV ws (cF ps.length)=bV ws (pH ps.length j)) (fun R q=>?_) ⟨none,none,none,rfl,hmx⟩ ?_ ?_
 ·walk_at "rd"
  exact⟨sz3 _ _ _,q⟩
 ·rintro j s ρ' hj ⟨v3,v4,v5,rfl,hm⟩
  have hj3:j<3/\s=j+1:=by
   rcases j with _|_|_|j
   ·simp at hj;omega
   ·simp at hj;omega
   ·simp at hj;omega
   ·simp at hj
  obtain⟨hj3,rfl⟩:=hj3
  rw[yb _ hj3]at hm
  walk_at "rx"
  refine PD.bZ (lev ps.length (j+1)) pkD (fun i ρ=>∃v4 v5:Option Sl,ρ=[some (.val (.lst false (ps.map spD))),some (.val (T3 h0 h1 h2)),some (.val (.lst true (ws.map spD))),some (.val (.int ((j+1:Nat):Int))),v4,v5]/\bV ws (cF ps.length)=bV ws ((lev ps.length (j+1)).drop i++pH ps.length (j+1))) (fun R q=>?_) ⟨v4,v5,rfl,hm⟩ ?_ ?_
  ·walk_at "rx"
   exact⟨ps.length,j+1,by rw[zAA],rfl,by omega,by omega,q⟩
  ·rintro i pk ρ' hi ⟨v4,v5,rfl,hm⟩
   obtain⟨hi',ei⟩:=zAE.mp hi
   rw[zBQ hi',ei,zAe,xE]at hm
   obtain⟨pl,pb⟩:=mf (zAT hi)
   have gt:∀k,k<ws.length->ws[k]?=some (ws.getD k (0,0)):=fun k hk=>by
    rw[zAG,zAB hk];rfl
   walk_at "rx"
   refine PD.comp_map pk (fun(k:Nat)=>D.int (k:Int)) (fun _=>true) (fun k=>spD (ws.getD k (0,0))) (fun R q=>?_) (by rw[sizeLine_eq];omega) (fun k hk K hK=>?_) (fun k hk _ K hK=>?_) ?_
   ·unfold pkD
    walk_at "rd"
    exact q
   ·walk_at "rd"
    exact hK
   ·walk_at "rd"
    exact⟨_,bA (by rw[zAH,gt k (by have:=pb k hk;omega)];rfl),hK⟩
   rw[zA8.mpr (fun _ _=>rfl)]
   have ep:pk.map (fun k=>spD (ws.getD k (0,0)))=(pkW ws pk).map spD:=by unfold pkW;rw[zAo];rfl
   have lp:(pkW ws pk).length=j+1:=by unfold pkW;rw[zAA,pl]
   rw[ep,bP,fY,ig]
   refine⟨by omega,by omega,fun w hw=>?_,?_⟩
   ·unfold pkW at hw
    obtain⟨k,hk,rfl⟩:=zAQ.mp hw
    exact wB _ (zAT (gt k (by have:=pb k hk;omega)))
   ·cases hb2:hW (pkW ws pk)with
    |none =>
     rw[hb2]at hm
     rw[if_neg (show¬jh (oL none)=false by decide)]
     exact⟨_,_,rfl,hm⟩
    |some sh =>
     rw[hb2]at hm
     have hm':bV ws (cF ps.length)=some (pk,sh):=hm
     rw[hres]at hm'
     cases hm'
     rw[if_pos (show jh (oL (some sh))=false from rfl)]
     exact⟨sz3 _ _ _,h⟩
  ·rintro ρ' ⟨v4,v5,rfl,hm⟩
   rw[List.drop_length,zAv]at hm
   exact⟨_,_,_,rfl,hm⟩
 ·rintro ρ' ⟨v3,v4,v5,rfl,hm⟩
  have hm':bV ws (cF ps.length)=none:=hm
  rw[hres]at hm'
  cases hm'
theorem mV {f:Addr} {fd:FuncData} (F:aB K "place_between" "place_between" fL f fd) (C:COk K mg κ)  (h_place:Has P w K mg base "place" 3 ["by", "x", "y"] (nu κ)) (h_value:Has P w K mg base "value" 1 ["gauge", "place"] (kH κ))  : aS P w K mg base (CX1 P w) 4 f fd ["one", "other", "gauge"] (aT K (c8 κ)):=by
 refine aB.okN F fq (fun ds Q E h=>by obtain⟨_,_,_,_,_,_,_,_,_,rfl,_⟩:=h;rfl) fun cdv A outer s H E hr=>⟨_,(aq (aI 3 fq.nd (aw h_value (hr.mono (by decide)) (aa (dv 2) (aa (dv 0) ai)))) (aq (aI 4 fq.nd (aw h_value (hr.mono (by decide)) (aa (dv 2) (aa (dv 1) ai)))) (av (aA (aw h_place (hr.mono (by decide)) (aa (ak aY (ak aD (dv 4) (ao (dv 0) ae)) (ak aD (dv 3) (ao (dv 1) ae))) (aa (ak aY (ak aD (dv 4) (ao (dv 0) ae)) (ak aD (dv 3) (ao (dv 1) ae))) (aa (ak aY (ak aD (dv 4) (ao (dv 0) ae)) (ak aD (dv 3) (ao (dv 1) ae))) ai)))))))),?_⟩
 rintro ds Q Ed ⟨a0,a1,a2,b0,b1,b2,g0,g1,g2,rfl,h⟩
 have e0:aF ["one", "other", "gauge", "here", "there"] [T3 a0 a1 a2,T3 b0 b1 b2,T3 g0 g1 g2]=([some (.val (T3 a0 a1 a2)),some (.val (T3 b0 b1 b2)),some (.val (T3 g0 g1 g2)),none,none]:Ro):=rfl
 rw[e0];clear e0
 obtain⟨a0',a1',a2',b0',b1',b2',g0',g1',g2',hw,h⟩:=h
 have m:∀{x:Int},Bd 200 x->Bd 1000 x:=fun h=>h.mono (by decide)
 have hv:Bd 402 (g0*a0+g1*a1+g2*a2):=((g0'.mul a0').add (g1'.mul a1')).add ((g2'.mul a2').mono (by decide))
 have ht:Bd 402 (g0*b0+g1*b1+g2*b2):=((g0'.mul b0').add (g1'.mul b1')).add ((g2'.mul b2').mono (by decide))
 walk_at "rd"
 refine⟨m g0',m g1',m g2',m a0',m a1',m a2',m g0',m g1',m g2',m b0',m b1',m b2',cmB ht a0',cmB hv b0',cmB ht a1',cmB hv b1',cmB ht a2',cmB hv b2',hw,?_,?_,?_,?_⟩
 ·exact((ht.mul a0').sub (hv.mul b0')).mono (by decide)
 ·exact((ht.mul a1').sub (hv.mul b1')).mono (by decide)
 ·exact((ht.mul a2').sub (hv.mul b2')).mono (by decide)
 ·exact h
theorem wk {f : Addr} {fd : FuncData} (F : aB K "clipped" "clipped" jj f fd) (C : COk K mg κ)  (h_place_between : Has P w K mg base "place_between" 4 ["one", "other", "gauge"] (c8 κ)) (h_side : Has P w K mg base "side" 2 ["gauge", "place"] (gB κ)) (z_len : mg "len" = none) (z_range : mg "range" = none) : aS P w K mg base (CX1 P w) 5 f fd ["corners", "gauge"] (aT K (iF κ)) := by
  refine aB.okN F fM (fun ds Q E h => by obtain ⟨_, _, _, _, rfl, _⟩ := h; rfl) fun cdv A outer s H E hr => ⟨_, (aq (jL 2 fM.nd ai) (aq (cA PassesOwn.never rfl (dR (by rfl) z_range (aa (aJ bo (by rfl) z_len boot_len (aa (dv 0) ai)) ai)) (br 3 fM.nd) (aq (aI 4 fM.nd (ao (dv 0) (ak aY (dv 3) ae))) (aq (aI 5 fM.nd (ao (dv 0) (dv 3))) (aq (bf (aP fH (ak aD (aw h_side (hr.mono (by decide)) (aa (dv 1) (aa (dv 4) ai))) (aw h_side (hr.mono (by decide)) (aa (dv 1) (aa (dv 5) ai)))) ae) (av (fv 2 (aw h_place_between (hr.mono (by decide)) (aa (dv 4) (aa (dv 5) (aa (dv 1) ai)))))) aR) (av (bf (aP we (aw h_side (hr.mono (by decide)) (aa (dv 1) (aa (dv 5) ai))) ae) (av (fv 2 (dv 5))) aR)))))) (cX 2 (av (aA (eA (by rfl) (by exact bW (osc := au jj) (xs := ["index"]) (ns := ["kept"]) (by decide +kernel)) (bG.cons 2 bG.nil) (dR (by rfl) z_range (aa (aJ bo (by rfl) z_len boot_len (aa (dv 2) ai)) ai)) (fun _ _ _ _ _ => (yv (aP (zL (by exact hr.units)) (ao (dv 1) (dv 0)) ((eZ (dv 1) cE (eE (dv 0)))).ped))) (fun _ _ _ _ _ => (ao (dv 1) (dv 0))))))))), ?_⟩
  rintro ds Q Ed ⟨cs, g0, g1, g2, rfl, h⟩
  have e0 : aF ["corners", "gauge", "kept", "index", "one", "other"] [.lst false (cs.map trD), T3 g0 g1 g2] = ([some (.val (.lst false (cs.map trD))), some (.val (T3 g0 g1 g2)), none, none, none, none] : Ro) := rfl
  rw [e0]; clear e0
  obtain ⟨hl, hc, g0', g1', g2', h⟩ := h
  have m : ∀ {x : Int}, Bd 200 x -> Bd 1000 x := fun h => h.mono (by decide)
  have cb : ∀ p ∈ cs, Bd 200 p.1 /\ Bd 200 p.2.1 /\ Bd 200 p.2.2 := fun p hp => ⟨(hc p hp).2.b.mono (by decide), (hc p hp).2.x.mono (by decide), (hc p hp).2.y.mono (by decide)⟩
  have at_ : ∀ {zs : List Tr} {k : Nat} {p : Tr}, zs[k]? = some p -> atI (zs.map trD) (k : Int) = some (trD p) := fun {zs k p} hp => bA (by rw [zAH, hp]; rfl)
  walk_at "rx"
  refine ⟨zAk _, ?_⟩
  refine PD.bZ (List.range' 0 cs.length) (fun (k : Nat) => D.int (k : Int)) (fun j ρ => ∃ v3 v4 v5 : Option Sl, ρ = [some (.val (.lst false (cs.map trD))), some (.val (T3 g0 g1 g2)), some (.own ((aE (g0, g1, g2) (cw (g0, g1, g2)) (cs.getLastD (0, 0, 0)) (cs.take j)).map trD)), v3, v4, v5]) (fun R q => ?_) ⟨none, none, none, rfl⟩ ?_ ?_
  · walk_at "rd"
    rw [zAA, pI]
    exact ⟨⟨by omega, by omega⟩, q⟩
  · rintro j k ρ' hj ⟨v3, v4, v5, rfl⟩
    obtain ⟨hj', ek⟩ := zAE.mp hj
    rw [zAj] at hj'
    rw [zBn, zA6, zCp] at ek
    subst ek
    have hcj : cs[j]? = some cs[j] := zAB hj'
    have eP : atI (cs.map trD) ((j : Int) - 1) = some (trD ((cs.take j).getLastD (cs.getLastD (0, 0, 0)))) := by
      have := rz (cs.map trD) j 1 (by rw [zAA]; exact hj') (by rw [zAA]; omega)
      rw [show ((j : Int) - 1) = ((j : Int) - ((1 : Nat) : Int)) from rfl, this, zAA, zAH]
      have e2 : cs[(j + cs.length - 1) % cs.length]? = some ((cs.take j).getLastD (cs.getLastD (0, 0, 0))) := by
        cases j with
        | zero =>
          have : (0 + cs.length - 1) % cs.length = cs.length - 1 := by rw [zA6]; exact zAg (by omega)
          rw [this, List.take_zero, List.getLastD_nil, <- zCs, zBy]
          cases hq : cs.getLast? with
          | none => rw [zBx] at hq; rw [hq] at hj'; exact absurd hj' (by simp)
          | some z => rfl
        | succ j =>
          have : (j + 1 + cs.length - 1) % cs.length = j := by
            rw [show j + 1 + cs.length - 1 = j + cs.length by omega, zCH]
            exact zAg (by omega)
          rw [this, zBy, List.getLast?_take]
          simp
          rw [zAB (by omega)]
          rfl
      rw [e2]
      rfl
    have hP : (cs.take j).getLastD (cs.getLastD (0, 0, 0)) ∈ cs := by
      rw [zBy]
      cases hq : (cs.take j).getLast? with
      | some z => exact (zCc j cs).subset (List.mem_of_getLast? hq)
      | none =>
        rw [Option.getD_none, zBy]
        cases hr : cs.getLast? with
        | some z => exact List.mem_of_getLast? hr
        | none => rw [zBx] at hr; rw [hr] at hj'; exact absurd hj' (by simp)
    have wl := nC (g0, g1, g2) (cw (g0, g1, g2)) (cs.take j) (cs.getLastD (0, 0, 0))
    have tl : (cs.take j).length <= cs.length := by rw [zBF]; omega
    have ws := yB (g0, g1, g2) (cw (g0, g1, g2)) (cs.getLastD (0, 0, 0)) (cs.take j) cs[j]
    rw [show cs.take j ++ [cs[j]] = cs.take (j + 1) by rw [zBv, hcj]; rfl] at ws
    generalize (cs.take j).getLastD (cs.getLastD (0, 0, 0)) = p at eP hP ws
    have hQ : cs[j] ∈ cs := zBL _
    generalize hcc : cs[j] = c at hcj hQ ws
    generalize aE (g0, g1, g2) (cw (g0, g1, g2)) (cs.getLastD (0, 0, 0)) (cs.take j) = K at wl ws ⊢
    obtain ⟨p1, p2, p3⟩ := cb p hP
    obtain ⟨c1, c2, c3⟩ := cb c hQ
    have kl : K.length <= 600000 := by omega
    have fin : ∀ (K2 : List Tr) (d1 d2 : D), K2.length <= 600001 -> aE (g0, g1, g2) (cw (g0, g1, g2)) (cs.getLastD (0, 0, 0)) (cs.take (j + 1)) = K2 ++ (if 0 <= gvS (g0, g1, g2) c then [c] else []) -> gB κ [T3 g0 g1 g2, trD c] (fun x => h8 (fun i j => D.bl (decide (j <= i))) x (D.int 0) fun x => ∃ k, x = D.bl k /\ if k = true then (K2.map trD).length < sizeLine /\ ∃ v3 v4 v5 : Option Sl, ([some (.val (.lst false (cs.map trD))), some (.val (T3 g0 g1 g2)), some (.own (K2.map trD ++ [trD c])), some (.val (.int j)), some (.val d1), some (.val d2)] : Ro) = [some (.val (.lst false (cs.map trD))), some (.val (T3 g0 g1 g2)), some (.own ((aE (g0, g1, g2) (cw (g0, g1, g2)) (cs.getLastD (0, 0, 0)) (cs.take (j + 1))).map trD)), v3, v4, v5] else ∃ v3 v4 v5 : Option Sl, ([some (.val (.lst false (cs.map trD))), some (.val (T3 g0 g1 g2)), some (.own (K2.map trD)), some (.val (.int j)), some (.val d1), some (.val d2)] : Ro) = [some (.val (.lst false (cs.map trD))), some (.val (T3 g0 g1 g2)), some (.own ((aE (g0, g1, g2) (cw (g0, g1, g2)) (cs.getLastD (0, 0, 0)) (cs.take (j + 1))).map trD)), v3, v4, v5]) fun _ => False := fun K2 d1 d2 kl e => by
      show gB κ [T3 g0 g1 g2, T3 c.1 c.2.1 c.2.2] _ _
      rw [fV, e]
      refine ⟨m g0', m g1', m g2', m c1, m c2, m c3, ?_⟩
      rw [dS]
      refine ⟨_, rfl, ?_⟩
      have es : (0 <= sg (g0 * c.1 + g1 * c.2.1 + g2 * c.2.2)) ↔ 0 <= gvS (g0, g1, g2) c := DK _
      by_cases q : 0 <= gvS (g0, g1, g2) c
      · rw [if_pos q, if_pos (decide_eq_true (es.mpr q))]
        exact ⟨by rw [zAA, sizeLine_eq]; omega, _, _, _, by rw [zA0]; rfl⟩
      · rw [if_neg q, if_neg (by rw [decide_eq_true_eq]; exact fun z => q (es.mp z)), zA5]
        exact ⟨_, _, _, rfl⟩
    walk_at "rx"
    refine ⟨_, eP, _, at_ hcj, ?_⟩
    rw [d5, d5]
    show gB κ [T3 g0 g1 g2, T3 p.1 p.2.1 p.2.2] _ _
    rw [fV]
    refine ⟨m g0', m g1', m g2', m p1, m p2, m p3, ?_⟩
    show gB κ [T3 g0 g1 g2, T3 c.1 c.2.1 c.2.2] _ _
    rw [fV]
    refine ⟨m g0', m g1', m g2', m c1, m c2, m c3, ?_⟩
    have es : (sg (g0 * p.1 + g1 * p.2.1 + g2 * p.2.2) * sg (g0 * c.1 + g1 * c.2.1 + g2 * c.2.2) < 0) ↔ gvS (g0, g1, g2) p * gvS (g0, g1, g2) c < 0 := DJ _ _
    have sb1 : ∀ x : Int, Bd 64 (sg x) := fun x => by unfold sg Bd; split; · decide
                                                      · split <;> decide
    rw [pG, dS]
    refine ⟨.inl (sb1 _), _, rfl, ?_⟩
    by_cases q : gvS (g0, g1, g2) p * gvS (g0, g1, g2) c < 0
    · rw [if_pos (decide_eq_true (es.mpr q))]
      rw [if_pos q] at ws
      show c8 κ [T3 p.1 p.2.1 p.2.2, T3 c.1 c.2.1 c.2.2, T3 g0 g1 g2] _ _
      rw [dE]
      refine ⟨p1, p2, p3, c1, c2, c3, g0', g1', g2', ?_, by rw [zAA, sizeLine_eq]; omega, ?_⟩
      · rcases tQ (hc p hP).1 (hc c hQ).1 q with ⟨_, _, z⟩ | ⟨_, _, z⟩ <;> exact fun e => by rw [e] at z; exact zBT _ z
      · have := fin (K ++ [cw (g0, g1, g2) p c]) (trD p) (trD c) (by simp; omega) (by rw [ws, zA7])
        rw [zA0] at this
        exact this
    · rw [if_neg (by rw [decide_eq_true_eq]; exact fun z => q (es.mp z))]
      rw [if_neg q, zAv] at ws
      exact fin K (trD p) (trD c) (by omega) ws
  · rintro ρ' ⟨v3, v4, v5, rfl⟩
    rw [zAj, zBs]
    have wl := nC (g0, g1, g2) (cw (g0, g1, g2)) cs (cs.getLastD (0, 0, 0))
    have ec : d9 (g0, g1, g2) cs = ddF [] (aE (g0, g1, g2) (cw (g0, g1, g2)) (cs.getLastD (0, 0, 0)) cs) := by
      unfold d9
      cases hq : cs.getLast? with
      | none =>
        rw [zBx] at hq
        subst hq
        rfl
      | some z => rw [zBy, hq]; rfl
    rw [ec] at h
    generalize aE (g0, g1, g2) (cw (g0, g1, g2)) (cs.getLastD (0, 0, 0)) cs = K at wl h ⊢
    have gt : ∀ k, k < K.length -> K[k]? = some (K.getD k (0, 0, 0)) := fun k hk => by
      rw [zAG, zAB hk]; rfl
    have ct : ∀ k, k <= K.length -> PD.cutD (K.map trD) none (some (k : Int)) = (K.take k).map trD := fun k hk => by
      unfold PD.cutD
      rw [HT.ko, HT.mn, zCy, Nat.sub_zero, zAA, zCt hk, List.map_take]
    have ea : ∀ (l : List Tr) (x : Tr), (l.map trD).any (fun z => eqD z (trD x)) = l.any fun y => decide (y = x) := fun l x => by
      rw [List.any_map]
      congr 1
      funext y
      exact CQ y x
    walk_at "rx"
    refine PD.comp_map (List.range' 0 K.length) (fun (k : Nat) => D.int (k : Int)) (fun k => !(K.take k).any fun y => decide (y = K.getD k (0, 0, 0))) (fun k => trD (K.getD k (0, 0, 0))) (fun R q => ?_) (by rw [zAj, sizeLine_eq]; omega) (fun k hk K' hK => ?_) (fun k hk _ K' hK => ?_) ?_
    · walk_at "rd"
      rw [zAA, pI]
      exact ⟨⟨by omega, by omega⟩, q⟩
    · have hk' : k < K.length := by rw [zBI] at hk; omega
      walk_at "rx"
      refine ⟨_, at_ (gt k hk'), ?_⟩
      rw [ct k (by omega)]
      refine ⟨?_, ?_⟩
      · exact (ml _).okI
      · exact ⟨(OkN.map ml).ok, _, .inr ⟨_, rfl⟩, _, rfl, by rw [ea]; exact hK⟩
    · have hk' : k < K.length := by rw [zBI] at hk; omega
      walk_at "rx"
      exact ⟨_, at_ (gt k hk'), hK⟩
    · have dr := rS (0, 0, 0) K []
      rw [List.length_nil, zAv] at dr
      rw [<- dr, zAo] at h
      exact h
theorem xM {f:Addr} {fd:FuncData} (F:aB K "common" "common" m7 f fd) (C:COk K mg κ)  (h_clipped:Has P w K mg base "clipped" 5 ["corners", "gauge"] (iF κ))  : aS P w K mg base (CX1 P w) 6 f fd ["corners", "gauges"] (aT K (lN κ)):=by
 refine aB.okN F lK (fun ds Q E h=>by obtain⟨_,_,rfl,_⟩:=h;rfl) fun cdv A outer s H E hr=>⟨_,(aq (cA PassesOwn.never rfl (bO (dv 1)) (br 2 lK.nd) (av (aI 0 lK.nd (aw h_clipped (hr.mono (by decide)) (aa (dv 0) (aa (dv 2) ai)))))) (av (aA (dv 0)))),?_⟩
 rintro ds Q Ed ⟨cs,gs,rfl,h⟩
 have e0:aF ["corners", "gauges", "gauge"] [.lst false (cs.map trD),.lst false (gs.map trD)]=([some (.val (.lst false (cs.map trD))),some (.val (.lst false (gs.map trD))),none]:Ro):=rfl
 rw[e0];clear e0
 obtain⟨h0,hg,hj,hb,h⟩:=h
 walk_at "rx"
 refine PD.bZ gs trD (fun j ρ=>∃(t:Bool) (v:Option Sl),(0<j->t=true)/\ρ=[some (.val (.lst t ((bK (gs.take j) cs).map trD))),some (.val (.lst false (gs.map trD))),v]) (fun R q=>?_) ⟨false,none,fun q=>absurd q (by omega),rfl⟩ ?_ ?_
 ·walk_at "rd"
  exact q
 ·rintro j g ρ' he ⟨t,v,ht,rfl⟩
  obtain⟨hlt,eg⟩:=zAE.mp he
  obtain⟨c1,c2⟩:=hj j hlt
  obtain⟨b1,b2,b3⟩:=hb g (zAT he)
  walk_at "rx"
  show iF κ [.lst false ((bK (gs.take j) cs).map trD),T3 g.1 g.2.1 g.2.2] _ _
  rw[ij]
  refine⟨c1,c2,b1,b2,b3,?_⟩
  have e:bK (gs.take (j+1)) cs=d9 g (bK (gs.take j) cs):=by
   unfold bK
   rw[zBv,he]
   simp[List.foldl_append]
  exact⟨true,_,fun _=>rfl,by rw[e]⟩
 ·rintro ρ' ⟨t,v,ht,rfl⟩
  rw[zBs,ht h0]
  walk_at "rx"
  exact h
theorem n8 {f:Addr} {fd:FuncData} (F:aB K "owned_gauges" "owned_gauges" eI f fd) (C:COk K mg κ)  (h_bounds:Has P w K mg base "bounds" 3 ["corners"] (lM κ)) (h_hull:Has P w K mg base "hull" 3 ["spots"] (iR κ)) (z_enumerate:mg "enumerate" = none):aS P w K mg base (CX1 P w) 4 f fd ["lists"] (aT K (fU κ)):=by
 refine aB.okN F dF (fun ds Q E h=>by obtain⟨_,rfl,_⟩:=h;rfl) fun cdv A outer s H E hr=>⟨_,(aq (jL 1 dF.nd ai) (aq (cA PassesOwn.never rfl (Bm (by rfl) z_enumerate (aa (dv 0) ai)) (nR (n:=2) rfl (dP (br 2 dF.nd) (dP (br 3 dF.nd) l9))) (av (qg 1 (eA (by rfl) (by exact bW (osc:=au eI) (xs:=["gauge"]) (ns:=["index"]) (by decide +kernel)) (bG.cons 2 bG.nil) (bO (aw h_bounds (hr.mono (by decide)) (aa (aw h_hull (hr.mono (by decide)) (aa (dv 3) ai)) ai))) (fun _ _ _ _ _=>di) (fun _ _ _ _ _=>(bq (aa (dv 1) (aa (dv 0) ai)))))))) (cX 1 (av (aA (dv 1)))))),?_⟩
 rintro ds Q Ed ⟨Ls,rfl,h⟩
 have e0:aF ["lists", "found", "index", "spots"] [.lst false (Ls.map aZ)]=([some (.val (.lst false (Ls.map aZ))),none,none,none]:Ro):=rfl
 rw[e0];clear e0
 obtain⟨L,h⟩:=h
 walk_at "rx"
 refine⟨zAk _,?_⟩
 refine PD.bZ (List.range' 0 Ls.length) (fun(k:Nat)=>D.tup [.int (k:Int),aZ (Ls.getD k [])]) (fun j ρ=>∃(yss:List (List Sp)) (v2 v3:Option Sl),bJ yss (Ls.take j)/\ρ=[some (.val (.lst false (Ls.map aZ))),some (.own ((aO 0 yss).map ogD)),v2,v3]) (fun R q=>?_) ⟨[],none,none,True.intro,rfl⟩ ?_ ?_
 ·walk_at "rd"
  refine⟨_,_,rfl,?_⟩
  rw[vU aZ []]
  exact q
 ·rintro j k ρ' hj ⟨yss,v2,v3,rk,rfl⟩
  obtain⟨hj',ek⟩:=zAE.mp hj
  rw[zAj]at hj'
  rw[zBn,zA6,zCp]at ek
  subst ek
  have hcj:Ls[j]?=some Ls[j]:=zAB hj'
  have eg:Ls.getD j []=Ls[j]:=by rw[zAG,hcj];rfl
  have pm:Ls[j]∈Ls:=zBL _
  rw[eg]
  generalize hps:Ls[j]=ps at hcj pm
  have yl:yss.length=j:=by rw[rk.len,zBF];omega
  have ol:(aO 0 yss).length<=64*yss.length:=lh _ 0 fun ys hys=>by
   obtain⟨qs,qm,r⟩:=rk.ex ys hys
   have qm':=(zCc j Ls).subset qm
   have:=(dQ r).len
   have:=L.le qs qm'
   have:=jY (aL ys)
   omega
  have l8:=L.l8
  walk_at "rx"
  refine xf (P:=fun gs:List Tr=>∃ys,cn ys ps/\gs=aU (aL ys)/\gs.length<1000) trD (fun _=>true) (fun g=>ogD ((j:Int),g)) (fun R hR=>?_) (fun gs hg=>by obtain⟨_,_,_,q⟩:=hg;rw[sizeLine_eq];omega) (fun gs hg g hm K hK=>?_) (fun gs hg g hm K hK=>?_) fun gs hg=>?_
  ·walk_at "rx"
   have hl:=L.le ps pm
   have hb:∀p∈ps,SB p:=fun p hp=>((L.bd ps pm p hp).mono (by decide)).sb
   show iR κ [.lst false (ps.map spD)] _ _
   rw[iH]
   refine⟨by omega,hb,fun ys hy hyl=>?_⟩
   have g:=dQ hy
   have hh:=g.len
   have sb:∀p∈aL ys,SB p:=fun p hp=>hb p (g.mem p hp)
   have l0:0<(aL ys).length:=by
    obtain⟨a,r,e,_⟩:=g.some_ (zBg (L.ne ps pm))
    rw[e];simp
   have bl:=jY (aL ys)
   rw[bP,iL,i8]
   exact⟨l0,by omega,sb,_,_,rfl,hR _ ⟨ys,hy,rfl,by omega⟩⟩
  ·walk_at "rx"
   exact hK
  ·walk_at "rx"
   exact⟨sz2 _ _,hK⟩
  ·obtain⟨ys,hy,rfl,hl⟩:=hg
   rw[zA8.mpr (fun _ _=>rfl)]
   refine⟨_,rfl,by rw[zAA,zAA,sizeLine_eq];omega,yss++[ys],some (.val (.int (j:Int))),some (.val (aZ ps)),?_,?_⟩
   ·rw[zBv,hcj]
    exact rk.snoc hy
   ·rw[n9,zA0,yl,zA6,zAo]
    rfl
 ·rintro ρ' ⟨yss,v2,v3,rk,rfl⟩
  rw[zAj,zBs]at rk
  walk_at "rx"
  exact h yss rk
theorem qM {f:Addr} {fd:FuncData} (F:aB K "hulls_meet" "hulls_meet" dU f fd) (C:COk K mg κ)  (h_common:Has P w K mg base "common" 6 ["corners", "gauges"] (lN κ)) (h_hull:Has P w K mg base "hull" 3 ["spots"] (iR κ)) (h_mixture:Has P w K mg base "mixture" 5 ["spots", "place"] (iJ κ)) (h_owned_gauges:Has P w K mg base "owned_gauges" 4 ["lists"] (fU κ)) (z_len:mg "len" = none):aS P w K mg base (CX1 P w) 7 f fd ["lists"] (aT K (ip κ)):=by
 refine aB.okN F de (fun ds Q E h=>by obtain⟨_,rfl,_⟩:=h;rfl) fun cdv A outer s H E hr=>⟨_,(aq (aI 1 de.nd (aw h_owned_gauges (hr.mono (by decide)) (aa (dv 0) ai))) (aq (j6 2 de.nd (by rfl) (by exact bW (osc:=au dU) (xs:=["pair"]) (ns:=[]) (by decide +kernel)) bG.nil (bO (dv 1)) (fun _ _ _ _ _=>di) (fun _ _ _ _ _=>(ao (dv 0) ae))) (aq (aI 3 de.nd (aw h_hull (hr.mono (by decide)) (aa (ao (dv 0) ae) ai))) (aq (aI 4 de.nd (aw h_common (hr.mono (by decide)) (aa (dv 3) (aa (dv 2) ai)))) (aq (bf (aP cf (aJ bo (by rfl) z_len boot_len (aa (dv 4) ai)) ae) (av j5) aR) (av (aA (bq (aa rT (aa (ao (dv 4) ae) (aa (eA (by rfl) (by exact bW (osc:=au dU) (xs:=["spots"]) (ns:=["shared"]) (by decide +kernel)) (bG.cons 4 bG.nil) (bO (dv 0)) (fun _ _ _ _ _=>di) (fun _ _ _ _ _=>(CF (aw h_mixture (hr.mono (by decide)) (aa (dv 0) (aa (ao (dv 1) ae) ai))) (eE ae) cE))) ai))))))))))),?_⟩
 rintro ds Q Ed ⟨Ls,rfl,h⟩
 have e0:aF ["lists", "owned", "gauges", "first", "shared"] [.lst false (Ls.map aZ)]=([some (.val (.lst false (Ls.map aZ))),none,none,none,none]:Ro):=rfl
 rw[e0];clear e0
 obtain⟨L,⟨X,C⟩,h⟩:=h
 walk_at "rx"
 refine⟨L,fun yss rk=>?_⟩
 obtain⟨Z,Zl,cor,inc,gov,lp,lg⟩:=vY L rk C
 have ol:(aO 0 yss).length<=512:=by rw[zAA]at lg;exact lg
 refine PD.comp_map (aO 0 yss) ogD (fun _=>true) (fun x=>trD x.2) (fun R q=>?_) (by rw[sizeLine_eq];omega) (fun x hx K hK=>?_) (fun x hx _ K hK=>?_) ?_
 ·walk_at "rd"
  exact q
 ·walk_at "rd"
  exact hK
 ·unfold ogD
  walk_at "rd"
  exact hK
 rw[zA8.mpr (fun _ _=>rfl)]
 have em:(aO 0 yss).map (fun x=>trD x.2)=((aO 0 yss).map (·.2)).map trD:=by rw[zAo];rfl
 rw[em]
 obtain⟨ps0,Lr,eL⟩:∃p r,Ls=p::r:=by
  cases Ls with
  |nil=>exact absurd L.l0 (by simp)
  |cons p r=>exact⟨p,r,rfl⟩
 obtain⟨ys0,yr,ey⟩:∃p r,yss=p::r:=by
  cases yss with
  |nil=>rw[eL]at rk;exact rk.elim
  |cons p r=>exact⟨p,r,rfl⟩
 have pm0:ps0∈Ls:=by rw[eL];simp
 have rk0:cn ys0 ps0:=by rw[eL,ey]at rk;exact rk.1
 have e0:yss.getD 0 []=ys0:=by rw[ey];rfl
 refine⟨aZ ps0,bA (j:=0) (by rw[eL];rfl),?_⟩
 rw[kI]
 show iR κ [.lst false (ps0.map spD)] _ _
 rw[iH]
 refine⟨by have:=L.le ps0 pm0;omega,fun p hp=>((L.bd ps0 pm0 p hp).mono (by decide)).sb,fun ys hy _=>?_⟩
 have eys:=m5 hy rk0
 subst eys
 have ep:(aL ys).map plS=((aL ys).map sT).map trD:=by rw[zAo];rfl
 rw[bP,bP,iM,ep,iM,i9]
 rw[e0]at cor inc gov
 refine⟨lp,by omega,fun j _=>⟨zAw (cor j).len Zl,fun p hp=>⟨((cor j).pr p hp).pos,(cor j).cb p hp⟩⟩,fun g hg=>⟨(gov g hg).1.c.mono (by decide),(gov g hg).1.a.mono (by decide),(gov g hg).1.b.mono (by decide)⟩,?_⟩
 have cor':=cor ((aO 0 yss).map (·.2)).length
 rw[zBs]at cor'
 have hh:∃y,(bK ((aO 0 yss).map (·.2)) ((aL ys).map sT)).head?=some y:=by
  cases hc:bK ((aO 0 yss).map (·.2)) ((aL ys).map sT)with
  |nil=>exact absurd hc (C6 inc C.1)
  |cons y r=>exact⟨y,rfl⟩
 obtain⟨y,hy0⟩:=hh
 have ym:y∈bK ((aO 0 yss).map (·.2)) ((aL ys).map sT):=List.mem_of_head? hy0
 have py:=cor'.pr y ym
 have cy:=cor'.cb y ym
 have ov:∀ps∈Ls,∀zs,cn zs ps->∀b∈aU (aL zs),0<=gvS b y:=fun ps pm zs hz b hb=>by
  obtain⟨ws,wm,hw⟩:=rk.ex2 ps pm
  rw[m5 hz hw]at hb
  exact(gov b (k9 0 wm hb)).2 y ym
 have mx:∀ps∈Ls,bV (ps.map (arS y)) (cF ps.length)=some ((bV (ps.map (arS y)) (cF ps.length)).getD ([],[])):=fun ps pm=>by
  obtain⟨ws,wm,hw⟩:=rk.ex2 ps pm
  have:=yN (qD (dQ hw) (zBg (L.ne ps pm)) py.pos (ov ps pm ws hw))
  cases hm:bV (ps.map (arS y)) (cF ps.length)with
  |none=>exact absurd hm this
  |some r=>rfl
 have at0:atI ((bK ((aO 0 yss).map (·.2)) ((aL ys).map sT)).map trD) 0=some (trD y):=by
  cases hc:bK ((aO 0 yss).map (·.2)) ((aL ys).map sT)with
  |nil=>rw[hc]at hy0;cases hy0
  |cons y' r=>rw[hc]at hy0;cases hy0;exact bA (j:=0) rfl
 have ln:¬((bK ((aO 0 yss).map (·.2)) ((aL ys).map sT)).map trD).length=0:=by
  rw[zAA]
  intro z
  rw[List.length_eq_zero_iff.mp z]at ym
  cases ym
 have fin:=h y (Ls.map fun ps=>(bV (ps.map (arS y)) (cF ps.length)).getD ([],[])) ⟨yss,rk,by rw[e0];exact hy0,by rw[zAo];exact zBd fun ps pm=>(mx ps pm).symm⟩ py cy (fun i hi=>?_) (by rw[zAA])
 ·generalize bK ((aO 0 yss).map (·.2)) ((aL ys).map sT)=cs at at0 ln
  refine⟨_,.inl ⟨_,rfl⟩,?_⟩
  rw[if_neg (by omega),kj]
  refine⟨_,at0,?_⟩
  refine PD.comp_map Ls aZ (fun _=>true) (fun ps=>cZ ((bV (ps.map (arS y)) (cF ps.length)).getD ([],[]))) (fun R q=>?_) (by have:=L.l8;rw[sizeLine_eq];omega) (fun x hx K hK=>?_) (fun ps pm _ K hK=>?_) ?_
  ·walk_at "rd"
   exact q
  ·walk_at "rd"
   exact hK
  ·walk_at "rx"
   refine⟨_,at0,?_⟩
   rw[d5]
   show iJ κ [.lst false (ps.map spD),T3 y.1 y.2.1 y.2.2] _ _
   rw[iv]
   refine⟨L.ne ps pm,L.le ps pm,fun p hp=>((L.bd ps pm p hp).mono (by decide)).sb,cy.pb py,_,mx ps pm,?_⟩
   exact⟨_,rfl,by show¬(HT.sIx 3 0 (some 1)=0/\_);exact fun z=>absurd z.1 (by decide),hK⟩
  ·rw[zA8.mpr (fun _ _=>rfl)]
   refine⟨sz3 _ _ _,?_⟩
   unfold fG at fin
   rw[zAo]at fin
   exact fin
 ·have hi':Ls[i]?=some Ls[i]:=zAB hi
  have pm:Ls[i]∈Ls:=zBL _
  rw[zAG,hi',zAG,zAH,hi']
  exact Ee (L.bd _ pm) (cy.pb py) (mx _ pm)
theorem tm {f:Addr} {fd:FuncData} (F:aB K "_law_whole" "_law_whole" jD f fd) (C:COk K mg κ)   (z_bool:mg "bool" = none) (z_int:mg "int" = none) (z_isinstance:mg "isinstance" = none):aS P w K mg base (CX1 P w) 1 f fd ["_law_found"] (aT K (fR κ)):=by
 refine aB.okN F tJ (fun ds Q E h=>by obtain⟨_,rfl,_⟩:=h;rfl) fun cdv A outer s H E hr=>⟨_,(av (aA (jK (dN (by rfl) z_isinstance (by rfl) z_int boot_int (.inl rfl) (dv 0)) (nM (CC (dN (by rfl) z_isinstance (by rfl) z_bool boot_bool (.inr (.inl rfl)) (dv 0))))))),?_⟩
 rintro ds Q Ed ⟨a,rfl,h⟩
 have e0:aF ["_law_found"] [.int a]=([some (.val (.int a))]:Ro):=rfl
 rw[e0];clear e0
 walk_at "rd"
 exact h
theorem pA {f:Addr} {fd:FuncData} (F:aB K "_law_cell_at" "_law_cell_at" h9 f fd) (C:COk K mg κ)   (z_len:mg "len" = none):aS P w K mg base (CX1 P w) 1 f fd ["_law_script", "_law_k"] (aT K (gy κ)):=by
 refine aB.okN F pO (fun ds Q E h=>by obtain⟨_,_,rfl,_⟩:=h;rfl) fun cdv A outer s H E hr=>⟨_,(aq (bf (aP fH (dv 1) (aJ bo (by rfl) z_len boot_len (aa (dv 0) ai))) (av (aA (ao (dv 0) (dv 1)))) aR) (av (aA ae))),?_⟩
 rintro ds Q Ed ⟨ns,k,rfl,h⟩
 have e0:aF ["_law_script", "_law_k"] [.lst false (ns.map D.int),.int k]=([some (.val (.lst false (ns.map D.int))),some (.val (.int k))]:Ro):=rfl
 rw[e0];clear e0
 obtain⟨hk,hn,h⟩:=h
 walk_at "rd"
 by_cases hl:k<((ns.map D.int).length:Int)
 ·rw[if_pos (by simpa using hl)]
  rw[zAA]at hl
  exact⟨_,yL hk hl,h _⟩
 ·rw[if_neg (by simpa using hl)]
  exact h 0
theorem pB {f:Addr} {fd:FuncData} (F:aB K "_law_divisor" "_law_divisor" ib f fd) (C:COk K mg κ)   (z_abs:mg "abs" = none):aS P w K mg base (CX1 P w) 1 f fd ["_law_one", "_law_other"] (aT K (eK κ)):=by
 refine aB.okN F eJ (fun ds Q E h=>by obtain⟨_,_,rfl,_⟩:=h;rfl) fun cdv A outer s H E hr=>⟨_,(aq (aI 2 eJ.nd (aJ kS (by rfl) z_abs boot_abs (aa (dv 0) ai))) (aq (aI 3 eJ.nd (aJ kS (by rfl) z_abs boot_abs (aa (dv 1) ai))) (aq (mR PassesOwn.never (aP i5 (dv 3) ae) (av (CI 2 3 rfl eJ.nd (by decide) (aa (dv 3) (aa (ak bM (dv 2) (dv 3)) ai))))) (av (aA (dv 2)))))),?_⟩
 rintro ds Q Ed ⟨a,b,rfl,h⟩
 have e0:aF ["_law_one", "_law_other", "_law_here", "_law_there"] [.int a,.int b]=([some (.val (.int a)),some (.val (.int b)),none,none]:Ro):=rfl
 rw[e0];clear e0
 walk_at "rd"
 refine⟨fun m ρ=>∃(x y:Int),ρ=[some (.val (.int a)),some (.val (.int b)),some (.val (.int x)),some (.val (.int y))]/\Int.gcd x y=Int.gcd a b/\m=y.natAbs/\0<=x/\0<=y,⟨_,_,_,rfl,PM.Bi a b,rfl,by omega,by omega⟩,?_⟩
 rintro m ρ ⟨x,y,rfl,hg,rfl,hx,hy0⟩
 walk_at "rd"
 by_cases hy:y=0
 ·subst hy
  rw[PM.qk]at hg
  have:x=((x.natAbs:Nat):Int):=by omega
  rw[if_pos rfl,this,hg]
  exact h
 ·rw[if_neg hy]
  refine⟨hy,?_⟩
  exact⟨_,PM.qi x hy,y,x.fmod y,rfl,(PM.sA x y).trans hg,rfl,hy0,zCZ x (by omega)⟩
theorem qN {f:Addr} {fd:FuncData} (F:aB K "_law_stream" "_law_stream" i7 f fd) (C:COk K mg κ)   (z_range:mg "range" = none):aS P w K mg base (CX1 P w) 1 f fd ["_law_cell", "_law_many"] (aT K (ir κ)):=by
 refine aB.okN F dg (fun ds Q E h=>by obtain⟨_,_,rfl,_⟩:=h;rfl) fun cdv A outer s H E hr=>⟨_,(aq (jL 2 dg.nd ai) (aq (aI 3 dg.nd (ak aK (ak bM (dv 0) ae) ae)) (aq (cA PassesOwn.never rfl (dR (by rfl) z_range (aa (dv 1) ai)) (br 4 dg.nd) (aq (aI 3 dg.nd (ak bM (ak aK (ak aK (ak aD (dv 3) ae) (ak aD (dv 4) (dv 4))) ae) ae)) (av (fv 2 (ak dq (dv 3) ae))))) (cX 2 (av (aA (dv 2))))))),?_⟩
 rintro ds Q Ed ⟨c,m,rfl,h⟩
 have e0:aF ["_law_cell", "_law_many", "_law_found", "_law_number", "_law_k"] [.int c,.int m]=([some (.val (.int c)),some (.val (.int m)),none,none,none]:Ro):=rfl
 rw[e0];clear e0
 obtain⟨h0,h1,h⟩:=h
 walk_at "rd"
 refine⟨zAk _,by decide,⟨by omega,by omega⟩,fun j ρ=>∃(xs:List Int) (n:Int) (v:Option Sl),ρ=[some (.val (.int c)),some (.val (.int m)),some (.own (xs.map D.int)),some (.val (.int n)),v]/\xs.length=j/\(∀x∈xs,0<=x/\x<2147483647)/\0<=n/\n<2147531918,⟨[],_,none,rfl,rfl,by simp,?_,?_⟩,?_,?_⟩
 ·have:=fm (a:=c) (b:=2147483647) (by decide);omega
 ·have:=fm (a:=c) (b:=2147483647) (by decide);omega
 ·rintro j x ρ' hx ⟨xs,n,v,rfl,hlen,hb,n0,n1⟩
  obtain⟨hj,rfl⟩:=yc hx
  have hm:j<1000:=by
   have:=BS (by decide) hj
   omega
  walk_at "rd"
  refine⟨.inr (.inl (by unfold Bd;decide)),.inl (by unfold Bd;omega),by decide,CD.lit,by rw[zAA,sizeLine_eq];omega,?_⟩
  have hf:=fm (a:=n*48271+(0+(j:Int)*1)*(0+(j:Int)*1)+11) (b:=2147483647) (by decide)
  generalize (n*48271+(0+(j:Int)*1)*(0+(j:Int)*1)+11).fmod 2147483647=y at hf ⊢
  refine⟨xs++[y.fdiv 7],y,some (.val (.int (0+(j:Int)*1))),by simp,by simp[hlen],?_,by omega,by omega⟩
  intro z hz
  rcases zAI.mp hz with q|q
  ·exact hb z q
  ·simp at q
   subst q
   have e:=Int.fdiv_eq_ediv_of_nonneg y (show(0:Int)<=7 by decide)
   rw[e]
   omega
 ·rintro ρ' ⟨xs,n,v,rfl,hlen,hb,n0,n1⟩
  walk_at "rd"
  refine h xs ?_ hb
  rw[hlen,m6]
  unfold fJ Builtin.Range.rangeSize
  rw[if_pos (by decide)]
  split<;>omega
theorem n6 {f:Addr} {fd:FuncData} (F:aB K "_law_is_place" "_law_is_place" gn f fd) (C:COk K mg κ)  (h_law_divisor:Has P w K mg base "_law_divisor" 1 ["_law_one", "_law_other"] (eK κ)) (h_law_whole:Has P w K mg base "_law_whole" 1 ["_law_found"] (fR κ)) (z_isinstance:mg "isinstance" = none) (z_len:mg "len" = none) (z_tuple:mg "tuple" = none):aS P w K mg base (CX1 P w) 2 f fd ["_law_found"] (aT K (dG κ)):=by
 refine aB.okN F ow (fun ds Q E h=>by obtain⟨_,_,_,rfl,_⟩:=h;rfl) fun cdv A outer s H E hr=>⟨_,(aq (bf (cN (cB (cc (dN (by rfl) z_isinstance (by rfl) z_tuple boot_tuple (.inr (.inr (.inl rfl))) (dv 0)))) (gM (aP i5 (aJ bo (by rfl) z_len boot_len (aa (dv 0) ai)) ae))).pt (av (aA eU)) aR) (aq (bf (cN (cB (cc (aw h_law_whole (hr.mono (by decide)) (aa (ao (dv 0) ae) ai)))) (cN (cB (cc (aw h_law_whole (hr.mono (by decide)) (aa (ao (dv 0) ae) ai)))) (cN (cB (cc (aw h_law_whole (hr.mono (by decide)) (aa (ao (dv 0) ae) ai)))) (gM (aP fH (ao (dv 0) ae) ae))))).pt (av (aA eU)) aR) (av (aA (fF cf (aw h_law_divisor (hr.mono (by decide)) (aa (aw h_law_divisor (hr.mono (by decide)) (aa (ao (dv 0) ae) (aa (ao (dv 0) ae) ai))) (aa (ao (dv 0) ae) ai))) ae))))),?_⟩
 rintro ds Q Ed ⟨h0,h1,h2,rfl,h⟩
 have e0:aF ["_law_found"] [T3 h0 h1 h2]=([some (.val (T3 h0 h1 h2))]:Ro):=rfl
 rw[e0];clear e0
 obtain⟨⟨hp,hg⟩,h⟩:=h
 have hp':0<h0:=hp
 have g1:(((Int.gcd (Int.gcd h0 h1:Int) h2:Nat)):Int)=1:=by
  have e':((PM.g3 h0 h1 h2:Nat):Int)=1:=by rw[show PM.g3 h0 h1 h2=1 from hg];rfl
  exact e'
 walk_at "rx"
 rw[if_pos (by rfl),if_neg (by omega),decide_eq_true g1]
 exact h
theorem pC {f:Addr} {fd:FuncData} (F:aB K "_law_numbers" "_law_numbers" eW f fd) (C:COk K mg κ)  (h_law_whole:Has P w K mg base "_law_whole" 1 ["_law_found"] (fR κ)) (z_isinstance:mg "isinstance" = none) (z_len:mg "len" = none) (z_list:mg "list" = none):aS P w K mg base (CX1 P w) 2 f fd ["_law_found"] (aT K (gz κ)):=by
 refine aB.okN F pP (fun ds Q E h=>by obtain⟨_,rfl,_⟩:=h;rfl) fun cdv A outer s H E hr=>⟨_,(aq (bf (cN (cB (cc (dN (by rfl) z_isinstance (by rfl) z_list boot_list (.inr (.inr (.inr (.inl rfl)))) (dv 0)))) (gM (aP (wc (by exact hr.units)) (dv 0) (cG ai)))).pt (av (aA eU)) aR) (av (aA (fF cf (aJ bo (by rfl) z_len boot_len (aa (eA (by rfl) (by exact bW (osc:=au eW) (xs:=["_law_number"]) (ns:=[]) (by decide +kernel)) bG.nil (bO (dv 0)) (fun _ _ _ _ _=>(yv (cc (aw h_law_whole (hr.mono (by decide)) (aa (dv 0) ai))))) (fun _ _ _ _ _=>(dv 0))) ai)) (aJ bo (by rfl) z_len boot_len (aa (dv 0) ai)))))),?_⟩
 rintro ds Q Ed ⟨ns,rfl,h⟩
 have e0:aF ["_law_found"] [.lst false (ns.map D.int)]=([some (.val (.lst false (ns.map D.int)))]:Ro):=rfl
 rw[e0];clear e0
 obtain⟨l0,l1,h⟩:=h
 walk_at "rx"
 refine⟨zAk _,(OkN.map (OkN.int 0)).ok,(OkN.lst (hJ.nil 0)).ok,?_⟩
 rw[if_neg (by
  cases ns with
  |nil=>exact absurd l0 (by simp)
  |cons a r=>rw[zAK,l5,Bf];simp)]
 refine PD.comp_map ns D.int (fun _=>true) D.int (fun R q=>?_) (by rw[sizeLine_eq];omega) (fun k hk K hK=>?_) (fun k hk _ K hK=>?_) ?_
 ·walk_at "rd"
  exact q
 ·walk_at "rd"
  exact hK
 ·walk_at "rd"
  exact hK
 rw[zA8.mpr (fun _ _=>rfl)]
 refine⟨_,.inl ⟨_,rfl⟩,?_⟩
 rw[decide_eq_true rfl]
 exact h
theorem ud {f:Addr} {fd:FuncData} (F:aB K "_law_part" "_law_part" kv f fd) (C:COk K mg κ)  (h_law_divisor:Has P w K mg base "_law_divisor" 1 ["_law_one", "_law_other"] (eK κ)) (h_law_numbers:Has P w K mg base "_law_numbers" 2 ["_law_found"] (gz κ)) (z_isinstance:mg "isinstance" = none) (z_len:mg "len" = none) (z_range:mg "range" = none) (z_sum:mg "sum" = none) (z_tuple:mg "tuple" = none) (z_zip:mg "zip" = none):aS P w K mg base (CX1 P w) 3 f fd ["_law_part_here", "_law_spots", "_law_here"] (aT K (gJ κ)):=by
 refine aB.okN F bD (fun ds Q E h=>by obtain⟨_,_,_,_,_,rfl,_⟩:=h;rfl) fun cdv A outer s H E hr=>⟨_,(aq (bf (cN (cB (cc (dN (by rfl) z_isinstance (by rfl) z_tuple boot_tuple (.inr (.inr (.inl rfl))) (dv 0)))) (cN (aP i5 (aJ bo (by rfl) z_len boot_len (aa (dv 0) ai)) ae) (cN (cB (cc (aw h_law_numbers (hr.mono (by decide)) (aa (ao (dv 0) ae) ai)))) (gM (cB (cc (aw h_law_numbers (hr.mono (by decide)) (aa (ao (dv 0) ae) ai)))))))).pt (av (aA eU)) aR) (aq (bf (cN (aP i5 (aJ bo (by rfl) z_len boot_len (aa (ao (dv 0) ae) ai)) (aJ bo (by rfl) z_len boot_len (aa (ao (dv 0) ae) ai))) (cN (aP qW (aJ bo (by rfl) z_len boot_len (aa (ao (dv 0) ae) ai)) ae) (cN (aP fH (ao (ao (dv 0) ae) ae) ae) (gM (aP we (ao (ao (dv 0) ae) (cz ae)) (aJ bo (by rfl) z_len boot_len (aa (dv 1) ai))))))).pt (av (aA eU)) aR) (aq (cA PassesOwn.never rfl (qn (by rfl) z_range (aa ae (aa (aJ bo (by rfl) z_len boot_len (aa (ao (dv 0) ae) ai)) ai))) (br 3 bD.nd) (av (bf (aP we (ao (ao (dv 0) ae) (ak aY (dv 3) ae)) (ao (ao (dv 0) ae) (dv 3))) (av (aA eU)) aR))) (aq (aI 4 bD.nd ae) (aq (aI 5 bD.nd ae) (aq (aI 6 bD.nd ae) (aq (cA PassesOwn.never rfl (xx (by rfl) z_zip (aa (ao (dv 0) ae) (aa (ao (dv 0) ae) ai))) (nR (n:=2) rfl (dP (br 8 bD.nd) (dP (br 9 bD.nd) l9))) (aq (bf (aP fH (dv 9) ae) (av (aA eU)) aR) (aq (aI 4 bD.nd (ak aK (dv 4) (ak aD (dv 9) (ao (ao (dv 1) (dv 8)) ae)))) (aq (aI 5 bD.nd (ak aK (dv 5) (ak aD (dv 9) (ao (ao (dv 1) (dv 8)) ae)))) (av (aI 6 bD.nd (aw h_law_divisor (hr.mono (by decide)) (aa (dv 6) (aa (dv 9) ai))))))))) (aq (aI 7 bD.nd (aJ (Ct rfl) (by rfl) z_sum boot_sum (aa (ao (dv 0) ae) ai))) (av (aA (jK (fF cf (dv 6) ae) (jK (fF cf (ak aD (dv 4) (ao (dv 2) ae)) (ak aD (ao (dv 2) ae) (dv 7))) (nM (fF cf (ak aD (dv 5) (ao (dv 2) ae)) (ak aD (ao (dv 2) ae) (dv 7)))))))))))))))),?_⟩
 rintro ds Q Ed ⟨d,ps,h0,h1,h2,rfl,h⟩
 have e0:aF ["_law_part_here", "_law_spots", "_law_here", "_law_k", "_law_right", "_law_above", "_law_part_of_all", "_law_by", "_law_number", "_law_share"] [d,.lst false (ps.map spD),T3 h0 h1 h2]=([some (.val (d)),some (.val (.lst false (ps.map spD))),some (.val (T3 h0 h1 h2)),none,none,none,none,none,none,none]:Ro):=rfl
 rw[e0];clear e0
 obtain⟨pk,sh,rfl,I,hl,hb,hc,h⟩:=h
 have ek:(pk.map fun(k:Nat)=>D.int (k:Int))=(pk.map fun(k:Nat)=>(k:Int)).map D.int:=by rw[zAo];rfl
 unfold c6
 rw[ek]
 have lk:(pk.map fun(k:Nat)=>(k:Int)).length=pk.length:=zAA _
 have l0:=I.l0
 have l3:=I.l3
 have ls:=I.ls
 have gk:∀i (hi:i<pk.length),(pk.map fun(k:Nat)=>(k:Int))[i]?=some ((pk[i]:Nat):Int):=fun i hi=>by rw[zAH,zAB hi];rfl
 have gt:∀k,k<ps.length->ps[k]?=some (ps.getD k (0,0)):=fun k hk=>by
  rw[zAG,zAB hk];rfl
 refine ng (fun ρ=>ρ=[some (.val (.tup [.lst false ((pk.map fun(k:Nat)=>(k:Int)).map D.int),.lst false (sh.map D.int)])),some (.val (.lst false (ps.map spD))),some (.val (T3 h0 h1 h2)),none,none,none,none,none,none,none]) ?_ fun K hK=>?_
 ·rintro ρ' rfl
  refine ng (fun ρ=>ρ=[some (.val (.tup [.lst false ((pk.map fun(k:Nat)=>(k:Int)).map D.int),.lst false (sh.map D.int)])),some (.val (.lst false (ps.map spD))),some (.val (T3 h0 h1 h2)),none,none,none,none,none,none,none]) ?_ fun K hK=>?_
  ·rintro ρ' rfl
   walk_at "rx"
   refine PD.bZ (List.range' 1 (pk.length - 1)) (fun(k:Nat)=>D.int (k:Int)) (fun _ ρ=>∃v3:Option Sl,ρ=[some (.val (.tup [.lst false ((pk.map fun(k:Nat)=>(k:Int)).map D.int),.lst false (sh.map D.int)])),some (.val (.lst false (ps.map spD))),some (.val (T3 h0 h1 h2)),v3,none,none,none,none,none,none]) (fun R q=>?_) ⟨none,rfl⟩ ?_ ?_
   ·walk_at "rd"
    rw[zAA,lk]
    have:=uZ 1 pk.length
    rw[show((1:Nat):Int)=1 from rfl]at this
    rw[this]
    exact⟨⟨by omega,by omega⟩,⟨by omega,by omega⟩,q⟩
   ·rintro j k ρ' hj ⟨v3,rfl⟩
    obtain⟨hj',ej⟩:=zAE.mp hj
    rw[zAj]at hj'
    rw[zBn,zCp]at ej
    obtain⟨k',rfl⟩:∃k',k=k'+1:=⟨j,by omega⟩
    have hk:k'+1<pk.length:=by omega
    walk_at "rx"
    have a1:atI ((pk.map fun(k:Nat)=>(k:Int)).map D.int) (((k'+1:Nat):Int) - 1)=some (D.int ((pk[k']:Nat):Int)):=by
     rw[show(((k'+1:Nat):Int) - 1)=(k':Int)by omega]
     exact bA (j:=k') (by rw[zAH,gk k' (by omega)];rfl)
    refine⟨_,a1,_,bA (j:=k'+1) (by rw[zAH,gk (k'+1) hk];rfl),?_⟩
    rw[dS]
    refine⟨_,rfl,?_⟩
    rw[if_neg (by rw[decide_eq_true_eq];have:=zAy.mp I.rise k' (k'+1) (by omega) hk (by omega);omega)]
    exact⟨_,rfl⟩
   ·rintro ρ' ⟨v3,rfl⟩
    have zl:(pk.zip sh).length=pk.length:=by rw[List.length_zip,ls,Nat.min_self]
    walk_at "rx"
    refine PD.bZ (pk.zip sh) (fun z=>D.tup [.int ((z.1:Nat):Int),.int z.2]) (fun j ρ=>∃v8 v9:Option Sl,Bd (940+j) (zX ps ((pk.zip sh).take j))/\Bd (940+j) (zY ps ((pk.zip sh).take j))/\ρ=[some (.val (.tup [.lst false ((pk.map fun(k:Nat)=>(k:Int)).map D.int),.lst false (sh.map D.int)])),some (.val (.lst false (ps.map spD))),some (.val (T3 h0 h1 h2)),v3,some (.val (.int (zX ps ((pk.zip sh).take j)))),some (.val (.int (zY ps ((pk.zip sh).take j)))),some (.val (.int (bu 0 (sh.take j)))),none,v8,v9]) (fun R q=>?_) ⟨none,none,by unfold zX Bd;exact Nat.pow_pos (by decide),by unfold zY Bd;exact Nat.pow_pos (by decide),rfl⟩ ?_ ?_
    ·walk_at "rd"
     rw[tS]
     exact q
    ·rintro j z ρ' hz ⟨v8,v9,bx,bY,rfl⟩
     have hz1:pk[j]?=some z.1/\sh[j]?=some z.2:=by
      obtain⟨i,e⟩:=zAE.mp hz
      rw[List.getElem_zip]at e
      rw[zl]at i
      rw[zAB i,zAB (by omega),<- e]
      exact⟨rfl,rfl⟩
     have zm:=zAT hz1.1
     have sm:=zAT hz1.2
     have zp:=I.pos z.2 sm
     have zb:=I.bd z.2 sm
     have hk:=I.lt z.1 zm
     have wb:=hb _ (zAT (gt z.1 hk))
     have tz:(pk.zip sh).take (j+1)=(pk.zip sh).take j++[z]:=by rw[zBv,hz];rfl
     have ts:sh.take (j+1)=sh.take j++[z.2]:=by rw[zBv,hz1.2];rfl
     have eX:zX ps ((pk.zip sh).take (j+1))=zX ps ((pk.zip sh).take j)+z.2*(ps.getD z.1 (0,0)).1:=by rw[tz];unfold zX;simp
     have eY:zY ps ((pk.zip sh).take (j+1))=zY ps ((pk.zip sh).take j)+z.2*(ps.getD z.1 (0,0)).2:=by rw[tz];unfold zY;simp
     rw[eX,eY,ts,k7]
     have at1:atI (ps.map spD) ((z.1:Nat):Int)=some (.tup [.int (ps.getD z.1 (0,0)).1,.int (ps.getD z.1 (0,0)).2]):=bA (by rw[zAH,gt z.1 hk];rfl)
     walk_at "rx"
     rw[if_neg (by omega)]
     refine⟨_,at1,?_⟩
     walk_at "rx"
     refine⟨cmB zb wb.x,_,at1,?_⟩
     walk_at "rx"
     exact⟨cmB zb wb.y,_,_,bx.add ((zb.mul wb.x).mono (by omega)),bY.add ((zb.mul wb.y).mono (by omega)),rfl⟩
    ·rintro ρ' ⟨v8,v9,bx,bY,rfl⟩
     rw[zBs,D3,D4]at *
     rw[zl,show sh.take pk.length=sh by rw[<- ls,zBs],I.one]
     rw[zl]at bx bY
     have bs:=AO sh I.bd
     have b1:Bd 1000 (sX (pk.map fun k=>ps.getD k (0,0)) sh):=bx.mono (by omega)
     have b2:Bd 1000 (sY (pk.map fun k=>ps.getD k (0,0)) sh):=bY.mono (by omega)
     have b3:Bd 1000 sh.sum:=bs.mono (by omega)
     have c0:Bd 1000 h0:=hc.b.mono (by decide)
     have c1:Bd 1000 h1:=hc.x.mono (by decide)
     have c2:Bd 1000 h2:=hc.y.mono (by decide)
     have ex:sh.sum*h1=h0*sX (pk.map fun k=>ps.getD k (0,0)) sh:=I.x
     have ey:sh.sum*h2=h0*sY (pk.map fun k=>ps.getD k (0,0)) sh:=I.y
     walk_at "rx"
     refine⟨_,_,rfl,cmB b1 c0,cmB c1 b3,?_⟩
     rw[if_pos (by rw[zAn,<- ex,zAn])]
     refine⟨cmB b2 c0,cmB c2 b3,?_⟩
     rw[decide_eq_true (by rw[zAn,<- ey,zAn])]
     exact h
  ·walk_at "rx"
   rw[if_pos (by rw[zAA,lk,zAA,ls]),if_neg (by rw[zAA,lk];omega)]
   refine⟨_,bA (j:=0) (by rw[zAH,gk 0 l0];rfl),?_⟩
   rw[dS]
   refine⟨_,rfl,?_⟩
   rw[if_neg (by rw[decide_eq_true_eq];omega)]
   refine⟨_,pX (by rw[zAA,lk];exact l0) (by rw[zAA,lk,zAH,gk _ (by omega)];rfl),?_⟩
   rw[dS]
   refine⟨_,rfl,?_⟩
   rw[if_neg (by rw[decide_eq_true_eq,zAA];have:=I.lt _ (zBL (show pk.length - 1<pk.length by omega));omega)]
   exact hK _ rfl
 ·walk_at "rx"
  rw[if_pos (by rfl)]
  refine⟨by rw[lk];exact l0,by rw[lk];omega,by omega,by omega,hK _ rfl⟩
theorem tj {f:Addr} {fd:FuncData} (F:aB K "_law_about" "_law_about" jC f fd) (C:COk K mg κ)    : aS P w K mg base (CX1 P w) 1 f fd ["_law_middle_spot", "_law_number", "_law_far"] (aT K (jb κ)):=by
 refine aB.okN F dW (fun ds Q E h=>by obtain⟨_,_,_,rfl,_⟩:=h;rfl) fun cdv A outer s H E hr=>⟨_,(aq (CH (dv 0) (nR (n:=2) rfl (dP (br 5 dW.nd) (dP (br 6 dW.nd) l9)))) (aq (aI 3 dW.nd (ak aK (ak bM (ak dq (dv 1) ae) (dv 2)) ae)) (aq (aI 4 dW.nd (ak aY (ak bM (ak dq (dv 1) ae) (dv 2)) (ak dq (dv 2) ae))) (aq (bf (aP cf (ak bM (dv 1) ae) ae) (av (aA (cG (aa (dv 0) ai)))) aR) (aq (bf (aP cf (ak bM (dv 1) ae) ae) (av (aA (cG (aa (bq (aa (ak aK (dv 5) (dv 3)) (aa (ak aK (dv 6) (dv 4)) ai))) (aa (dv 0) ai))))) aR) (aq (bf (aP cf (ak bM (dv 1) ae) ae) (av (aA (cG (aa (bq (aa (ak aK (dv 5) (dv 3)) (aa (ak aK (dv 6) (dv 4)) ai))) (aa (bq (aa (ak aY (dv 5) (dv 3)) (aa (ak aY (dv 6) (dv 4)) ai))) ai))))) aR) (aq (bf (aP cf (ak bM (dv 1) ae) ae) (av (aA (cG (aa (bq (aa (ak aK (dv 5) (dv 3)) (aa (ak aK (dv 6) (dv 4)) ai))) (aa (bq (aa (ak aY (dv 5) (dv 4)) (aa (ak aK (dv 6) (dv 3)) ai))) (aa (bq (aa (ak aK (ak aY (dv 5) (dv 3)) (dv 4)) (aa (ak aY (ak aY (dv 6) (dv 4)) (dv 3)) ai))) ai)))))) aR) (av (aA (cG (aa (bq (aa (ak aK (dv 5) (dv 3)) (aa (ak aK (dv 6) (dv 4)) ai))) (aa (bq (aa (ak aY (dv 5) (ak aD ae (dv 3))) (aa (ak aY (dv 6) (ak aD ae (dv 4))) ai))) ai)))))))))))),?_⟩
 rintro ds Q Ed ⟨m,n,f,rfl,h⟩
 have e0:aF ["_law_middle_spot", "_law_number", "_law_far", "_law_u", "_law_w", "_law_x", "_law_y"] [spD m,.int n,.int f]=([some (.val (spD m)),some (.val (.int n)),some (.val (.int f)),none,none,none,none]:Ro):=rfl
 rw[e0];clear e0
 obtain⟨f1,f2,x1,x2,y1,y2,h⟩:=h
 have fu:=fm (a:=n.fdiv 7) (b:=f) (by omega)
 have fw:=fm (a:=n.fdiv 77) (b:=f) (by omega)
 have h2:0<=f.fdiv 2/\f.fdiv 2<=f:=by
  have e:f.fdiv 2=f / 2:=by rw[Int.fdiv_eq_ediv_of_nonneg _ (by decide)]
  omega
 have sp:∀(a b:Int),D.tup [.int a,.int b]=spD (a,b):=fun _ _=>rfl
 have bd:∀(a:Int),-60000000000<=a->a<=60000000000->Bd 40 a:=fun a h1 h2=>by unfold Bd;omega
 refine ng (fun ρ=>ρ=[some (.val (spD m)),some (.val (.int n)),some (.val (.int f)),none,none,some (.val (.int m.1)),some (.val (.int m.2))]) ?_ fun K hK=>?_
 ·rintro ρ' rfl
  walk_at "rx"
  refine⟨CD.lit,by omega,CD.lit,by omega,CD.lit,by decide,?_⟩
  generalize eu:(n.fdiv 7).fmod f+1=u
  generalize ew:(n.fdiv 77).fmod f - f.fdiv 2=w
  have wm:WB 40 m:=⟨bd _ (by omega) (by omega),bd _ (by omega) (by omega)⟩
  split
  ·refine⟨sz1 _,h [m] ⟨by simp,by simp,fun p hp=>?_,fun g hg=>hg m (by simp)⟩⟩
   rw[zAP.mp hp]
   exact wm
  refine⟨by decide,?_⟩
  split
  ·refine⟨sz2 _ _,sz2 _ _,h [(m.1+u,m.2+w),m] ⟨by simp,by simp,fun p hp=>?_,fun g hg=>hg m (by simp)⟩⟩
   simp only[zAC,zAS,or_false]at hp
   rcases hp with rfl|rfl
   ·exact⟨bd _ (by dsimp only;omega) (by dsimp only;omega),bd _ (by dsimp only;omega) (by dsimp only;omega)⟩
   ·exact wm
  refine⟨by decide,?_⟩
  split
  ·refine⟨sz2 _ _,sz2 _ _,sz2 _ _,h [(m.1+u,m.2+w),(m.1 - u,m.2 - w)] ⟨by simp,by simp,fun p hp=>?_,fun g hg=>?_⟩⟩
   ·simp only[zAC,zAS,or_false]at hp
    rcases hp with rfl|rfl<;>exact⟨bd _ (by dsimp only;omega) (by dsimp only;omega),bd _ (by dsimp only;omega) (by dsimp only;omega)⟩
   ·have a:=hg (m.1+u,m.2+w) (by simp)
    have b:=hg (m.1 - u,m.2 - w) (by simp)
    have e:2*gvS g (1,m.1,m.2)=gvS g (1,m.1+u,m.2+w)+gvS g (1,m.1 - u,m.2 - w):=by unfold gvS;grind
    dsimp only at a b
    omega
  refine⟨by decide,?_⟩
  split
  ·refine⟨sz2 _ _,sz2 _ _,sz2 _ _,sz3 _ _ _,h [(m.1+u,m.2+w),(m.1 - w,m.2+u),(m.1 - u+w,m.2 - w - u)] ⟨by simp,by simp,fun p hp=>?_,fun g hg=>?_⟩⟩
   ·simp only[zAC,zAS,or_false]at hp
    rcases hp with rfl|rfl|rfl<;>exact⟨bd _ (by dsimp only;omega) (by dsimp only;omega),bd _ (by dsimp only;omega) (by dsimp only;omega)⟩
   ·have a:=hg (m.1+u,m.2+w) (by simp)
    have b:=hg (m.1 - w,m.2+u) (by simp)
    have c:=hg (m.1 - u+w,m.2 - w - u) (by simp)
    have e:3*gvS g (1,m.1,m.2)=gvS g (1,m.1+u,m.2+w)+gvS g (1,m.1 - w,m.2+u)+gvS g (1,m.1 - u+w,m.2 - w - u):=by unfold gvS;grind
    dsimp only at a b c
    omega
  refine⟨sz2 _ _,.inl (by unfold Bd;decide),.inl (by unfold Bd;decide),sz2 _ _,sz2 _ _,h [(m.1+u,m.2+w),(m.1 - 2*u,m.2 - 2*w)] ⟨by simp,by simp,fun p hp=>?_,fun g hg=>?_⟩⟩
  ·simp only[zAC,zAS,or_false]at hp
   rcases hp with rfl|rfl<;>exact⟨bd _ (by dsimp only;omega) (by dsimp only;omega),bd _ (by dsimp only;omega) (by dsimp only;omega)⟩
  ·have a:=hg (m.1+u,m.2+w) (by simp)
   have b:=hg (m.1 - 2*u,m.2 - 2*w) (by simp)
   have e:3*gvS g (1,m.1,m.2)=2*gvS g (1,m.1+u,m.2+w)+gvS g (1,m.1 - 2*u,m.2 - 2*w):=by unfold gvS;grind
   dsimp only at a b
   omega
 ·show vD (jz 0) _ _ [some (.val (.tup [.int m.1,.int m.2])),some (.val (.int n)),some (.val (.int f)),none,none,none,none]
  walk_at "rx"
  exact hK _ rfl
theorem ue {f:Addr} {fd:FuncData} (F:aB K "_law_sets" "_law_sets" kx f fd) (C:COk K mg κ)  (h_law_about:Has P w K mg base "_law_about" 1 ["_law_middle_spot", "_law_number", "_law_far"] (jb κ)) (h_law_cell_at:Has P w K mg base "_law_cell_at" 1 ["_law_script", "_law_k"] (gy κ)) (h_law_stream:Has P w K mg base "_law_stream" 1 ["_law_cell", "_law_many"] (ir κ)) (z_len:mg "len" = none) (z_range:mg "range" = none):aS P w K mg base (CX1 P w) 2 f fd ["_law_script"] (aT K (jF κ)):=by
 refine aB.okN F bE (fun ds Q E h=>by obtain⟨_,rfl,_⟩:=h;rfl) fun cdv A outer s H E hr=>⟨_,(aq (aI 1 bE.nd (aw h_law_cell_at (hr.mono (by decide)) (aa (dv 0) (aa ae ai)))) (aq (aI 2 bE.nd (ao (cG (aa ae (aa ae (aa (ak Dk ae ae) ai)))) (ak bM (ak dq (dv 1) ae) ae))) (aq (aI 3 bE.nd (aw h_law_stream (hr.mono (by decide)) (aa (aw h_law_cell_at (hr.mono (by decide)) (aa (dv 0) (aa ae ai))) (aa ae ai)))) (aq (aI 4 bE.nd (bq (aa (ak aY (ak bM (ao (dv 3) ae) (ak aK (ak aD ae (dv 2)) ae)) (dv 2)) (aa (ak aY (ak bM (ao (dv 3) ae) (ak aK (ak aD ae (dv 2)) ae)) (dv 2)) ai)))) (aq (jL 5 bE.nd ai) (aq (cA PassesOwn.never rfl (dR (by rfl) z_range (aa (ak aK ae (ak bM (dv 1) ae)) ai)) (br 6 bE.nd) (aq (aI 7 bE.nd (aw h_law_cell_at (hr.mono (by decide)) (aa (dv 0) (aa (ak aK ae (dv 6)) ai)))) (aq (A6 8 bE.nd (A5 h_law_about (hr.mono (by decide)) (aa (dv 4) (aa (ak bM (ak aK (ak aD (dv 7) ae) (ao (dv 3) (ak aK ae (dv 6)))) ae) (aa (dv 2) ai))))) (aq (cA PassesOwn.never rfl (dR (by rfl) z_range (aa (ak bM (dv 7) ae) ai)) (br 9 bE.nd) (av (fv 8 (bq (aa (ak aY (ak bM (ao (dv 3) (ak aK (ak aK ae (ak aD ae (dv 6))) (dv 9))) (ak aD ae (dv 2))) (ak aD ae (dv 2))) (aa (ak aY (ak bM (ao (dv 3) (ak aK (ak aK ae (ak aD ae (dv 6))) (dv 9))) (ak aD ae (dv 2))) (ak aD ae (dv 2))) ai)))))) (cX 8 (aq (aI 10 bE.nd (ak bM (ak dq (dv 7) ae) (aJ bo (by rfl) z_len boot_len (aa (dv 8) ai)))) (av (fv 5 (ak aK ((eZ (dv 8) (eE (dv 10)) cE)).ped ((eZ (dv 8) cE (eE (dv 10)))).ped))))))))) (cX 5 (av (aA (dv 5)))))))))),?_⟩
 rintro ds Q Ed ⟨ns,rfl,h⟩
 have e0:aF ["_law_script", "_law_first", "_law_far", "_law_xs", "_law_spot", "_law_sets_here", "_law_k", "_law_cell", "_law_found", "_law_j", "_law_at"] [.lst false (ns.map D.int)]=([some (.val (.lst false (ns.map D.int))),none,none,none,none,none,none,none,none,none,none]:Ro):=rfl
 rw[e0];clear e0
 obtain⟨hl,h⟩:=h
 have p10:((10:Int) ^ Int.toNat 10)=10000000000:=by decide
 walk_at "rx"
 rw[p10]
 refine⟨by decide,hl,fun v=>?_⟩
 have f3:=fm (a:=v.fdiv 8) (b:=3) (by decide)
 have f8:=fm (a:=v) (b:=8) (by decide)
 refine⟨EF,sz3 _ _ _,CD.lit,by decide,Cm f3.1 f3.2 fun d hd=>?_⟩
 obtain⟨r,rfl,r1,r2⟩:∃r:Int,d=.int r/\1<=r/\r<=10000000000:=by
  simp only[zAC,zAS,or_false]at hd
  rcases hd with rfl|rfl|rfl<;>exact⟨_,rfl,by decide,by decide⟩
 refine⟨by decide,hl,fun v1=>⟨by decide,by decide,fun xs xl xb=>?_⟩⟩
 have xl':xs.length=60:=xl
 have ax:∀i:Nat,i<60->atI (xs.map D.int) (i:Int)=some (.int (xs.getD i 0)):=fun i hi=>bA (by rw[zAH,zAG,zAB (by omega)];rfl)
 have rb:Bd 64 r:=by unfold Bd;omega
 refine⟨_,ax 0 (by decide),?_⟩
 walk_at "rx"
 refine⟨.inr (.inl rb),by omega,_,ax 1 (by decide),?_⟩
 walk_at "rx"
 have g0:=fm (a:=xs.getD 0 0) (b:=2*r+1) (by omega)
 have g1:=fm (a:=xs.getD 1 0) (b:=2*r+1) (by omega)
 refine⟨.inr (.inl rb),by omega,sz2 _ _,zAk _,?_⟩
 have mx:∃m:Sp,m=((xs.getD 0 0).fmod (2*r+1) - r,(xs.getD 1 0).fmod (2*r+1) - r):=⟨_,rfl⟩
 obtain⟨m,em⟩:=mx
 have mb:(-10000000000<=m.1/\m.1<=10000000000)/\-10000000000<=m.2/\m.2<=10000000000:=by rw[em];dsimp only;omega
 have emd:D.tup [D.int ((xs.getD 0 0).fmod (2*r+1) - r),D.int ((xs.getD 1 0).fmod (2*r+1) - r)]=spD m:=by rw[em];rfl
 rw[emd]
 clear em emd g0 g1
 have nn:(1+v.fmod 8).toNat=(v.fmod 8).toNat+1:=by omega
 refine PD.bZ (List.range' 0 ((v.fmod 8).toNat+1)) (fun(k:Nat)=>D.int (k:Int)) (fun j ρ=>∃(Ls:List (List Sp)) (v6 v7 v8 v9 v10:Option Sl),Ls.length=j/\(∀ps∈Ls,0<ps.length/\ps.length<=7/\(∀p∈ps,WB 40 p)/\∀g:Tr,(∀p∈ps,0<=gvS g (1,p.1,p.2))->0<=gvS g (1,m.1,m.2))/\ρ=[some (.val (.lst false (ns.map D.int))),some (.val (.int v)),some (.val (.int r)),some (.val (.lst true (xs.map D.int))),some (.val (spD m)),some (.own (Ls.map dw)),v6,v7,v8,v9,v10]) (fun R q=>?_) ⟨[],none,none,none,none,none,rfl,(fun _ q=>by cases q),rfl⟩ ?_ ?_
 ·walk_at "rd"
  have e:(1+v.fmod 8)=(((v.fmod 8).toNat+1:Nat):Int):=by omega
  rw[e,pI]
  exact⟨by decide,⟨by omega,by omega⟩,q⟩
 ·rintro j k ρ' hj ⟨Ls,v6,v7,v8,v9,v10,hlen,hok,rfl⟩
  obtain⟨hj',ek⟩:=zAE.mp hj
  rw[zAj]at hj'
  rw[zBn,zA6,zCp]at ek
  subst ek
  have j8:j<8:=by omega
  walk_at "rx"
  refine⟨by omega,hl,fun cell=>⟨.inr (.inl (by unfold Bd;decide)),?_⟩⟩
  have a2:=ax (2+j) (by omega)
  rw[show((2+j:Nat):Int)=2+(j:Int)by omega]at a2
  refine⟨_,a2,?_⟩
  walk_at "rx"
  refine⟨by decide,r1,r2,mb.1.1,mb.1.2,mb.2.1,mb.2.2,fun ps A=>⟨mj _,?_⟩⟩
  have f5:=fm (a:=cell) (b:=5) (by decide)
  refine PD.bZ (List.range' 0 (cell.fmod 5).toNat) (fun(k:Nat)=>D.int (k:Int)) (fun i ρ=>∃(qs:List Sp) (v9:Option Sl),qs.length=i/\(∀p∈qs,WB 40 p)/\ρ=[some (.val (.lst false (ns.map D.int))),some (.val (.int v)),some (.val (.int r)),some (.val (.lst true (xs.map D.int))),some (.val (spD m)),some (.own (Ls.map dw)),some (.val (.int (j:Int))),some (.val (.int cell)),some (.own ((ps++qs).map spD)),v9,v10]) (fun R q=>?_) ⟨[],v9,rfl,(fun _ q=>by cases q),by rw[zA5]⟩ ?_ ?_
  ·walk_at "rd"
   have e:cell.fmod 5=((cell.fmod 5).toNat:Int):=by omega
   rw[e,pI]
   exact⟨by decide,⟨by omega,by omega⟩,q⟩
  ·rintro i k ρ' hi ⟨qs,v9,ql,qb,rfl⟩
   obtain⟨hi',ek⟩:=zAE.mp hi
   rw[zAj]at hi'
   rw[zBn,zA6,zCp]at ek
   subst ek
   have l3:=A.l3
   have a10:=ax (10+6*j+i) (by omega)
   have a11:=ax (11+6*j+i) (by omega)
   rw[show((10+6*j+i:Nat):Int)=10+6*(j:Int)+(i:Int)by omega]at a10
   rw[show((11+6*j+i:Nat):Int)=11+6*(j:Int)+(i:Int)by omega]at a11
   walk_at "rx"
   refine⟨.inl (by unfold Bd;decide),_,a10,?_⟩
   walk_at "rx"
   refine⟨.inl (by unfold Bd;decide),by omega,.inl (by unfold Bd;decide),.inl (by unfold Bd;decide),_,a11,?_⟩
   walk_at "rx"
   have w0:=fm (a:=xs.getD (10+6*j+i) 0) (b:=4*r) (by omega)
   have w1:=fm (a:=xs.getD (11+6*j+i) 0) (b:=4*r) (by omega)
   refine⟨.inl (by unfold Bd;decide),by omega,.inl (by unfold Bd;decide),sz2 _ _,?_,qs++[((xs.getD (10+6*j+i) 0).fmod (4*r) - 2*r,(xs.getD (11+6*j+i) 0).fmod (4*r) - 2*r)],some (.val (.int (i:Int))),by simp[ql],fun p hp=>?_,?_⟩
   ·rw[zAA,zAO,sizeLine_eq];omega
   ·rcases zAI.mp hp with q|q
    ·exact qb p q
    ·rw[zAP.mp q]
     exact⟨by unfold Bd;dsimp only;omega,by unfold Bd;dsimp only;omega⟩
   ·rw[<- zA7,zA0 (l₁:=ps++qs)]
    rfl
  ·rintro ρ' ⟨qs,v9,ql,qb,rfl⟩
   rw[zAj]at ql
   have l0:=A.l0
   have l3:=A.l3
   have zl:(ps++qs).length=ps.length+qs.length:=zAO
   have fl:=fm (a:=cell.fdiv 5) (b:=((ps++qs).length:Int)) (by omega)
   have hin:∀g:Tr,(∀p∈ps++qs,0<=gvS g (1,p.1,p.2))->0<=gvS g (1,m.1,m.2):=fun g hg=>A.inn g fun p hp=>hg p (zAu _ hp)
   have hbd:∀p∈ps++qs,WB 40 p:=fun p hp=>by
    rcases zAI.mp hp with q|q
    ·exact A.bd p q
    ·exact qb p q
   generalize ps++qs=zs at zl fl hin hbd ⊢
   obtain⟨a,ea⟩:∃a:Nat,(cell.fdiv 5).fmod (zs.length:Int)=(a:Int):=⟨((cell.fdiv 5).fmod (zs.length:Int)).toNat,by omega⟩
   have al:a<zs.length:=by omega
   have c1:PD.cutD (zs.map spD) (some (a:Int)) none=(zs.drop a).map spD:=by
    unfold PD.cutD
    rw[HT.ko,HT.mn,zAA,zCt (by omega),<- List.map_drop,zBp (by rw[zAA,zBr];omega)]
   have c2:PD.cutD (zs.map spD) none (some (a:Int))=(zs.take a).map spD:=by
    unfold PD.cutD
    rw[HT.ko,HT.mn,zCy,Nat.sub_zero,zAA,zCt (by omega),List.map_take]
   walk_at "rx"
   rw[zAA,ea,c1,c2,zAA,zAA,zAA]
   have ld:=zBr (l:=zs) (i:=a)
   have lt:=zBF (l:=zs) (i:=a)
   refine⟨CD.lit,by omega,by rw[sizeLine_eq];omega,by rw[sizeLine_eq];omega,Ls++[zs.drop a++zs.take a],some (.val (.int (j:Int))),some (.val (.int cell)),some (.val (.lst true (zs.map spD))),v9,some (.val (.int (a:Int))),by simp[hlen],fun qs' hq=>?_,?_⟩
   rotate_left
   ·have e:dw (zs.drop a++zs.take a)=.lst true ((zs.drop a).map spD++(zs.take a).map spD):=by unfold dw;rw[zA0]
    rw[zA0 (l₁:=Ls),List.map_singleton,e]
   ·rcases zAI.mp hq with q|q
    ·exact hok qs' q
    ·rw[zAP.mp q]
     have mem:∀p,p∈zs.drop a++zs.take a↔p∈zs:=fun p=>by
      rw[zAI]
      constructor
      ·rintro(q|q)
       ·exact(List.drop_sublist a zs).subset q
       ·exact(zCc a zs).subset q
      ·intro q
       rw[<- zBu a zs]at q
       exact(zAI.mp q).symm
     refine⟨by rw[zAO];omega,by rw[zAO];omega,fun p hp=>hbd p ((mem p).mp hp),fun g hg=>hin g fun p hp=>hg p ((mem p).mpr hp)⟩
 ·rintro ρ' ⟨Ls,v6,v7,v8,v9,v10,hlen,hok,rfl⟩
  rw[zAj]at hlen
  walk_at "rx"
  refine h Ls (1,m.1,m.2) ⟨by omega,by omega,fun ps pm=>(hok ps pm).1,fun ps pm=>by have:=(hok ps pm).2.1;omega,fun ps pm=>(hok ps pm).2.2.1⟩ (fun ps pm=>(hok ps pm).2.1) ⟨by show(0:Int)<1;decide,fun ps pm=>(hok ps pm).2.2.2⟩
theorem wq {f:Addr} {fd:FuncData} (F:aB K "_law_met" "_law_met" lF f fd) (C:COk K mg κ)  (h_law_is_place:Has P w K mg base "_law_is_place" 2 ["_law_found"] (dG κ)) (h_law_part:Has P w K mg base "_law_part" 3 ["_law_part_here", "_law_spots", "_law_here"] (gJ κ)) (z_isinstance:mg "isinstance" = none) (z_len:mg "len" = none) (z_list:mg "list" = none) (z_tuple:mg "tuple" = none) (z_zip:mg "zip" = none):aS P w K mg base (CX1 P w) 4 f fd ["_law_found", "_law_sets_here"] (aT K (kE κ)):=by
 refine aB.okN F kA (fun ds Q E h=>by obtain⟨_,_,rfl,_⟩:=h;rfl) fun cdv A outer s H E hr=>⟨_,(aq (bf (cN (cB (cc (dN (by rfl) z_isinstance (by rfl) z_tuple boot_tuple (.inr (.inr (.inl rfl))) (dv 0)))) (cN (aP i5 (aJ bo (by rfl) z_len boot_len (aa (dv 0) ai)) ae) (cN (aP (wg (by exact hr.units)) (ao (dv 0) ae) rT) (gM (cB (cc (aw h_law_is_place (hr.mono (by decide)) (aa (ao (dv 0) ae) ai)))))))).pt (av (aA eU)) aR) (aq (bf (cN (cB (cc (dN (by rfl) z_isinstance (by rfl) z_list boot_list (.inr (.inr (.inr (.inl rfl)))) (ao (dv 0) ae)))) (gM (aP i5 (aJ bo (by rfl) z_len boot_len (aa (ao (dv 0) ae) ai)) (aJ bo (by rfl) z_len boot_len (aa (dv 1) ai))))).pt (av (aA eU)) aR) (aq (cA PassesOwn.never rfl (xx (by rfl) z_zip (aa (ao (dv 0) ae) (aa (dv 1) ai))) (nR (n:=2) rfl (dP (br 2 kA.nd) (dP (br 3 kA.nd) l9))) (av (bf (cB (cc (aw h_law_part (hr.mono (by decide)) (aa (dv 2) (aa (dv 3) (aa (ao (dv 0) ae) ai)))))) (av (aA eU)) aR))) (av (aA eU))))),?_⟩
 rintro ds Q Ed ⟨d,Ls,rfl,h⟩
 have e0:aF ["_law_found", "_law_sets_here", "_law_part_here", "_law_spots"] [d,.lst false (Ls.map aZ)]=([some (.val (d)),some (.val (.lst false (Ls.map aZ))),none,none]:Ro):=rfl
 rw[e0];clear e0
 obtain⟨y,rs,rfl,L,py,cy,ok,lr,h⟩:=h
 have sM:PyData.strOk "meet" = true:=by decide +kernel
 have okM:okD (.str "meet"):=(BB 0 _ sM).ok
 have l8:=L.l8
 unfold mh
 walk_at "rx"
 rw[if_pos (by rfl)]
 refine⟨okM,okM,?_⟩
 rw[if_neg (by rw[iY];simp)]
 show dG κ [T3 y.1 y.2.1 y.2.2] _ _
 rw[dX]
 refine⟨py,true,rfl,?_⟩
 rw[if_neg (by simp),if_pos (by rw[zAA,zAA,lr])]
 refine PD.bZ (rs.zip Ls) (fun z=>D.tup [c6 z.1,aZ z.2]) (fun _ ρ=>∃v2 v3:Option Sl,ρ=[some (.val (.tup [.str "meet", trD y,.lst false (rs.map c6)])),some (.val (.lst false (Ls.map aZ))),v2,v3]) (fun R q=>?_) ⟨none,none,rfl⟩ ?_ ?_
 ·walk_at "rd"
  rw[zip_parts]
  exact q
 ·rintro j z ρ' hz ⟨v2,v3,rfl⟩
  have hz1:rs[j]?=some z.1/\Ls[j]?=some z.2:=by
   obtain⟨i,e⟩:=zAE.mp hz
   rw[List.getElem_zip]at e
   rw[List.length_zip,lr,Nat.min_self]at i
   rw[zAB (by omega),zAB i,<- e]
   exact⟨rfl,rfl⟩
  obtain⟨hj,_⟩:=zAE.mp hz1.2
  have pm:=zAT hz1.2
  have K:=ok j hj
  rw[zAG,hz1.2,zAG,hz1.1]at K
  walk_at "rx"
  rw[ui]
  show gJ κ [c6 z.1,.lst false (z.2.map spD),T3 y.1 y.2.1 y.2.2] _ _
  rw[gA]
  refine⟨z.1.1,z.1.2,rfl,K,L.le _ pm,L.bd _ pm,cy,true,rfl,?_⟩
  rw[if_neg (by simp)]
  exact⟨_,_,rfl⟩
 ·rintro ρ' ⟨v2,v3,rfl⟩
  walk_at "rx"
  exact h
theorem Dn {f:Addr} {fd:FuncData} (F:aB K "law" "law" fK f fd) (C:COk K mg κ)  (h_law_met:Has P w K mg base "_law_met" 4 ["_law_found", "_law_sets_here"] (kE κ)) (h_law_sets:Has P w K mg base "_law_sets" 2 ["_law_script"] (jF κ)) (h_hulls_meet:Has P w K mg base "hulls_meet" 7 ["lists"] (ip κ)) (z_list:mg "list" = none):aS P w K mg base (CX1 P w) 8 f fd ["_law_script"] (aT K oC):=by
 refine aB.okB F jQ (fun ds Q E h=>by obtain⟨ns,rfl,_⟩:=h;rfl) fun cdv A outer s H E hr=>⟨_,(jJ (aI 1 jQ.nd (aw h_law_sets (hr.mono (by decide)) (aa (dv 0) ai))) (jJ (vT 2 jQ.nd (by rfl) (by exact bW (osc:=au fK) (xs:=["_law_spots"]) (ns:=[]) (by decide +kernel)) bG.nil (bO (dv 1)) (fun _ _ _ _ _=>(CO (oY (by rfl) z_list (dv 0))))) (jJ (aI 3 jQ.nd (zh 2 (aw h_hulls_meet (hr.mono (by decide)) (aa (dv 2) ai)))) (jJ (bf (rX 2 (cN (cB (cc (aw h_law_met (hr.mono (by decide)) (aa (dv 3) (aa (dv 1) ai))))) (gM (aP (wg (by exact hr.units)) (dv 2) (dv 1)))).pt) (av (aA eU)) aR) (wZ 0 (AY (ix:=3) (iy:=4) (js:=1) (by rfl) (B4 4 jQ.nd (by rfl) (by exact bW (osc:=au fK) (xs:=["_law_part_here"]) (ns:=[]) (by decide +kernel)) bG.nil (bO (ao (dv 3) ae)) (fun _ _ _ _ _=>di) (fun _ _ _ _ _=>(bq (aa ((oY (by rfl) z_list (ao (dv 0) ae))).ped (aa ((oY (by rfl) z_list (ao (dv 0) ae))).ped ai))))) (Am 2 (bq (aa ae (aa ae ai)))) (Et (rX 2 (cB (cc (aw h_law_met (hr.mono (by decide)) (aa (aw h_hulls_meet (hr.mono (by decide)) (aa ((eZ (dv 2) cE (eE ae))).ped ai)) (aa ((eZ (dv 2) cE (eE ae))).ped ai))))))) (Dy 3) (Er 3) (jJ (aI 5 jQ.nd (aw h_hulls_meet (hr.mono (by decide)) (aa (dv 1) ai))) (Cq (aA (jK (aw h_law_met (hr.mono (by decide)) (aa (dv 5) (aa (dv 1) ai))) (jK (fF (wc (by exact hr.units)) (ao (dv 5) ae) (ao (dv 3) ae)) (nM (fF (wc (by exact hr.units)) (ao (dv 5) ae) (dv 4)))))))))))))),?_⟩
 rintro ds Q Ed ⟨ns,rfl,hl,h⟩
 have e0:aF ["_law_script", "_law_sets_here", "_law_handed", "_law_found", "_law_held", "_law_second"] [.lst false (ns.map D.int)]=([some (.val (.lst false (ns.map D.int))),none,none,none,none,none]:Ro):=rfl
 rw[e0];clear e0
 walk_at "rx"
 refine⟨hl,fun Ls X L l7 C=>?_⟩
 have l8:=L.l8
 refine⟨by rw[zAA,sizeLine_eq];omega,fun j out=>out=(Ls.take j).map (fun ps=>LI.own (ps.map spD)),rfl,?_,?_⟩
 ·rintro j d out hd rfl
  rw[zAH]at hd
  obtain⟨ps,hp,rfl⟩:=zBB.mp hd
  refine⟨true,ps.map spD,rfl,?_⟩
  show _=_
  rw[zBv,hp]
  simp
 rintro out rfl
 rw[zAA,zBs]
 have es:(Ls.map fun ps=>LI.own (ps.map spD)).map gH=Ls.map aZ:=by rw[zAo];rfl
 rw[es,iK,c7]
 refine⟨L,⟨X,C⟩,fun y rs M py cy ok lr=>?_⟩
 refine⟨wW y rs,y,rs,fW y rs,L,py,cy,ok,lr,EO false Ls,ER Ls,?_⟩
 rw[if_neg (by rw[CS];simp)]
 obtain⟨ps0,Lr,eL⟩:∃p r,Ls=p::r:=by
  cases Ls with
  |nil=>exact absurd L.l0 (by simp)
  |cons p r=>exact⟨p,r,rfl⟩
 obtain⟨r0,rr,er⟩:∃p r,rs=p::r:=by
  cases rs with
  |nil=>rw[eL]at lr;cases lr
  |cons p r=>exact⟨p,r,rfl⟩
 have ok0:kQ ps0 y r0.1 r0.2:=by
  have:=ok 0 L.l0
  rw[eL,er]at this
  exact this
 obtain⟨k0,kr,ek⟩:∃k r,r0.1=k::r:=by
  cases hk:r0.1 with
  |nil=>have:=ok0.l0;rw[hk]at this;cases this
  |cons k r=>exact⟨k,r,rfl⟩
 have em:fG y rs=.tup [.str "meet", trD y,.lst true (.tup (.lst true (((k0:Int)::kr.map fun(k:Nat)=>(k:Int)).map D.int)::[.lst true (r0.2.map D.int)])::rr.map cZ)]:=by
  rw[er]
  unfold fG
  rw[zAK]
  have:cZ r0=.tup (.lst true (((k0:Int)::kr.map fun(k:Nat)=>(k:Int)).map D.int)::[.lst true (r0.2.map D.int)]):=by
   unfold cZ pkD
   rw[ek,zAK,zAK,zAo]
   rfl
  rw[this]
 have kl:(k0::kr).length<=3:=by rw[<- ek];exact ok0.l3
 have rl:rr.length<=8:=by rw[er,zAb]at lr;omega
 show Az 3 4 1 _ _ _ _ Q [none,some (.val (.lst true (Ls.map dw))),some (.ob (.ll (Ls.map fun ps=>LI.own (ps.map spD)))),some (.val (fG y rs)),none,none]
 refine⟨.str "meet", trD y,(k0:Int),kr.map fun(k:Nat)=>(k:Int),[.lst true (r0.2.map D.int)],rr.map cZ,by rw[em];rfl,rfl,rfl,?_,?_,by decide,by decide,by decide,?_,?_,?_⟩
 ·rw[zAb,zAA]
  rw[zAb]at kl
  omega
 ·rw[zAA]
  omega
 ·intro j d hj h
  rcases j with _|_|_|_|_|_|j
  ·cases h
  ·cases h
   exact Al L
  ·cases h
  ·exact absurd rfl hj
  ·cases h
  ·cases h
  ·cases h
 ·intro j x h
  rcases j with _|_|_|_|_|_|j
  ·cases h
  ·cases h
  ·cases h
   refine⟨_,rfl,fun li hli=>?_⟩
   obtain⟨ps,_,rfl⟩:=zAQ.mp hli
   exact⟨_,rfl,mj _⟩
  ·cases h
  ·cases h
  ·cases h
  ·cases h
 rw[<- em,fW]
 refine PD.comp_map rs c6 (fun _=>true) cZ (fun R q=>?_) (by rw[sizeLine_eq];omega) (fun x hx K hK=>?_) (fun r hr' _ K hK=>?_) ?_
 ·show qR (dOp tw (jz 3) (dC (D.int 2))) [none,_,_,some (.val (.tup [.str "meet", trD y,.lst false (rs.map c6)])),none,none] R
  walk_at "rd"
  exact q
 ·walk_at "rd"
  exact hK
 ·show vQ _ [some (.val (.tup [.lst false (r.1.map fun(k:Nat)=>D.int (k:Int)),.lst false (r.2.map D.int)]))] _
  walk_at "rd"
  exact⟨sz2 _ _,hK⟩
 rw[zA8.mpr (fun _ _=>rfl)]
 show nK 2 0 _ [none,some (.val (.lst true (Ls.map dw))),some (.ob (.ll (Ls.map fun ps=>LI.own (ps.map spD)))),some (.val (mh y rs)),some (.val (.lst true (rs.map cZ))),none] _
 refine⟨Ls.map fun ps=>LI.own (ps.map spD),0,ps0.map spD,rfl,by rw[zAA,eL,zAb];unfold ixN;simp,by rw[eL];rfl,?_⟩
 have ec:PD.cutD (List.map gH ((Ls.map fun ps=>LI.own (ps.map spD)).set 0 (LI.own (ps0.map spD++[D.tup [D.int 1,D.int 1]])))) none (some 1)=[ps0++[((1:Int),(1:Int))]].map aZ:=by
  have e1:HT.sIx (List.map gH ((Ls.map fun ps=>LI.own (ps.map spD)).set 0 (LI.own (ps0.map spD++[D.tup [D.int 1,D.int 1]])))).length (List.map gH ((Ls.map fun ps=>LI.own (ps.map spD)).set 0 (LI.own (ps0.map spD++[D.tup [D.int 1,D.int 1]])))).length (some 1)=min 1 _:=HT.mn _ _ 1
  unfold PD.cutD
  rw[e1,HT.ko,zCy,Nat.sub_zero]
  rw[eL]
  have e2:aZ (ps0++[((1:Int),(1:Int))])=.lst false (ps0.map spD++[D.tup [D.int 1,D.int 1]]):=by unfold aZ;rw[zA0];rfl
  rw[zAK,zCW,zAK,zAb,zCt (by omega),List.take_succ_cons,List.take_zero,List.map_singleton,e2]
  rfl
 have pm0:ps0∈Ls:=by rw[eL];simp
 have L1:LsOk [ps0++[((1:Int),(1:Int))]]:=by
  refine⟨by simp,by simp,fun ps pm=>?_,fun ps pm=>?_,fun ps pm p hp=>?_⟩
  ·rw[zAP.mp pm];simp
  ·rw[zAP.mp pm,zAO]
   have:=l7 ps0 pm0
   simp
   omega
  ·rw[zAP.mp pm]at hp
   rcases zAI.mp hp with q|q
   ·exact L.bd ps0 pm0 p q
   ·rw[zAP.mp q]
    exact⟨by unfold Bd;decide,by unfold Bd;decide⟩
 have C1:oO [ps0++[((1:Int),(1:Int))]] X:=⟨C.1,fun ps pm g hg=>C.2 ps0 pm0 g fun p hp=>hg p (by rw[zAP.mp pm];exact zAu _ hp)⟩
 walk_at "rx"
 rw[ec,iK,c7]
 refine⟨sz2 _ _,by have:=l7 ps0 pm0;rw[zAA,sizeLine_eq];omega,L1,⟨X,C1⟩,fun y1 rs1 M1 p1 c1 o1 l1=>?_⟩
 rw[fW,iq]
 refine⟨y1,rs1,rfl,L1,p1,c1,o1,l1,true,rfl,rfl,_,_,rfl,rfl,wX Ls,by rw[bI,dJ _ pV];rfl,fun zs'=>?_⟩
 simp only[zAb,List.length_nil,zA6,Nat.reduceAdd,Ea]
 walk_at "rx"
 refine⟨L,⟨X,C⟩,fun y2 rs2 M2 p2 c2 o2 l2=>?_⟩
 obtain⟨e1,e2⟩:=M.one M2
 subst e1 e2
 unfold fG
 walk_at "rx"
 refine⟨y,rs,rfl,L,p2,c2,o2,l2,?_⟩
 try refine⟨true,rfl,?_⟩
 try rw[if_pos rfl]
 refine⟨(ml y).ok,(ml y).ok,?_⟩
 rw[if_pos (iY _)]
 refine⟨uQ rs,uQ rs,?_⟩
 rw[iY]
 exact h
end
theorem all_mk {l:PySem.W.OpenLaw} {w:World} {K:PySem.W.Frag} {h:Heap} {mg:Str->Option Value} {fa f41 c_PlaneError c_NoPlace c_TooFew:Addr} (X:K.In h) (G:h.Ns mainGlobals mg) (hfa:mg "law" = some (.ref fa))
  {od41 an41:Option Addr} {sl41:Array (Option Value)} {oc41 kV41 dc41 pm41 cd41 ct41:Value}
  (e0:FL K "sign" tH)
  (e1:FL K "common_divisor" fi)
  (e2:FL K "lowest" ky)
  (e3:FL K "reduced" lJ)
  (e4:FL K "picks" mq)
  (e5:FL K "value" pN)
  (e6:FL K "side" tG)
  (e7:FL K "crossed" lE)
  (e8:FL K "facing" m8)
  (e9:FL K "place" pL)
  (e10:FL K "place_of" kz)
  (e11:FL K "swing" pM)
  (e12:FL K "arrow" pJ)
  (e13:FL K "turn" tI)
  (e14:FL K "back" tF)
  (e15:FL K "left_of" lH)
  (e16:FL K "chain" pK)
  (e17:FL K "hull" oo)
  (e18:FL K "thin_bounds" ic)
  (e19:FL K "bounds" ku)
  (e20:FL K "length" m9)
  (e21:FL K "are_opposite" gh)
  (e22:FL K "balance_of_two" fh)
  (e23:FL K "balance_of_three" cJ)
  (e24:FL K "balance" lD)
  (e25:FL K "mixture" gS)
  (e26:FL K "place_between" fL)
  (e27:FL K "clipped" jj)
  (e28:FL K "common" m7)
  (e29:FL K "owned_gauges" eI)
  (e30:FL K "hulls_meet" dU)
  (e31:FL K "_law_whole" jD)
  (e32:FL K "_law_cell_at" h9)
  (e33:FL K "_law_divisor" ib)
  (e34:FL K "_law_stream" i7)
  (e35:FL K "_law_is_place" gn)
  (e36:FL K "_law_numbers" eW)
  (e37:FL K "_law_part" kv)
  (e38:FL K "_law_about" jC)
  (e39:FL K "_law_sets" kx)
  (e40:FL K "_law_met" lF)
  (a41:PySem.W.nsIn K mainGlobals "law" = some (some (.ref f41))) (l41:K.lookup f41=some ⟨oc41,od41,.func (PySem.W.fnOf "law" "law" (eB fK) (cu fK) (au fK) .none kV41 dc41 pm41 an41 cd41 ct41),sl41⟩) (c41:PySem.W.codeIn K cd41 "law" = true) (k41:PySem.W.keepIn K (.ref f41)=true)
  (mg_PlaneError:PySem.W.nsIn K mainGlobals "PlaneError" = some (some (.ref c_PlaneError)))
  (mg_NoPlace:PySem.W.nsIn K mainGlobals "NoPlace" = some (some (.ref c_NoPlace)))
  (mg_TooFew:PySem.W.nsIn K mainGlobals "TooFew" = some (some (.ref c_TooFew)))
  (z_abs:PySem.W.nsIn K mainGlobals "abs" = some none) (z_bool:PySem.W.nsIn K mainGlobals "bool" = some none) (z_enumerate:PySem.W.nsIn K mainGlobals "enumerate" = some none) (z_int:PySem.W.nsIn K mainGlobals "int" = some none) (z_isinstance:PySem.W.nsIn K mainGlobals "isinstance" = some none) (z_len:PySem.W.nsIn K mainGlobals "len" = some none) (z_list:PySem.W.nsIn K mainGlobals "list" = some none) (z_max:PySem.W.nsIn K mainGlobals "max" = some none) (z_min:PySem.W.nsIn K mainGlobals "min" = some none) (z_range:PySem.W.nsIn K mainGlobals "range" = some none) (z_set:PySem.W.nsIn K mainGlobals "set" = some none) (z_sorted:PySem.W.nsIn K mainGlobals "sorted" = some none) (z_sum:PySem.W.nsIn K mainGlobals "sum" = some none) (z_tuple:PySem.W.nsIn K mainGlobals "tuple" = some none) (z_zip:PySem.W.nsIn K mainGlobals "zip" = some none) :
  ∃ fd:FuncData,(∀(s:Shared) (v:Value),BindsTo s fd ⟨[v],[]⟩ [("_law_script", v)])/\∀base:Heap,K.In base->base.Ns mainGlobals mg->aS l.prog w K mg base (CX1 l.prog w) 8 fa fd ["_law_script"] (aT K oC):=by
 have e:=hfa.symm.trans (PySem.W.mg_of X G a41)
 cases e
 have z_abs:=PySem.W.mg_none_of X G z_abs
 have z_bool:=PySem.W.mg_none_of X G z_bool
 have z_enumerate:=PySem.W.mg_none_of X G z_enumerate
 have z_int:=PySem.W.mg_none_of X G z_int
 have z_isinstance:=PySem.W.mg_none_of X G z_isinstance
 have z_len:=PySem.W.mg_none_of X G z_len
 have z_list:=PySem.W.mg_none_of X G z_list
 have z_max:=PySem.W.mg_none_of X G z_max
 have z_min:=PySem.W.mg_none_of X G z_min
 have z_range:=PySem.W.mg_none_of X G z_range
 have z_set:=PySem.W.mg_none_of X G z_set
 have z_sorted:=PySem.W.mg_none_of X G z_sorted
 have z_sum:=PySem.W.mg_none_of X G z_sum
 have z_tuple:=PySem.W.mg_none_of X G z_tuple
 have z_zip:=PySem.W.mg_none_of X G z_zip
 have C:COk K mg ⟨c_PlaneError,c_NoPlace,c_TooFew⟩:=⟨PySem.W.mg_of X G mg_PlaneError,PySem.W.mg_of X G mg_NoPlace,PySem.W.mg_of X G mg_TooFew⟩
 refine⟨PySem.W.fnOf "law" "law" (eB fK) (cu fK) (au fK) .none kV41 dc41 pm41 an41 cd41 ct41,fun s v=>.of_eq rfl,fun base _ _=>?_⟩
 have h_sign:=e0.has l.prog w base X G fun F=>BG F C
 have h_common_divisor:=e1.has l.prog w base X G fun F=>my F C z_abs
 have h_lowest:=e2.has l.prog w base X G fun F=>xP F C h_common_divisor
 have h_reduced:=e3.has l.prog w base X G fun F=>wx F C h_common_divisor
 have h_picks:=e4.has l.prog w base X G fun F=>zP F C z_range
 have h_value:=e5.has l.prog w base X G fun F=>zS F C
 have h_side:=e6.has l.prog w base X G fun F=>BF F C h_sign h_value
 have h_crossed:=e7.has l.prog w base X G fun F=>wo F C
 have h_facing:=e8.has l.prog w base X G fun F=>xN F C
 have h_place:=e9.has l.prog w base X G fun F=>zQ F C h_reduced
 have h_place_of:=e10.has l.prog w base X G fun F=>uf F C
 have h_swing:=e11.has l.prog w base X G fun F=>zR F C
 have h_arrow:=e12.has l.prog w base X G fun F=>zN F C
 have h_turn:=e13.has l.prog w base X G fun F=>BH F C
 have h_back:=e14.has l.prog w base X G fun F=>BC F C
 have h_left_of:=e15.has l.prog w base X G fun F=>wt F C
 have h_chain:=e16.has l.prog w base X G fun F=>zO F C h_swing z_len
 have h_hull:=e17.has l.prog w base X G fun F=>BE F C h_chain h_place_of z_len z_set z_sorted
 have h_thin_bounds:=e18.has l.prog w base X G fun F=>pD F C h_arrow h_back h_facing h_left_of
 have h_bounds:=e19.has l.prog w base X G fun F=>xK F C h_crossed h_thin_bounds z_len z_range
 have h_length:=e20.has l.prog w base X G fun F=>xO F C z_abs
 have h_are_opposite:=e21.has l.prog w base X G fun F=>n5 F C h_turn
 have h_balance_of_two:=e22.has l.prog w base X G fun F=>mw F C h_are_opposite h_length h_lowest
 have h_balance_of_three:=e23.has l.prog w base X G fun F=>kP F C h_lowest h_turn z_max z_min
 have h_balance:=e24.has l.prog w base X G fun F=>wj F C h_balance_of_three h_balance_of_two h_length z_len
 have h_mixture:=e25.has l.prog w base X G fun F=>wu F C h_arrow h_balance h_picks h_place_of z_len
 have h_place_between:=e26.has l.prog w base X G fun F=>mV F C h_place h_value
 have h_clipped:=e27.has l.prog w base X G fun F=>wk F C h_place_between h_side z_len z_range
 have h_common:=e28.has l.prog w base X G fun F=>xM F C h_clipped
 have h_owned_gauges:=e29.has l.prog w base X G fun F=>n8 F C h_bounds h_hull z_enumerate
 have h_hulls_meet:=e30.has l.prog w base X G fun F=>qM F C h_common h_hull h_mixture h_owned_gauges z_len
 have h_law_whole:=e31.has l.prog w base X G fun F=>tm F C z_bool z_int z_isinstance
 have h_law_cell_at:=e32.has l.prog w base X G fun F=>pA F C z_len
 have h_law_divisor:=e33.has l.prog w base X G fun F=>pB F C z_abs
 have h_law_stream:=e34.has l.prog w base X G fun F=>qN F C z_range
 have h_law_is_place:=e35.has l.prog w base X G fun F=>n6 F C h_law_divisor h_law_whole z_isinstance z_len z_tuple
 have h_law_numbers:=e36.has l.prog w base X G fun F=>pC F C h_law_whole z_isinstance z_len z_list
 have h_law_part:=e37.has l.prog w base X G fun F=>ud F C h_law_divisor h_law_numbers z_isinstance z_len z_range z_sum z_tuple z_zip
 have h_law_about:=e38.has l.prog w base X G fun F=>tj F C
 have h_law_sets:=e39.has l.prog w base X G fun F=>ue F C h_law_about h_law_cell_at h_law_stream z_len z_range
 have h_law_met:=e40.has l.prog w base X G fun F=>wq F C h_law_is_place h_law_part z_isinstance z_len z_list z_tuple z_zip
 exact Dn (uC (st:=fK) l41 c41 k41) C h_law_met h_law_sets h_hulls_meet z_list
end LW
theorem PySem.W.Fast.te11167349629340827589:True:=trivial
def PySem.W.Fast.tw7661717462396449177:PySem.Program:=PySem.Challenge.pw_halvecut_k41_hulls_about_a_place
theorem PySem.W.Fast.te7661717462396449177:PySem.Challenge.pw_halvecut_k41_hulls_about_a_place=PySem.W.Fast.tw7661717462396449177:=rfl
def PySem.W.Fast.tw6422072394243393947:=()
def PySem.W.Fast.tw3146105567045079008:=()
def PySem.W.Fast.tw18255958595189302037:=()
def PySem.W.Fast.tw5280761332594676544:=()
def PySem.W.Fast.tw8697093843016897997:=()
def PySem.W.Fast.tw7006198542303846793:=()
def PySem.W.Fast.tw11872600498134002594:=()
def PySem.W.Fast.tw7161955602987920151:=()
def PySem.W.Fast.tw12379621656603378371:=()
def PySem.W.Fast.tw17442921731654840824:=()
def PySem.W.Fast.tw9578225727226224006:=()
def PySem.W.Fast.tw6364350309551593946:=()
def PySem.W.Fast.tw15824904916619415845:=()
def PySem.W.Fast.tw9005410661353840389:=()
def PySem.W.Fast.tw10695213623344181654:=()
def PySem.W.Fast.tw13378463594292560959:=()
def PySem.W.Fast.tw12451282111118352881:=()
def PySem.W.Fast.tw4315748895242286589:=()
def PySem.W.Fast.tw13495934417906728986:=()
def PySem.W.Fast.tw10259933595946563268:=()
def PySem.W.Fast.tw17766170735235772286:=()
def PySem.W.Fast.tw2488177033118802064:=()
def PySem.W.Fast.tw7836736731537531246:=()
def PySem.W.Fast.tw15853892188449917186:=()
def PySem.W.Fast.tw9264591532620768030:=()
def PySem.W.Fast.tw6575551073945619509:=()
def PySem.W.Fast.tw16906386001481198565:=()
def PySem.W.Fast.tw9762951214353622277:=()
def PySem.W.Fast.tw14030284603908954396:=()
def PySem.W.Fast.tw11509188368822340572:=()
def PySem.W.Fast.tw797263149747395028:=()
def PySem.W.Fast.tw6304523744802545253:=()
def PySem.W.Fast.tw2055766109322810030:=()
def PySem.W.Fast.tw4628518111161103493:=()
def PySem.W.Fast.tw7366662739540527752:=()
def PySem.W.Fast.tw12357080973848685892:=()
def PySem.W.Fast.tw11888166722578662775:=()
def PySem.W.Fast.tw18190387164967654843:=()
def PySem.W.Fast.tw6154836599214732072:=()
def PySem.W.Fast.tw6177383192372068519:=()
def PySem.W.Fast.tw2650193191810396958:=()
def PySem.W.Fast.tw9421003761147861689:=()
def PySem.W.Fast.tw3667833040953700922:=()
def PySem.W.Fast.tw10628996074861841923:=()
def PySem.W.Fast.tw6671827330683602681:=()
def PySem.W.Fast.tw11299903912354454576:=()
def PySem.W.Fast.tw16287536957911874524:=()
def PySem.W.Fast.tw647504449498134318:=()
def PySem.W.Fast.tw11295924868473695331:=()
def PySem.W.Fast.tw13826615350517397446:=()
def PySem.W.Fast.tw2250570754993876710:=()
def PySem.W.Fast.tw3009056805042762321:=()
def PySem.W.Fast.tw5782593162540138121:=()
def PySem.W.Fast.tw15246450072003668600:=()
def PySem.W.Fast.tw1261699086599265950:=()
def PySem.W.Fast.tw17312970009850280992:=()
def PySem.W.Fast.tw8590221653703601410:=()
def PySem.W.Fast.tw5130488167933232949:=()
def PySem.W.Fast.tw8480422713001339715:=()
def PySem.W.Fast.tw16183708250558161650:=()
def PySem.W.Fast.tw12257697211992500657:=()
def PySem.W.Fast.tw9013543015658623151:=()
def PySem.W.Fast.tw14927777611961661195:=()
def PySem.W.Fast.tw4190520817068385737:=()
def PySem.W.Fast.tw17310109220338224794:=()
def PySem.W.Fast.tw10799902092802309718:=()
def PySem.W.Fast.tw10026952551226328080:=()
def PySem.W.Fast.tw5749861649870358587:=()
def PySem.W.Fast.tw3832035264859719241:=()
def PySem.W.Fast.tw15251296261638401329:=()
def PySem.W.Fast.tw9010821356603367062:=()
def PySem.W.Fast.tw12887602130873838399:=()
def PySem.W.Fast.tw15151339274405040722:=()
def PySem.W.Fast.tw8377702744909528573:=()
def PySem.W.Fast.tw12597525799020548945:=()
def PySem.W.Fast.tw4384552033026322148:=()
def PySem.W.Fast.tw9186894061238792170:=()
def PySem.W.Fast.tw5371643864531462016:=()
def PySem.W.Fast.tw3980697950312834258:=()
def PySem.W.Fast.tw14465928008531690749:=()
def PySem.W.Fast.tw13199657478083999544:=()
def PySem.W.Fast.tw13070510125102440005:=()
def PySem.W.Fast.tw7445387781908262288:=()
def PySem.W.Fast.tw7019744982529398835:=()
def PySem.W.Fast.tw8858711780444020487:=()
def PySem.W.Fast.tw5309904362030430622:=()
def PySem.W.Fast.tw304249507762897374:=()
def PySem.W.Fast.tw339718605490101057:=()
def PySem.W.Fast.tw6578656701270674257:=()
def PySem.W.Fast.tw7638400659642583947:=()
def PySem.W.Fast.tw3917093138916413159:=()
def PySem.W.Fast.tw13625019519705805710:=()
def PySem.W.Fast.tw17133963257437809915:=()
def PySem.W.Fast.tw13112486288758056824:=()
def PySem.W.Fast.tw10233369826378651708:=()
def PySem.W.Fast.tw17606977552662209109:=()
def PySem.W.Fast.tw12761273161349417858:=()
def PySem.W.Fast.tw18252463113792219943:=()
def PySem.W.Fast.tw45656556223492951:=()
def PySem.W.Fast.tw2743628368186139567:=()
def PySem.W.Fast.tw12255605560498128619:=()
def PySem.W.Fast.tw3192887133900587913:=()
open PySem PySem.W PyProof.Rows
set_option maxRecDepth 100000 in
set_option maxHeartbeats 0 in
theorem PySem.Challenge.cw_halvecut_k41_hulls_about_a_place_holds : PySem.Challenge.rw_halvecut_k41_hulls_about_a_place.Holds := by
 w_on; o_law; k_head; (case hw => w_witness2)
 k_fill
 refine PD.walk (l := PySem.Challenge.rw_halvecut_k41_hulls_about_a_place) (k := 8) (x := "_law_script") rfl rfl ⟨rfl, by decide, by decide⟩ (fun w h Y => PySem.W.kIn_of Y) (fun w => by kernel_rfl) ?F
 case F =>
  intro w mg fa h KX G hmg
  refine' LW.all_mk KX G hmg ?e0 ?e1 ?e2 ?e3 ?e4 ?e5 ?e6 ?e7 ?e8 ?e9 ?e10 ?e11 ?e12 ?e13 ?e14 ?e15 ?e16 ?e17 ?e18 ?e19 ?e20 ?e21 ?e22 ?e23 ?e24 ?e25 ?e26 ?e27 ?e28 ?e29 ?e30 ?e31 ?e32 ?e33 ?e34 ?e35 ?e36 ?e37 ?e38 ?e39 ?e40 ?a41 ?l41 ?c41 ?k41 ?mg_PlaneError ?mg_NoPlace ?mg_TooFew ?z_abs ?z_bool ?z_enumerate ?z_int ?z_isinstance ?z_len ?z_list ?z_max ?z_min ?z_range ?z_set ?z_sorted ?z_sum ?z_tuple ?z_zip
  all_goals try (refine' PD.FL.mk ?a ?l ?c ?k; (case a => k_is); (case l => k_is); (case c => k_is); (case k => k_is))
  (case a41 => k_is)
  (case l41 => k_is)
  (case c41 => k_is)
  (case k41 => k_is)
  (case mg_PlaneError => k_is)
  (case mg_NoPlace => k_is)
  (case mg_TooFew => k_is)
  (case z_abs => k_is)
  (case z_bool => k_is)
  (case z_enumerate => k_is)
  (case z_int => k_is)
  (case z_isinstance => k_is)
  (case z_len => k_is)
  (case z_list => k_is)
  (case z_max => k_is)
  (case z_min => k_is)
  (case z_range => k_is)
  (case z_set => k_is)
  (case z_sorted => k_is)
  (case z_sum => k_is)
  (case z_tuple => k_is)
  (case z_zip => k_is)
