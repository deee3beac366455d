import PyProof.Rows.All
import Wide.All
import OpenK.AllK
import Wide.FinOn
import Lean
import PyProof.EqAt
import PyProof.EqKinds
import PyProof.TupleCall
import PySem.Challenge.RW_halvecut_k42_whole_meet_or_bar
set_option compiler.extract_closed false
set_option bootstrap.genMatcherCode false
set_option tactic.hygienic false
set_option Elab.async false
set_option linter.all false set_option autoImplicit true set_option relaxedAutoImplicit true
set_option maxRecDepth 100000
noncomputable section
abbrev yaa:=PySem.Value->PySem.Shared->Prop
abbrev yab:=List (PySem.Addr×PySem.Obj)
abbrev yac:=PySem.W.Frag
abbrev yad:=List PySem.Value
abbrev yae:=List PySem.Addr
abbrev yaf:=List Int
abbrev yag:=List Nat
abbrev yah:=List PySem.Str
abbrev yai:=List PySem.Expr
abbrev yaj:=Nat->Option PySem.Addr
abbrev yak:=Bool->PySem.Addr->Prop
abbrev yal:=List PySem.Stmt
abbrev yam:=PySem.Str->Option PySem.Value
abbrev yan:=Option PySem.Value
abbrev yao:=Array PySem.Value
abbrev yap:=Array Nat
abbrev yaq:=Option Int
def Mh:=@PySem.wpAny_bind
def Mq:=@List.length_map
def M5:=@List.getElem?_eq_getElem
def Mj:=@if_neg
def Mt:=@PySem.wpAny_pure
def Nk:=@List.getElem?_eq_some_iff
def Ml:=@if_pos
def MD:=@List.mem_cons
def Nz:=@List.getD_eq_getElem?_getD
def Nd:=@PySem.Heap.get?_push_of_some
def Ni:=@List.mem_cons_of_mem
def MN:=@List.map_cons
def Nj:=@List.getElem?_map
def NF:=@List.mem_of_getElem?
def MV:=@PySem.Heap.lt_size
def MS:=@Nat.le_refl
def M4:=@List.mem_map
def Nu:=@List.mem_append
def Ov:=@List.getElem?_set_ne
def Od:=@List.length_append
def Of:=@Nat.lt_of_lt_of_le
def Oy:=@List.mem_singleton
def Og:=@List.size_toArray
def O9:=@List.getElem?_set_self
def OI:=@PySem.Heap.get?_push_size
def OB:=@List.mem_cons_self
def OO:=@List.length_range'
def NG:=@Nat.ne_of_lt
def Pf:=@Bool.false_eq_true
def OC:=@List.map_append
def NY:=@List.map_map
def Po:=@Array.length_toList
def OA:=@Int.mul_nonneg
def P4:=@List.mem_append_right
def OX:=@List.not_mem_nil
def N8:=@Int.le_of_lt
def N9:=@Nat.zero_le
def Pm:=@Nat.mod_eq_of_lt
def PQ:=@List.cons_append
def RI:=@List.getElem?_append_right
def Pp:=@Option.some.inj
def RJ:=@Array.getElem?_eq_getElem
def RK:=@List.getElem?_append_left
def P5:=@List.length_cons
def QJ:=@List.filter_eq_self
def QB:=@Bool.false_ne_true
def OY:=@Int.mul_comm
def QK:=@List.pairwise_cons
def Pa:=@Nat.le_trans
def Rt:=@Array.getElem?_toList
def SK:=@Int.mul_neg_of_neg_of_pos
def QL:=@Nat.lt_succ_self
def QU:=@List.lookup_cons
def Ur:=@Int.nonneg_of_mul_nonneg_right
def RV:=@List.mem_append_left
def QV:=@List.nil_append
def Qb:=@List.sum_cons
def Sr:=@List.getElem?_eq_none
def Rf:=@List.getElem_mem
def SM:=@List.zipWith_cons_cons
def SN:=@Option.map_eq_some_iff
def Qv:=@PySem.wpAny_holding
def RW:=@List.length_reverse
def PR:=@Int.le_refl
def TG:=@List.pairwise_iff_getElem
def Ti:=@PySem.Heap.get?_update_other
def OP:=@PySem.boot_len
def RL:=@List.getElem_map
def RX:=@List.mem_range'_1
def RY:=@of_decide_eq_true
def Qc:=@Int.neg_mul
def Qe:=@PySem.wpAny_field
def RM:=@Int.mul_eq_zero
def RZ:=@List.length_take
def QM:=@Nat.zero_add
def P6:=@PySem.wpAny_mono
def Ss:=@List.append_assoc
def TH:=@PySem.Heap.get?_update_self
def UK:=@List.drop_eq_getElem_cons
def UL:=@List.ne_nil_of_length_pos
def R0:=@List.nodup_cons
def Ru:=@Nat.lt_irrefl
def SO:=@PySem.wpAny_newObj_type
def QN:=@Int.one_mul
def TJ:=@List.length_dropLast
def Rg:=@Nat.succ_pos
def SQ:=@List.cons.injEq
def Su:=@List.length_set
def R3:=@decide_eq_true
def TL:=@List.getElem_of_mem
def Vs:=@Array.getElem?_eq_some_iff
def SR:=@List.take_length
def SU:=@PySem.wpAny_call_entry
def UM:=@PySem.wpAny_callSpecial?_slot
def Xa:=@Int.mul_nonpos_of_nonpos_of_nonneg
def Tj:=@PySem.wpAny_setState_of
def V5:=@List.eq_nil_of_length_eq_zero
def UN:=@List.take_of_length_le
def Tn:=@List.append_nil
def R4:=@Prod.mk.injEq
def SV:=@decide_eq_false
def RN:=@Nat.ne_of_gt
def RO:=@Nat.pow_succ
def Vt:=@PySem.wpAny_comprehension_free
def QW:=@Int.not_le
def Us:=@List.map_congr_left
def SX:=@PySem.wpAny_seqItems
def Sv:=@List.map_nil
def RP:=@Int.mul_pos
def V6:=@List.sublist_append_right
def UO:=@List.getElem_range'
def X1:=@Int.mul_nonneg_of_nonpos_of_nonpos
def SY:=@Int.lt_irrefl
def Sw:=@Int.zero_mul
def Xb:=@List.dropLast_concat_getLast
def Vu:=@List.length_singleton
def Sx:=@Nat.le_of_lt
def Ut:=@Bool.and_eq_true
def Vv:=@Nat.pow_le_pow_right
def Uu:=@Nat.succ_lt_succ
def TM:=@PySem.Heap.size_push
def V7:=@List.singleton_sublist
def UP:=@Nat.lt_succ_of_lt
def Vw:=@PySem.Heap.SameBut.update
def QX:=@Prod.ext
def Xc:=@Int.mul_neg_of_pos_of_neg
def Xd:=@Int.mul_pos_of_neg_of_neg
def Uv:=@List.find?_cons
def X2:=@List.getLast?_eq_some_getLast
def To:=@Int.add_zero
def UQ:=@List.all_eq_true
def UR:=@List.mem_reverse
def US:=@Nat.le_of_not_lt
def Vx:=@PySem.wpAny_Call_Name_kw
def Sy:=@Nat.not_lt
def Xe:=@List.getElem?_replicate
def Vy:=@Int.lt_trichotomy
def UT:=@PySem.codeAny_builtin
def Vz:=@Nat.le_add_right
def Xf:=@List.mem_iff_getElem?
def Xg:=@List.take_append_drop
def UU:=@List.take_succ
def V8:=@Nat.lt_of_le_of_lt
def V9:=@PySem.wpAny_setField_rec
def X3:=@Classical.byContradiction
def X4:=@List.getLast?_eq_none_iff
def X5:=@List.getLastD_eq_getLast?
def Uw:=@Int.dvd_refl
def Tp:=@Int.not_lt
def VA:=@List.of_mem_zip
def Tq:=@Nat.mod_lt
def Wa:=@List.reverse_cons
def Wb:=@Nat.lt_trichotomy
def Wc:=@Int.dvd_mul_left
def VB:=@Int.natAbs_mul
def We:=@Option.getD_some
def Wf:=@PySem.wpAny_isInstance
def X6:=@Array.getElem?_eq_none
def UW:=@Int.mul_zero
def Xh:=@List.append_of_mem
def Xi:=@List.zip_cons_cons
def UX:=@Nat.lt_or_ge
def Xj:=@Nat.lt_or_gt_of_ne
def X7:=@Int.eq_of_sub_eq_zero
def X8:=@List.length_replicate
def X9:=@List.zipWith_nil_left
def Wg:=@PySem.wpAny_passesOwn
def VC:=@Int.dvd_trans
def VD:=@PySem.wpAny_attempt
def Xk:=@Int.toNat_natCast
def Xl:=@Nat.add_mod_right
def Xm:=@Nat.lt_of_succ_lt
def ZW:=@List.exists_mem_of_ne_nil
def ZX:=@List.getElem?_zip_eq_some
def Ya:=@List.pairwise_append
def Yb:=@Nat.mul_le_mul_right
def ZY:=@List.filterMap_cons_some
def Xn:=@List.length_drop
def Xo:=@List.map_fst_zip
def VE:=@List.sum_nil
def Xp:=@PySem.wpAny_execs_cons
def Yc:=@List.filterMap_cons
def ZZ:=@PySem.Heap.IsTupleIter.typeIs
def Z0:=@List.filter_cons_of_neg
def Z1:=@List.filter_cons_of_pos
def Wh:=@Int.mul_assoc
def Wi:=@PySem.wpAny_standAt
def Yd:=@Array.append_assoc
def Xq:=@Bool.eq_iff_iff
def Xr:=@Int.dvd_coe_gcd
def Xs:=@Int.le_antisymm
def Xt:=@Int.mul_ne_zero
def Xu:=@List.length_zip
def Ye:=@List.mem_filterMap
def Xv:=@PySem.wpAny_specialOf
def Xw:=@PySem.wpAny_updateSeq
def Z2:=@Int.fmod_nonneg_of_pos
def Z3:=@List.getElem?_dropLast
def VF:=@Nat.one_mul
def zDN:=@Int.mul_le_mul_of_nonneg_left
def Yf:=@bne_self_eq_false
def Yg:=@PySem.wpAny_assign_Name
def Z4:=@Int.natAbs_dvd_natAbs
def Z5:=@PySem.builtinLookup_eq_fast
def Z6:=@PySem.exec_Assign_Name_used
def Xx:=@PySem.wpAny_setField
def Yh:=@Int.gcd_mul_left
def Z7:=@Int.le_of_neg_le_neg
def Z8:=@List.getElem?_of_mem
def Yi:=@List.mem_flatMap
def Yj:=@PySem.wpAny_askSetting
def zDZ:=@Array.perm_iff_toList_perm
def Xy:=@PySem.plainId_quiet
def Z9:=@List.length_pos_iff
def zDc:=@Int.eq_of_mul_eq_mul_left
def Yk:=@Int.mul_dvd_mul
def zDe:=@List.getLast?_eq_getElem?
def Yl:=@List.mem_filter
def Ym:=@Nat.not_lt_zero
def Yn:=@Nat.two_pow_pos
def zDi:=@Array.forIn_toList
def zDj:=@List.filter_append
def zDk:=@List.set_cons_succ
def Xz:=@Nat.sub_self
def Yo:=@List.forIn_nil
def Yp:=@List.mem_range
namespace L2
open PySem PySem.Spec PyProof.Rows
abbrev Key:=Sum Int Str
def mM:Key->Value->Bool
 |.inl k,v=>Value.isInt k v
 |.inr x,v=>Value.isStrOf x v
def LN(w:World):Key->Int
 |.inl k=>hashInt k
 |.inr x=>hashStr w x
def b9:∀{k:Key} {v:Value},mM k v=true->(∃i t,k=Sum.inl i/\v=Value.int i t)∨(∃x t,k=Sum.inr x/\v=Value.str x t)
 |.inl i,v,h=>by obtain⟨t,e⟩:=Value.isInt_shape (k:=i) (v:=v) h;exact .inl ⟨i,t,rfl,e⟩
 |.inr x,v,h=>by obtain⟨t,e⟩:=Value.isStrOf_shape (x:=x) (v:=v) h;exact .inr ⟨x,t,rfl,e⟩
def CJ(i:Int)(t:Tok):mM (.inl i) (.int i t)=true:=by simp[mM,Value.isInt]
def CK(x:Str)(t:Tok):mM (.inr x) (.str x t)=true:=by simp[mM,Value.isStrOf]
def JV(a b:Int):decide ((Sum.inl a:Key)=Sum.inl b)=(a==b):=by
 by_cases e:a=b
 ·subst e;simp
 ·have h:¬(Sum.inl a:Key)=Sum.inl b:=λq=>e (Sum.inl.inj q)
  rw[SV h];exact(beq_eq_false_iff_ne.mpr e).symm
def JY(a b:Str):decide ((Sum.inr a:Key)=Sum.inr b)=decide (a=b):=by
 by_cases e:a=b
 ·subst e;simp
 ·have h:¬(Sum.inr a:Key)=Sum.inr b:=λq=>e (Sum.inr.inj q)
  rw[SV h,SV e]
def JW(a:Int)(b:Str):decide ((Sum.inl a:Key)=Sum.inr b)=false:=SV (λq=>nomatch q)
def JX(a:Str)(b:Int):decide ((Sum.inr a:Key)=Sum.inl b)=false:=SV (λq=>nomatch q)
def bZ(prog:Program)(w:World):PySem.KeyKind prog w Key where
 is:=mM
 hash:=LN w
 inj:=λv a b b a=>by
  rcases b9 b with⟨i,t,rfl,rfl⟩| ⟨x,t,rfl,rfl⟩
  ·rcases b9 a with⟨j,u,rfl,e⟩| ⟨y,u,rfl,e⟩
   ·injection e with e1 _;rw[e1]
   ·exact nomatch e
  ·rcases b9 a with⟨j,u,rfl,e⟩| ⟨y,u,rfl,e⟩
   ·exact nomatch e
   ·injection e with e1 _;rw[e1]
 byValue:=λk v h=>by
  rcases b9 h with⟨i,t,rfl,rfl⟩| ⟨x,t,rfl,rfl⟩<;>rfl
 pyHash:=λa h=>by
  rcases b9 a with⟨i,t,rfl,rfl⟩| ⟨x,t,rfl,rfl⟩
  ·exact wpAny_pyHash_int h
  ·exact wpAny_pyHash_str h
 eqBool:=λb a h=>by
  rcases b9 b with⟨i,t,rfl,rfl⟩| ⟨x,t,rfl,rfl⟩
  ·rcases b9 a with⟨j,u,rfl,rfl⟩| ⟨y,u,rfl,rfl⟩
   ·rw[JV]at h;exact wpAny_eqBool_int h
   ·rw[JW]at h;exact SeqAt.EqAt.int_str i t y u _ _ _ _ h
  ·rcases b9 a with⟨j,u,rfl,rfl⟩| ⟨y,u,rfl,rfl⟩
   ·rw[JX]at h;exact SeqAt.EqAt.str_int x t j u _ _ _ _ h
   ·rw[JY]at h;exact wpAny_eqBool_str h
 «strs»:=λk x t v h=>by
  rcases b9 h with⟨i,u,rfl,e⟩| ⟨y,u,rfl,e⟩
  ·exact nomatch e
  ·injection e with e1 _;subst e1;cases v<;>rfl
def yL(prog:Program)(w:World)(i:Int)(t:Tok):(bZ prog w).is (.inl i) (.int i t)=true:=CJ i t
def yM(prog:Program)(w:World)(x:Str)(t:Tok):(bZ prog w).is (.inr x) (.str x t)=true:=CK x t
inductive V where
 |MU|bl (b:Bool)|int (i:Int)|str (x:Str)|TN (b:Array UInt8)|Yq (b:UInt64)|ref (a:Addr)|ty (n:String)
 deriving DecidableEq
abbrev yar:=List V
def RelV:V->Value->Prop
 |.MU,u=>u=Value.none
 |.bl b,u=>u=Value.bool b
 |.int i,u=>∃t,u=Value.int i t
 |.str x,u=>∃t,u=Value.str x t
 |.TN b,u=>∃t,u=Value.bytes b t
 |.Yq b,u=>∃t,u=Value.float b t
 |.ref a,u=>u=Value.ref a
 |.ty n,u=>u=Value.type n
abbrev Vals:yar->yad->Prop:=Paired RelV
theorem Vals.length(r:Vals xs us):xs.length=us.length:=Paired.length r
theorem Vals.get:∀{xs:yar} {a:yad} {i:Nat} {x:V},Vals xs a->xs[i]?=some x->∃u,a[i]?=some u/\RelV x u
 |_,_,_,_,.nil,e=>by simp at e
 |_,_,0,_,.cons r _,e=>by simp at e;subst e;exact⟨_,rfl,r⟩
 |_,_,i+1,x,.cons _ t,e=>by obtain⟨u,b,a⟩:=Vals.get (i:=i) (x:=x) t (by simpa using e);exact⟨u,by simpa using b,a⟩
theorem Vals.append:∀{xs ys:yar} {b a:yad},Vals xs b->Vals ys a->Vals (xs++ys) (b++a)
 |_,_,_,_,.nil,s=>s
 |_,_,_,_,.cons r t,s=>.cons r (Vals.append t s)
theorem Vals.take:∀{xs:yar} {a:yad} (n:Nat),Vals xs a->Vals (xs.take n) (a.take n)
 |_,_,0,_=>.nil
 |_,_,_+1,.nil=>.nil
 |_,_,n+1,.cons r t=>.cons r (Vals.take n t)
theorem Vals.drop:∀{xs:yar} {a:yad} (n:Nat),Vals xs a->Vals (xs.drop n) (a.drop n)
 |_,_,0,r=>r
 |_,_,_+1,.nil=>.nil
 |_,_,n+1,.cons _ t=>Vals.drop n t
def Vals.none_of:∀{xs:yar} {a:yad} {i:Nat},Vals xs a->xs[i]?=none->a[i]?=none:=fun {xs a i} r e=>by have h1:=r.length;have h2:xs.length<=i:=List.getElem?_eq_none_iff.mp e;exact List.getElem?_eq_none_iff.mpr (by lia)
def jz:Option V->yan->Prop
 |some v,some u=>RelV v u
 |none,none=>True
 |_,_=>False
def KV{a:Type}:List (a×V)->List (a×Value)->Prop:=Paired λ(p:a×V) (q:a×Value)=>p.1=q.1/\RelV p.2 q.2
def kV:Key->V
 |.inl i=>.int i
 |.inr x=>.str x
inductive HO where
 |lst (xs:yar)
 |tup (xs:yar)
 |dK (kvs:List (Key×V))|dT (kvs:List (List Key×V))
 |set (S:Int->Bool) (n:Nat)
 |ins (C dx:Addr) (fs:List (Str×V))
 |own (x:Addr)
 |xd (fs:List (Str×V))
 |met (f x:Addr)
 |rng (lo hi:Int)
 |frz (o:Obj) (u:HO)
 |Rh (ps:yao)
 |ext (φ:Heap->Prop)
abbrev Hp:=Addr->Option HO
def upd(H:Hp)(a:Addr)(o:HO):Hp:=λb=>if b=a then some o else H b
def aI:upd H a o a=some o:=by unfold upd;rw[Ml rfl]
def aw{a b:Addr}(h:b≠a):upd H a o b=H b:=by unfold upd;rw[Mj h]
def gT{H:Hp}{o u:HO}(h:H a=some o)(h':H b=some u)(d:o≠u):a≠b:=by intro e;subst e;rw[h]at h';exact d (Pp h')
def aY{H:Hp}{o:HO}(h:H a=some o)(h':H b=none):a≠b:=by intro e;subst e;rw[h]at h';cases h'
section
variable(P:Program)(w:World)
def bN(H:Hp)(h:Heap)(a:Addr):HO->Prop
 |.lst c=>c.length<=sizeLine/\∃(b:yad) (n:Nat),Vals c b/\h.get? a=some {cls:=.type "list", data:=.seq b.toArray n}
 |.tup c=>c.length<=sizeLine/\∃b:yad,Vals c b/\IsTup h a b.toArray
 |.dK b=>b.length<=sizeLine/\(a==sysModules)=false/\∃d,KV b d/\h.DictOf (bZ P w) a d
 |.dT b=>b.length<=sizeLine/\(a==sysModules)=false/\∃c:List (List Key×Addr×Value),
   Paired (λ(p:List Key×V) (q:List Key×Addr×Value)=>p.1=q.1/\H q.2.1=some (.tup (p.1.map kV))/\RelV p.2 q.2.2) b c ∧
   ∃ o b d,h.get? a=some o/\o.ExactDict/\o.data=.dict b d/\b.toList=c.map (entryOfKey (tupleKind (bZ P w)))/\(c.map (·.1)).Nodup
 |.set S n=>h.SetOf (intKind P w) a S n
 |.ins C d c=>H d=some (.own a)/\c.length<=1000/\d≠a/\h.get? a=some (PySem.W.instObj C d) ∧
   ∃ b,h.Ns1 d b/\(∀f,jz (c.lookup f) (b f))/\PySem.Within b (c.map (·.1))
 |.own _=>∃o,h.get? a=some o
 |.xd c=>∃b,h.Ns1 a b/\∀f,jz (c.lookup f) (b f)
 |.rng lo b=>∃t u v,h.get? a=some {cls:=.type "range", data:=.fields #[.int lo t,.int b u,.int 1 v]}
 |.frz o u=>h.get? a=some o/\bN H h a u
 |.Rh b=>h.get? a=some {cls:=.none,data:=.fields b}
 |.met f x=>h.get? a=some (PySem.W.methodObj (.ref f) (.ref x))
 |.ext b=>b h/\(∃o,h.get? a=some o)/\∀d c:Heap,b d->(∀o,d.get? a=some o->c.get? a=some o)->b c
def Ox(H:Hp)(h:Heap):Prop:=∀a o,H a=some o->bN P w H h a o
end
section
variable{P:Program}{w:World}{H H':Hp}{h h':Heap}{a:Addr}{o:HO}
theorem bN.lt(x:bN P w H h a o):a<h.objs.size:=by
 cases o with
 |lst b=>obtain⟨_,_,_,_,e⟩:=x;exact MV e
 |tup b=>obtain⟨_,_,_,p⟩:=x;exact p.lt
 |dK b=>obtain⟨_,_,_,_,o,_,_,e,_⟩:=x;exact MV e
 |dT b=>obtain⟨_,_,_,_,o,_,_,e,_⟩:=x;exact MV e
 |set S n=>obtain⟨o,_,_,_,e,_⟩:=x;exact MV e
 |ins C dx b=>obtain⟨_,_,_,e,_⟩:=x;exact MV e
 |own y=>obtain⟨_,e⟩:=x;exact MV e
 |xd b=>obtain⟨_,⟨_,_,_,e,_⟩,_⟩:=x;exact MV e
 |rng lo hi=>obtain⟨_,_,_,e⟩:=x;exact MV e
 |frz ob u=>obtain⟨e,_⟩:=x;exact MV e
 |Rh ps=>exact MV (show h.get? a=some _ from x)
 |met f y=>exact MV (show h.get? a=some _ from x)
 |ext φ=>obtain⟨_,⟨_,e⟩,_⟩:=x;exact MV e
theorem Paired.Wj{d c:Type}{F G:d->c->Prop}:∀{l₁:List d} {l₂:List c},Paired F l₁ l₂->(∀a b,F a b->G a b)->Paired G l₁ l₂
 |_,_,.nil,_=>.nil
 |_,_,.cons r t,f=>.cons (f _ _ r) (Paired.Wj t f)
def bN.Qf(x:bN P w H h a o)(k:∀b u,(b=a∨H b=some (.own a))->h.get? b=some u->h'.get? b=some u)
  (m:∀b,H b=some (.own a)->H' b=some (.own a)) (j:∀b xs,H b=some (.tup xs)->H' b=some (.tup xs)):bN P w H' h' a o:=by
 induction o with
 |lst xs=>obtain⟨z,d,n,r,e⟩:=x;exact⟨z,d,n,r,k _ _ (.inl rfl) e⟩
 |tup xs=>obtain⟨z,d,r,b,e,c⟩:=x;exact⟨z,d,r,b,k _ _ (.inl rfl) e,c⟩
 |dK d=>obtain⟨z,y,i,r,b,f,g,e,c⟩:=x;exact⟨z,y,i,r,b,f,g,k _ _ (.inl rfl) e,c⟩
 |dT d =>
  obtain⟨z,y,xs,r,b,f,g,e,c⟩:=x;exact⟨z,y,xs,Paired.Wj r λp q z=>⟨z.1,j _ _ z.2.1,z.2.2⟩,b,f,g,k _ _ (.inl rfl) e,c⟩
 |set S n=>obtain⟨b,f,g,t,e,c⟩:=x;exact⟨b,f,g,t,k _ _ (.inl rfl) e,c⟩
 |ins C dx n =>
  obtain⟨d,z,l,e,j,⟨i,f,g,s,c⟩,r⟩:=x;exact⟨m _ d,z,l,k _ _ (.inl rfl) e,j,⟨i,f,g,k _ _ (.inr d) s,c⟩,r⟩
 |own y=>obtain⟨b,e⟩:=x;exact⟨b,k _ _ (.inl rfl) e⟩
 |xd n=>obtain⟨j,⟨i,f,g,e,c⟩,r⟩:=x;exact⟨j,⟨i,f,g,k _ _ (.inl rfl) e,c⟩,r⟩
 |rng lo hi=>obtain⟨t,u,v,e⟩:=x;exact⟨t,u,v,k _ _ (.inl rfl) e⟩
 |frz b u ih=>obtain⟨e,q⟩:=x;exact⟨k _ _ (.inl rfl) e,ih q⟩
 |Rh b =>
  have e:h.get? a=some {cls:=.none,data:=.fields b}:=x;show h'.get? a=some {cls:=.none,data:=.fields b};exact k a _ (.inl rfl) e
 |met f y =>
  have e:h.get? a=some (PySem.W.methodObj (.ref f) (.ref y)):=x;show h'.get? a=some (PySem.W.methodObj (.ref f) (.ref y));exact k a _ (.inl rfl) e
 |ext φ=>obtain⟨p,⟨o,e⟩,st⟩:=x;exact⟨st _ _ p λo q=>k _ _ (.inl rfl) q,⟨o,k _ _ (.inl rfl) e⟩,st⟩
theorem Ox.lt(x:Ox P w H h)(e:H a=some o):a<h.objs.size:=(x a o e).lt
def Ox.fresh(x:Ox P w H h)(e:h.objs.size<=a):H a=none:=by
 cases q:H a with
 |none=>rfl
 |some u=>exact absurd (Of (x.lt q) e) (Ru _)
def Ox.kept(x:Ox P w H h)(k:∀b u,h.get? b=some u->h'.get? b=some u):Ox P w H h':=λa o e =>
 (x a o e).Qf (λb u _ q=>k b u q) (λ_ q=>q) λ_ _ q=>q
def Ox.laid(x:Ox P w H h)(k:∀b u,h.get? b=some u->h'.get? b=some u)(f:h.objs.size<=a)(c:bN P w (upd H a o) h' a o):Ox P w (upd H a o) h':=λb u e=>by
 have d:=x.fresh f;by_cases f:b=a
 ·subst f;rw[aI]at e;cases e;exact c
 ·rw[aw f]at e;exact(x b u e).Qf (λc v _ q=>k c v q) (λc q=>by rw[aw (aY q d)];exact q) λc xs q=>by rw[aw (aY q d)];exact q
end
def Rd(H:Hp)(a:Addr)(u:HO):Prop:=H a=some u∨∃ o,H a=some (.frz o u)
def Rd.ok(r:Rd H a u)(x:Ox P w H h):bN P w H h a u:=by
 rcases r with r|⟨o,r⟩
 ·exact x a u r
 ·obtain⟨_,q⟩:=x a _ r;exact q
def Yr:Option HO->Prop
 |some (.lst _)=>True
 |some (.dK _)=>True
 |some (.dT _)=>True
 |some (.set _ _)=>True
 |some (.ins _ _ _)=>True
 |some (.ext _)=>True
 |_=>False
section
variable{P:Program}{w:World}{H:Hp}{h h':Heap}{x e:Addr}{o':HO}
def Ox.write(m:Ox P w H h)(f:Yr (H x))(j:e=x∨H e=some (.own x))(k:∀b u,b≠e->h.get? b=some u->h'.get? b=some u)(n:∃u,h'.get? e=some u)
  (i:bN P w (upd H x o') h' x o'):Ox P w (upd H x o') h':=λb u q=>by
 have l:∀c y,H c=some (.own y)->c≠x:=λc y r z=>by subst z;rw[r]at f;exact f
 have a:∀c d,H c=some (.tup d)->c≠x:=λc d r z=>by subst z;rw[r]at f;exact f
 by_cases g:b=x
 ·subst g;rw[aI]at q;cases q;exact i
 ·rw[aw g]at q;by_cases i:b=e
  ·have f:H b=some (.own x):=by
    rcases j with z|z
    ·exact absurd (i.trans z) g
    ·rw[i];exact z
   rw[q]at f;cases f;obtain⟨v,f⟩:=n;exact⟨v,by rw[i];exact f⟩
  ·refine(m b u q).Qf (λc v f r=>k c v ?_ r) (λc r=>by rw[aw (l c b r)];exact r) λc d r=>by rw[aw (a c d r)];exact r
   rcases f with rfl|f
   ·exact i
   ·rintro rfl;rcases j with z|z
    ·exact l c b f z
    ·rw[f]at z;cases z;exact g rfl
end
structure Un(fs ex:yae)(H H':Hp)(h h':Heap):Prop where
 keep:∀b o,h.get? b=some o->H b=none->b∉fs->b∉ex->h'.get? b=some o
 slot:∀b o,h.get? b=some o->H b=none->b∈fs->b∉ex->∃sl,h'.get? b=some {o with slots:=sl}
 free:∀b o,h.get? b=some o->H b=none->b∉ex->H' b=none
 there:∀b o,h.get? b=some o->b∉ex->∃o',h'.get? b=some o'
 QY:∀b xs,H b=some (.tup xs)->H' b=some (.tup xs)
 QC:∀b o u,H b=some (.frz o u)->H' b=some (.frz o u)
 QZ:∀b ps,H b=some (.Rh ps)->∃more,H' b=some (.Rh (ps++more))
section
variable{fs fs' ex ex':yae}{H H1 H2:Hp}{h h1 h2 h':Heap}{a x e:Addr}{o:HO}
def Un.any(u:Un fs ex H H1 h h1){ob:Obj}(q:h.get? b=some ob)(n:H b=none)(c:b∉ex):∃d,h1.get? b=some {ob with slots:=d}:=by
 by_cases d:b∈fs
 ·exact u.slot b ob q n d c
 ·exact⟨ob.slots,u.keep b ob q n d c⟩
def Un.kept(k:∀b u,h.get? b=some u->h'.get? b=some u):Un fs ex H H h h' :=
 ⟨λb c q _ _ _=>k b c q,λb c q _ _ _=>⟨c.slots,k b c q⟩,λ_ _ _ n _=>n,λb c q _=>⟨c,k b c q⟩,λ_ _ q=>q,λ_ _ _ q=>q,λ_ ps q=>⟨#[],by rw[q];simp⟩⟩
def Un.refl:Un fs ex H H h h:=Un.kept λ_ _ q=>q
def Un.laid(k:∀b u,h.get? b=some u->h'.get? b=some u)(d:h.objs.size<=a)(c:H a=none):Un fs ex H (upd H a o) h h' where
 keep:=λb u q _ _ _=>k b u q
 slot:=λb u q _ _ _=>⟨u.slots,k b u q⟩
 free:=λb u q n _=>by rw[aw (NG (Of (MV q) d))];exact n
 there:=λb u q _=>⟨u,k b u q⟩
 QY:=λb d q=>by rw[aw (aY q c)];exact q
 QC:=λb u d q=>by rw[aw (aY q c)];exact q
 QZ:=λb ps q=>⟨#[],by rw[aw (aY q c),q];simp⟩
def Un.write(c:Yr (H x))(d:e=x∨H e=some (.own x))(k:∀b u,b≠e->h.get? b=some u->h'.get? b=some u)(j:∃u,h'.get? e=some u):Un fs ex H (upd H x o) h h':=by
 have f:∀b,H b=none->b≠x:=λb n z=>by subst z;rw[n]at c;exact c
 have g:∀b,H b=none->b≠e:=λb n z=>by
  subst z;rcases d with r|r
  ·exact f b n r
  ·rw[n]at r;cases r
 have d:∀b u,H b=some u->¬Yr (some u)->b≠x:=λb u q i z=>by subst z;rw[q]at c;exact i c
 refine⟨λb u q n _ _=>k b u (g b n) q,λb u q n _ _=>⟨u.slots,k b u (g b n) q⟩,λb u q n _=>by rw[aw (f b n)];exact n,λb u q _=>?_,
  λb c q=>by rw[aw (d b _ q λz=>z)];exact q,λb u c q=>by rw[aw (d b _ q λz=>z)];exact q,λb ps q=>⟨#[],by rw[aw (d b _ q λz=>z),q];simp⟩⟩
 by_cases c:b=e
 ·subst c;exact j
 ·exact⟨u,k b u c q⟩
end
noncomputable def trk(h:Heap)(H:Hp):yae:=(List.range h.objs.size).filter λa=>(H a).isSome
def mK(h:Heap)(H:Hp):Heap:=PySem.W.hideAll h (trk h H)
def Cu(h:Heap)(H:Hp):(mK h H).objs.size=h.objs.size:=PySem.W.hideAll_size _ _
def EJ{h:Heap}{H:Hp}{o:Obj}(e:h.get? b=some o)(n:H b=none):(mK h H).get? b=some o :=
 PySem.W.hideAll_get _ e λa=>by have q:(H b).isSome=true:=(Yl.mp a).2;rw[n]at q;simp at q
def Hn{o:Obj}(e:(mK h H).get? b=some o):h.get? b=some o/\H b=none:=by
 have a:h.get? b=some o:=PySem.W.of_hideAll (trk h H) e;refine⟨a,?_⟩;cases q:H b with
 |none=>rfl
 |some x =>
  have c:b∈trk h H:=Yl.mpr ⟨Yp.mpr (MV a),by simp[q]⟩;have z:(mK h H).get? b=none:=PySem.W.hideAll_none (trk h H) c;rw[z]at e;cases e
noncomputable def Gy(g h:Heap)(L:Addr):yab:=(List.range h.objs.size).filterMap λa=>if a=L∨(g.get? a).isSome=true then none else(h.get? a).map λo=>(a,o)
def rest(g h:Heap)(L d:Addr):yab:=(Gy g h L).filter λp=>decide (p.1≠d)
structure Mod(K:yac)(mg:yam)(base:Heap):Prop where
 Yt:K.In base
 glob:base.Ns mainGlobals mg
 blt:∃mb,base.Ns builtinsNs mb/\∀x:Str,x ≠ "__name__" -> mb x=bootBuiltins x
 nolimit:base.NoLimit
structure Cx where
 prog:Program
 w:World
 K:yac
 mg:yam
 base:Heap
 A:Around
 N:yah
 ME:Shared
 MR:Hp
 env:Env
 outer:List Env
 stack:List Env
 ex:yae
 fn:Str->Bool
 calm:Bool
 pn:yab
 xe:yaa
noncomputable def Qw(l:List Env):yae:=l.filterMap (·.frame)
abbrev Cx.fs(X:Cx):yae:=Qw X.outer
def S1(a:Scope)(x:Str):Prop:=a.names.lookup x=some .local∨a.names.lookup x=some .cell∨a.names.lookup x=some .free
def Loc(a:Scope)(x:Str):Prop:=a.names.lookup x=some .local∨a.names.lookup x=some .cell
def Look(env:Env)(h:Heap)(m:yam)(x:Str)(u:Value):Prop :=
 (env.kindOf x=some .local/\m x=some u)∨((env.kindOf x=some .cell∨env.kindOf x=some .free)/\∃c,env.cells.lookup x=some c/\h.IsCell c (some u))
structure Cx.Ok(X:Cx):Prop where
 mod:Mod X.K X.mg X.base
 kind:X.env.scope.kind=.function
 glob:X.env.globals=mainGlobals
 blt:X.env.builtins=builtinsNs
 above:X.ME.heap.objs.size<=X.env.locals
 inj:∀x y c,X.env.cells.lookup x=some c->X.env.cells.lookup y=some c->x=y
 has:∀x,(X.env.kindOf x=some .cell∨X.env.kindOf x=some .free)->∃c,X.env.cells.lookup x=some c
 Rv:∀x c,X.fn x=true->X.env.cells.lookup x=some c->X.ME.heap.objs.size<=c
 hd:X.calm=true->X.A.handled=none
 frames:X.A.frames=some X.stack
 stk:X.stack=X.outer∨(X.stack=X.env::X.outer/\X.env.frame=some X.env.locals)
 exf:∀b∈X.ex,b≠X.env.locals/\∀x c,X.env.cells.lookup x=some c->c≠b
 bs:∀b o,X.base.get? b=some o->X.ME.heap.get? b=some o/\X.MR b=none
 VG:X.base.objs.size<=X.ME.heap.objs.size
 R5:∀b o,X.base.get? b=some o->b∉X.ex
 UY:∀b∈X.ex,b∉X.fs
 PT:X.ME.heap.FunFrames X.base X.outer
 Wl:∀b∈X.fs,X.MR b=none
structure Inv(X:Cx)(pins:yab)(σ:List (Option V))(H:Hp)(s:Shared):Prop where
 ok:X.Ok
 os:s.os=X.ME.os
 bare:AllBare s.gens
 base:Un X.fs X.ex X.MR H X.ME.heap s.heap
 loc:∃m,s.heap.Ns X.env.locals m/\∀(i:Nat) (x:Str) (v:V),X.N[i]?=some x->σ[i]?=some (some v)->S1 X.env.scope x->∃u,RelV v u/\Look X.env s.heap m x u
 cell:∀x c,X.env.cells.lookup x=some c->∃v,s.heap.IsCell c v
 free:H X.env.locals=none
 OD:∀x c,X.env.cells.lookup x=some c->H c=none
 pin:∀p∈X.pn++pins,s.heap.get? p.1=some p.2/\H p.1=none/\p.1≠X.env.locals/\p.1∉X.fs/\∀v,p.2.data ≠ .cell v
 MF:Ox X.prog X.w H s.heap
 len:σ.length=X.N.length
section
variable{X:Cx}{pins:yab}{σ:List (Option V)}{H H':Hp}{s:Shared}{h':Heap}
def Cx.Ok.nofr(a:X.Ok){o:Obj}(e:X.base.get? b=some o):b∉X.fs:=λb=>by have:=(a.PT.mem b).1;rw[e]at this;cases this
theorem Inv.bs(I:Inv X pins σ H s):∀b o,X.base.get? b=some o->s.heap.get? b=some o/\H b=none:=λb o e =>
 ⟨I.base.keep b o (I.ok.bs b o e).1 (I.ok.bs b o e).2 (I.ok.nofr e) (I.ok.R5 b o e),I.base.free b o (I.ok.bs b o e).1 (I.ok.bs b o e).2 (I.ok.R5 b o e)⟩
def Inv.bk(I:Inv X pins σ H s):∀b o,X.base.get? b=some o->s.heap.get? b=some o:=λb o e=>(I.bs b o e).1
theorem Inv.mod(I:Inv X pins σ H s):Mod X.K X.mg X.base:=I.ok.mod
def Inv.Rw(I:Inv X pins σ H s):X.K.In s.heap:=I.ok.mod.Yt.keeps I.bk
theorem Inv.lt(I:Inv X pins σ H s):X.env.locals<s.heap.objs.size:=let ⟨_,hn,_⟩:=I.loc;hn.lt
def Inv.sz(I:Inv X pins σ H s):X.ME.heap.objs.size<=s.heap.objs.size:=Pa I.ok.above (Sx I.lt)
def Inv.nofs(I:Inv X pins σ H s){a:Addr}(h:s.heap.objs.size<=a):a∉X.fs:=λb=>by obtain⟨_,o,a,_⟩:=I.ok.PT.mem b;exact absurd (Of (MV a) (Pa I.sz h)) (Ru _)
def Inv.Wm(I:Inv X pins σ H s):∀x c,X.env.cells.lookup x=some c->c≠X.env.locals:=λx c e z=>by obtain⟨v,o,a,b⟩:=I.cell x c e;obtain⟨m,⟨o',es,ep,c,d,_⟩,_⟩:=I.loc;rw[z,c]at a;cases a;rw[d]at b;cases b
theorem Inv.PT(I:Inv X pins σ H s):s.heap.FunFrames X.base X.outer:=by
 have d:∀(l:List Env),(∀b∈Qw l,b∈X.fs)->X.ME.heap.FunFrames X.base l->s.heap.FunFrames X.base l:=by
  intro l
  induction l with
  |nil=>intro _ _;trivial
  |cons env r ih =>
   intro f c;obtain⟨j,⟨L,o,a,i,h,k⟩,g⟩:=c;have c:L∈X.fs:=f L (by unfold Qw;rw[Yc,a];exact OB);obtain⟨sl,e⟩:=I.base.slot L o h (I.ok.Wl L c) c λz=>I.ok.UY L z c
   exact⟨j,⟨L,_,a,i,e,k⟩,ih (λb c=>f b (by unfold Qw;rw[Yc,a];exact Ni _ c)) g⟩
 exact d X.outer (λ_ c=>c) I.ok.PT
theorem Inv.stack(I:Inv X pins σ H s):s.heap.FunFrames X.base X.stack:=by
 rcases I.ok.stk with e|⟨e,b⟩
 ·rw[e];exact I.PT
 ·rw[e];obtain⟨m,a,_⟩:=I.loc;refine .cons (by rw[I.ok.kind];decide) b a ?_ I.PT;exact Heap.get?_none_of_le (Pa I.ok.VG I.ok.above)
def Inv.Pq(I:Inv X pins σ H s):∀b∈Qw X.stack,b∈X.env.locals::X.fs:=λb a=>by
 rcases I.ok.stk with e|⟨e,b⟩
 ·rw[e]at a;exact Ni _ a
 ·rw[e]at a;unfold Qw at a;rw[Yc,b]at a;exact a
def Inv.P7(I:Inv X pins σ H s):∀b∈Qw X.stack,H b=none:=λb hb=>by
 rcases MD.mp (I.Pq b hb)with e|hb
 ·rw[e];exact I.free
 ·obtain⟨_,o,a,_⟩:=I.ok.PT.mem hb;exact I.base.free b o a (I.ok.Wl b hb) λz=>I.ok.UY b z hb
def Inv.step{t':Nat}{d':Drawn}{ch:yae}(I:Inv X pins σ H s)
  (y:∀b∈ch,(b∈X.ex∨X.ME.heap.objs.size<=b)/\b≠X.env.locals/\(∀x c,X.env.cells.lookup x=some c->c≠b)/\∀p∈X.pn++pins,p.1≠b)
  (g:∀b o,b≠X.env.locals->b∉X.fs->b∉ch->s.heap.get? b=some o->H b=none->h'.get? b=some o)
  (i:∀b o,b≠X.env.locals->b∈X.fs->b∉ch->s.heap.get? b=some o->H b=none->∃j,h'.get? b=some {o with slots:=j}) (f:∀b o,b∉ch->s.heap.get? b=some o->H b=none->H' b=none)
  (k:∀b o,b∉ch->s.heap.get? b=some o->∃r,h'.get? b=some r)
  (E:∀b xs,H b=some (.tup xs)->H' b=some (.tup xs)) (J:∀b o u,H b=some (.frz o u)->H' b=some (.frz o u)) (G:∀b ps,H b=some (.Rh ps)->∃a,H' b=some (.Rh (ps++a)))
  (ns:∀m,s.heap.Ns X.env.locals m->h'.Ns X.env.locals m) (L:Ox X.prog X.w H' h') (B:AllBare g') :
  Inv X pins σ H' {s with heap:=h',gens:=g',drawn:=d',toks:=t'}:=by
 have w:∀b o,X.ME.heap.get? b=some o->b≠X.env.locals:=λb o e=>NG (Of (MV e) I.ok.above)
 have h:∀b o,X.ME.heap.get? b=some o->b∉X.ex->b∉ch:=λb o e a l=>by
  rcases(y b l).1 with z|z
  ·exact a z
  ·exact absurd (Of (MV e) z) (Ru _)
 have d:∀x c,X.env.cells.lookup x=some c->∀v,s.heap.IsCell c v->h'.IsCell c v:=λx c e v ⟨o,t,C⟩=>by
  have A:c∉ch:=λz=>(y c z).2.2.1 x c e rfl
  by_cases n:c∈X.fs
  ·obtain⟨j,q⟩:=i c o (I.Wm x c e) n A t (I.OD x c e);exact⟨_,q,C⟩
  ·exact⟨o,g c o (I.Wm x c e) n A t (I.OD x c e),C⟩
 refine⟨I.ok,I.os,B,⟨λb o e n l a=>?_,λb o e n l a=>?_,λb o e n a=>?_,λb o e a=>?_,λb xs e=>E b xs (I.base.QY b xs e),λb o xs e=>J b o xs (I.base.QC b o xs e),λb ps e=>?_⟩,?_,λx c e=>?_,?_,λx c e=>?_,λp E=>?_,L,I.len⟩
 ·exact g b o (w b o e) l (h b o e a) (I.base.keep b o e n l a) (I.base.free b o e n a)
 ·obtain⟨j,j⟩:=I.base.slot b o e n l a;obtain⟨B,q⟩:=i b _ (w b o e) l (h b o e a) j (I.base.free b o e n a);exact⟨B,q⟩
 ·obtain⟨r,j⟩:=I.base.there b o e a;exact f b r (h b o e a) j (I.base.free b o e n a)
 ·obtain⟨r,j⟩:=I.base.there b o e a;exact k b r (h b o e a) j
 ·obtain⟨h,j⟩:=I.base.QZ b ps e;obtain⟨a,q⟩:=G b _ j;exact⟨h++a,by rw[q,Yd]⟩
 ·obtain⟨m,a,b⟩:=I.loc;refine⟨m,ns m a,λi x v j q a=>?_⟩;obtain⟨u,r,l⟩:=b i x v j q a;refine⟨u,r,?_⟩;rcases l with l|⟨k,c,e,z⟩
  ·exact .inl l
  ·exact .inr ⟨k,c,e,d x c e _ z⟩
 ·obtain⟨v,z⟩:=I.cell x c e;exact⟨v,d x c e v z⟩
 ·obtain⟨m,⟨o,_,_,t,_⟩,_⟩:=I.loc;exact f _ o (λz=>(y _ z).2.1 rfl) t I.free
 ·obtain⟨v,o,t,C⟩:=I.cell x c e;exact f c o (λz=>(y c z).2.2.1 x c e rfl) t (I.OD x c e)
 ·obtain⟨e,n,b,a,d⟩:=I.pin p E;have A:p.1∉ch:=λz=>(y p.1 z).2.2.2 p E rfl
  exact⟨g p.1 p.2 b a A e n,f p.1 p.2 A e n,b,a,d⟩
def Inv.un{t':Nat}(I:Inv X pins σ H s)(u:Un X.fs [] H H' s.heap h')(h:Ox X.prog X.w H' h'):Inv X pins σ H' {s with heap:=h',toks:=t'}:=by
 obtain⟨m,⟨o,es,ep,c,r⟩,_⟩:=id I.loc;obtain⟨sl,f⟩:=u.any c I.free (by simp);exact I.step (g':=s.gens) (d':=s.drawn) (ch:=[]) (λ_ z=>nomatch z) (λb o _ a _ e n=>u.keep b o e n a (by simp)) (λb o _ a _ e n=>u.slot b o e n a (by simp)) (λb o _ e n=>u.free b o e n (by simp)) (λb o _ e=>u.there b o e (by simp)) u.QY u.QC u.QZ (λm' e=>by obtain⟨o',g,a,b,d⟩:=e;rw[c]at b;cases b;exact⟨_,g,a,f,d⟩) h I.bare
def Inv.call{t':Nat}{d':Drawn}(I:Inv X pins σ H s)(u:Un (Qw X.stack) ch H H' s.heap h')(i:Ox X.prog X.w H' h')(g:AllBare g')
  (a:∀b∈ch,(b∈X.ex∨X.ME.heap.objs.size<=b)/\b≠X.env.locals/\(∀x c,X.env.cells.lookup x=some c->c≠b)/\∀p∈X.pn++pins,p.1≠b) :
  Inv X pins σ H' {s with heap:=h',gens:=g',drawn:=d',toks:=t'}:=by
 obtain⟨m,⟨o,es,ep,d,r⟩,_⟩:=id I.loc;obtain⟨sl,c⟩:=u.any d I.free λz=>(a _ z).2.1 rfl
 exact I.step (ch:=ch) a (λb o c f a e n=>u.keep b o e n (λz=>(MD.mp (I.Pq b z)).elim c f) a) (λb o _ _ a e n=>u.any e n a) (λb o a e n=>u.free b o e n a) (λb o a e=>u.there b o e a) u.QY u.QC u.QZ (λm' f=>by obtain⟨o',h,a,b,e⟩:=f;rw[d]at b;cases b;exact⟨_,h,a,c,e⟩) i g
def Inv.turned{t':Nat}{a:Addr}(I:Inv X pins σ H s)(k:∀b o,b≠a->s.heap.get? b=some o->h'.get? b=some o)(d:H a=none)(g:a≠X.env.locals)
  (q:a∈X.ex∨X.ME.heap.objs.size<=a) (l:∀x c,X.env.cells.lookup x=some c->c≠a) (j:∀p∈X.pn++pins,p.1≠a):Inv X pins σ H {s with heap:=h',toks:=t'}:=by
 have f:∀b u,H b=some u->b≠a:=λb u e z=>by rw[z,d]at e;cases e
 refine I.step (g':=s.gens) (d':=s.drawn) (ch:=[a]) (λb i=>?_) (λb o _ _ d e _=>k b o (λz=>d (by simp[z])) e) (λb o _ _ d e _=>⟨o.slots,k b o (λz=>d (by simp[z])) e⟩) (λ_ _ _ _ n=>n)
  (λb o d e=>⟨o,k b o (λz=>d (by simp[z])) e⟩) (λ_ _ e=>e) (λ_ _ _ e=>e) (λb ps e=>⟨#[],by rw[e];simp⟩) (λm h=>?_) (λb u e=>?_) I.bare
 ·have e:b=a:=by simpa using i
  subst e;exact⟨q,g,l,j⟩
 ·obtain⟨o,i,j,a,r⟩:=h;exact⟨o,i,j,k _ o (Ne.symm g) a,r⟩
 ·refine(I.MF b u e).Qf (λc v d q=>k c v ?_ q) (λ_ q=>q) λ_ _ q=>q
  rcases d with z|z
  ·rw[z];exact f b u e
  ·exact f c _ z
def Inv.tok(I:Inv X pins σ H s)(t:Nat):Inv X pins σ H {s with toks:=t}:=I.un (h':=s.heap) (t':=t) Un.refl I.MF
theorem Inv.kept{t':Nat}(I:Inv X pins σ H s)(k:∀b u,s.heap.get? b=some u->h'.get? b=some u):Inv X pins σ H {s with heap:=h',toks:=t'}:=I.un (Un.kept k) (I.MF.kept k)
theorem Inv.laid{a:Addr}{t':Nat}(I:Inv X pins σ H s)(k:∀b u,s.heap.get? b=some u->h'.get? b=some u)(d:s.heap.objs.size<=a)(c:bN X.prog X.w (upd H a o) h' a o) :
  Inv X pins σ (upd H a o) {s with heap:=h',toks:=t'}:=I.un (Un.laid k d (I.MF.fresh d)) (I.MF.laid k d c)
theorem Inv.write{e:Addr}{t':Nat}(I:Inv X pins σ H s)(c:Yr (H x))(d:e=x∨H e=some (.own x))(k:∀b u,b≠e->s.heap.get? b=some u->h'.get? b=some u)(f:∃u,h'.get? e=some u)
  (a:bN X.prog X.w (upd H x o) h' x o):Inv X pins σ (upd H x o) {s with heap:=h',toks:=t'}:=I.un (Un.write c d k f) (I.MF.write c d k f a)
def Inv.Sz{a:yab}(I:Inv X pins σ H s)(h:∀p∈a,s.heap.get? p.1=some p.2/\H p.1=none/\p.1≠X.env.locals/\p.1∉X.fs/\∀v,p.2.data ≠ .cell v):Inv X a σ H s :=
 ⟨I.ok,I.os,I.bare,I.base,I.loc,I.cell,I.free,I.OD,λp a=>(Nu.mp a).elim (λz=>I.pin p (RV _ z)) (h p),I.MF,I.len⟩
def xI{N:yah}(c:N.Nodup){i j:Nat}{x:Str}(a:N[i]?=some x)(b:N[j]?=some x):i=j:=by obtain⟨h1,d⟩:=Nk.mp a;obtain⟨h2,a⟩:=Nk.mp b;exact(List.getElem_inj c).mp (d.trans a.symm)
def ju{i:Nat}{x:Str}{Q:Unit->Shared->Prop}(I:Inv X pins σ H s)(hN:X.N.Nodup)(J:X.N[i]?=some x)(t:Loc X.env.scope x)(r:RelV v u)
  (h:∀b,Inv X pins (σ.set i (some v)) H b->(∃a,Heap.SameBut a s.heap b.heap/\(a=X.env.locals∨X.env.cells.lookup x=some a))->Q () b) (G:X.fn x=true∨X.env.scope.names.lookup x=some .local:=by first|exact .inl rfl|exact .inr rfl|assumption):wpAny M A (storeName X.env x u) Q E s:=by
 obtain⟨m,hn,hl⟩:=id I.loc;have d:(X.env.scope.kind==.class || (X.env.scope.kind==.module && X.env.locals != X.env.globals))=false:=by rw[I.ok.kind];rfl
 have Yu:i<σ.length:=by rw[I.len];exact(Nk.mp J).1
 have Wm:=I.Wm;have f:∀{a:Addr} {h':Heap},(∃o,s.heap.get? a=some o/\H a=none)->Heap.SameBut a s.heap h'->Ox X.prog X.w H h':=fun {a h'} j a b c e=>by
  obtain⟨_,_,g⟩:=j;refine(I.MF b c e).Qf (λc L l q=>(a.2 c ?_).trans q) (λ_ q=>q) λ_ _ q=>q
  rintro rfl;rcases l with rfl|l
  ·rw[g]at e;cases e
  ·rw[g]at l;cases l
 rcases t with hk|hk
 ·refine wpAny_storeName_local hk hn (λh' g a=>?_) d;obtain⟨oL,_,_,d,_⟩:=id hn;refine h _ ⟨I.ok,I.os,I.bare,⟨λb o e n C t=>?_,λb o e n C t=>?_,I.base.free,λb o e t=>?_,I.base.QY,I.base.QC,I.base.QZ⟩,⟨_,g,λj y N g w e3=>?_⟩,λy c e=>?_,I.free,I.OD,λp hp=>?_,f ⟨oL,d,I.free⟩ a,by simpa using I.len⟩ ⟨_,a,.inl rfl⟩
  ·exact(a.2 b (NG (Of (MV e) I.ok.above))).trans (I.base.keep b o e n C t)
  ·obtain⟨Q,g⟩:=I.base.slot b o e n C t;exact⟨Q,(a.2 b (NG (Of (MV e) I.ok.above))).trans g⟩
  ·obtain⟨U,g⟩:=I.base.there b o e t;exact⟨U,(a.2 b (NG (Of (MV e) I.ok.above))).trans g⟩
  ·by_cases A:j=i
   ·subst A;rw[J]at g;cases g;rw[O9 Yu]at w;cases w;exact⟨u,r,.inl ⟨hk,by simp⟩⟩
   ·rw[Ov (Ne.symm A)]at w;obtain⟨O,T,q⟩:=hl j y N g w e3;refine⟨O,T,?_⟩;rcases q with⟨k,e⟩| ⟨k,c,e,z⟩
    ·refine .inl ⟨k,?_⟩;have:y≠x:=λe=>A (xI hN g (e ▸ J))
     simp[this,e]
    ·exact .inr ⟨k,c,e,z.sameBut a (Wm y c e)⟩
  ·obtain⟨L,z⟩:=I.cell y c e;exact⟨L,z.sameBut a (Wm y c e)⟩
  ·obtain⟨e,n,M,Y,d⟩:=I.pin p hp;exact⟨(a.2 p.1 M).trans e,n,M,Y,d⟩
 ·have B:X.fn x=true:=by
   rcases G with z|z
   ·exact z
   ·rw[z]at hk;cases hk
  obtain⟨c,l⟩:=I.ok.has x (.inl hk);obtain⟨L,z⟩:=I.cell x c l;refine wpAny_storeName_cell I.ok.kind hk l z (λh' Ry a=>?_);obtain⟨oc,G,E⟩:=id z;refine h {s with heap:=h'} ⟨I.ok,I.os,I.bare,⟨λb o e n C t=>?_,λb o e n C t=>?_,I.base.free,λb o e t=>?_,I.base.QY,I.base.QC,I.base.QZ⟩,⟨m,hn.sameBut a (Ne.symm (Wm x c l)),λj y N g w e3=>?_⟩,λy h e=>?_,I.free,I.OD,λp hp=>?_,f ⟨oc,G,I.OD x c l⟩ a,by simpa using I.len⟩ ⟨c,a,.inr l⟩
  ·exact(a.2 b (NG (Of (MV e) (I.ok.Rv x c B l)))).trans (I.base.keep b o e n C t)
  ·obtain⟨Q,g⟩:=I.base.slot b o e n C t;exact⟨Q,(a.2 b (NG (Of (MV e) (I.ok.Rv x c B l)))).trans g⟩
  ·obtain⟨U,g⟩:=I.base.there b o e t;exact⟨U,(a.2 b (NG (Of (MV e) (I.ok.Rv x c B l)))).trans g⟩
  ·by_cases A:j=i
   ·subst A;rw[J]at g;cases g;rw[O9 Yu]at w;cases w;exact⟨u,r,.inr ⟨.inl hk,c,l,Ry⟩⟩
   ·rw[Ov (Ne.symm A)]at w;obtain⟨O,T,q⟩:=hl j y N g w e3;refine⟨O,T,?_⟩;rcases q with q|⟨k,h,e,b⟩
    ·exact .inl q
    ·refine .inr ⟨k,h,e,b.sameBut a ?_⟩;rintro rfl;exact A (xI hN g (I.ok.inj _ _ _ e l ▸ J))
  ·by_cases b:h=c
   ·subst b;exact⟨_,Ry⟩
   ·obtain⟨f,c⟩:=I.cell y h e;exact⟨f,c.sameBut a b⟩
  ·obtain⟨e,n,M,Y,d⟩:=I.pin p hp;refine⟨(a.2 p.1 ?_).trans e,n,M,Y,d⟩;intro q;rw[q,G]at e;have a:oc=p.2:=Pp e;exact d L (by rw[<- a];exact E)
def fe{i:Nat}{x:Str}{Q:Unit->Shared->Prop}(I:Inv X pins σ H s)(e:X.N.Nodup)(c:X.N[i]?=some x)(b:Loc X.env.scope x)(r:RelV v u)
  (h:∀a,Inv X pins (σ.set i (some v)) H a->Q () a) (d:X.fn x=true∨X.env.scope.names.lookup x=some .local:=by first|exact .inl rfl|exact .inr rfl|assumption):wpAny M A (storeName X.env x u) Q E s :=
 ju I e c b r (λa b _=>h a b) d
def Inv.TP{a:Shared}(I:Inv X pins σ H s)(d:a.os=s.os)(u:Un (Qw X.stack) ch H H' s.heap a.heap)(h:Ox X.prog X.w H' a.heap)(f:AllBare a.gens)
  (g:∀b∈ch,(b∈X.ex∨X.ME.heap.objs.size<=b)/\b≠X.env.locals/\(∀x c,X.env.cells.lookup x=some c->c≠b)/\∀p∈X.pn++pins,p.1≠b):Inv X pins σ H' a:=by
 obtain⟨h',g',d',t',b⟩:=a;have e:b=s.os:=d;subst e;exact I.call (g':=g') (t':=t') (d':=d') u h f g
end
abbrev XK:=Value->Option Addr->Hp->Prop
abbrev St:=List (Option V)
abbrev VK:=V->Hp->Prop
abbrev TE:=St->Hp->VK->Prop
abbrev TT:=St->Hp->(Bool->Hp->Prop)->Prop
abbrev TA:=St->Hp->(yar->Hp->Prop)->Prop
structure Ends where
 nx:St->Hp->Prop
 rt:VK
 bk:St->Hp->Prop:=λ_ _=>False
 ct:St->Hp->Prop:=λ_ _=>False
abbrev TS:=Ends->St->Hp->Prop
def EP(X:Cx)(a:yab)(c:St)(Q:VK)(u:Value)(d:Shared):Prop:=∃v b,Inv X a c b d/\RelV v u/\Q v b
def AP(X:Cx)(a:yab)(d:St)(Q:yar->Hp->Prop)(e:yad)(f:Shared):Prop:=∃b c,Inv X a d c f/\Vals b e/\Q b c
def SP(X:Cx)(a:yab)(D:Ends)(f:Flow)(d:Shared):Prop :=
 match f with
 |.next=>∃c b,Inv X a c b d/\D.nx c b
 |.brk=>∃c b,Inv X a c b d/\D.bk c b
 |.cont=>∃c b,Inv X a c b d/\D.ct c b
 |.ret u=>∃v c b,Inv X a c b d/\RelV v u/\D.rt v b
def PE(X:Cx)(e:Expr)(t:TE):Prop :=
 ∀ (a:yab) (s:Shared) (b:St) (H:Hp) (Q:VK),Inv X a b H s->t b H Q->wpAny (model X.prog X.w) X.A (eval e X.env) (EP X a b Q) X.xe s
def PA(X:Cx)(es:yai)(t:TA):Prop :=
 ∀ (c:Pos) (a:yab) (s:Shared) (b:St) (H:Hp) (Q:yar->Hp->Prop),Inv X a b H s->t b H Q->wpAny (model X.prog X.w) X.A (spliced (backTo c (starEach es X.env))) (AP X a b Q) X.xe s
def PS(X:Cx)(st:Stmt)(t:TS):Prop :=
 ∀ (a:yab) (s:Shared) (b:St) (H:Hp) (D:Ends),Inv X a b H s->t D b H->wpAny (model X.prog X.w) X.A (exec st X.env) (SP X a D) X.xe s
def PSs(X:Cx)(st:yal)(t:TS):Prop :=
 ∀ (a:yab) (s:Shared) (b:St) (H:Hp) (D:Ends),Inv X a b H s->t D b H->wpAny (model X.prog X.w) X.A (execs st X.env) (SP X a D) X.xe s
def Mw{b:Type}{t:Sem b}{Q c:b->Shared->Prop}{M:Model}{A:Around}{E:yaa}{s:Shared}(h:wpAny M A t Q E s)(d:∀a s,Q a s->c a s):wpAny M A t c E s:=P6 h d λ_ _ x=>x
section
variable{X:Cx}
def FG(i:Nat):TE:=λa H Q=>∃v,a[i]?=some (some v)/\Q v H
def tC(v:V):TE:=λ_ H Q=>Q v H
def gU {i:Nat} {x:Str} (j:X.N[i]?=some x) (b:S1 X.env.scope x) (d:(x==("__debug__" : Str))=false:=by decide) (k:(x==("__classdict__" : Str))=false:=by decide):PE X (.Name x pos) (FG i):=by
 intro a s c H Q I h;obtain⟨v,e,h⟩:=h;obtain⟨m,f,g⟩:=I.loc;obtain⟨u,r,l⟩:=g i x v j e b;have b:EP X a c Q u s:=⟨v,H,I,r,h⟩;rcases l with⟨a,g⟩| ⟨a,c,c,e⟩
 ·exact wpAny_Name (wpAny_loadName_local I.ok.kind a f g b) d
 ·rcases a with a|a
  ·exact wpAny_Name (wpAny_loadName_cell I.ok.kind a c e b) d
  ·exact wpAny_Name (wpAny_loadName_free I.ok.kind a c e b k) d
def Dd{i j pos}:PE X (.Constant (.int i) j pos) (tC (.int i)):=λ_ _ _ H _ I h=>wpAny_Constant_int ⟨.int i,H,I.tok _,⟨_,rfl⟩,h⟩
def Lm{b j pos}:PE X (.Constant (.bool b) j pos) (tC (.bl b)):=λ_ _ _ H _ I h=>Constant_bool ⟨.bl b,H,I,rfl,h⟩
def Kf{j pos}:PE X (.Constant .none j pos) (tC .MU):=λ_ _ _ H _ I h=>Constant_none ⟨.MU,H,I,rfl,h⟩
def Kg{x j pos}:PE X (.Constant (.str x) j pos) (tC (.str x)):=λ_ _ _ H _ I h=>Calls.Constant_str ⟨.str x,H,I.tok _,⟨_,rfl⟩,h⟩
def Gl(X:Cx)(x:Str):Prop:=X.env.kindOf x=some .globalImplicit
def Hf{u:Value}{Q:yaa}(I:Inv X pins σ H s)(b:Gl X x)(a:X.mg x=some u)(h:Q u s)
  (c:(x==("__debug__" : Str))=false:=by decide):wpAny (model X.prog X.w) X.A (eval (.Name x pos) X.env) Q E s :=
 Calls.Name_function_global I.ok.kind b (Calls.loadGlobal_global (by rw[I.ok.glob];exact I.mod.glob.keeps I.bk) a h) c
def dD{u:Value}{Q:yaa}(I:Inv X pins σ H s)(d:Gl X x)(c:X.mg x=none)(a:bootBuiltins x=some u)(h:Q u s)
  (b:x ≠ "__name__" := by decide) (e:(x==("__debug__" : Str))=false:=by decide):wpAny (model X.prog X.w) X.A (eval (.Name x pos) X.env) Q E s:=by
 obtain⟨mb,g,f⟩:=I.mod.blt;exact Calls.Name_function_global I.ok.kind d (Calls.loadGlobal_builtin (by rw[I.ok.glob];exact I.mod.glob.keeps I.bk) c (by rw[I.ok.blt];exact g.keeps I.bk) ((f x b).trans a) h) e
def HE {u:Value} (d:Gl X x) (c:X.mg x=none) (a:bootBuiltins x=some u) (r:RelV v u) (b:x ≠ "__name__" := by decide) (e:(x==("__debug__" : Str))=false:=by decide):PE X (.Name x pos) (tC v) :=
 λ_ _ _ H _ I h=>dD I d c a ⟨v,H,I,r,h⟩ b e
variable{a b:Expr}{ta tb:TE}{pos:Pos}
def xH(b:Expr){c:CmpOp}(h:c ≠ .In)(d:c ≠ .NotIn):behindInMarks c b=false:=by
 have f:(c==CmpOp.In)=false:=by cases c<;>first|rfl|exact absurd rfl h
 have e:(c==CmpOp.NotIn)=false:=by cases c<;>first|rfl|exact absurd rfl d
 cases b<;>simp[behindInMarks,f,e]
variable{tA Yv:TT}{rest:yai}
end
def SqL(K:yac)(H:Hp)(a:Addr)(xs:yar):Prop :=
 Rd H a (.lst xs) ∨
  ∃ (o:Obj) (b:yao) (n:Nat),K.lookup a=some o/\o.cls=.type "list" /\ o.dict=none/\o.data=.seq b n/\b.size<=sizeLine/\Vals xs b.toList
def MW(K:yac)(H:Hp)(a:Addr)(xs:yar):Prop :=
 Rd H a (.tup xs) ∨
  ∃ (o:Obj) (b:yao) (n:Nat),K.lookup a=some o/\o.cls=.type "tuple" /\ o.data=.seq b n/\b.size<=sizeLine/\Vals xs b.toList
noncomputable def LD:Value->Option V
 |.none=>some .MU
 |.bool b=>some (.bl b)
 |.int i _=>some (.int i)
 |.str x _=>some (.str x)
 |.bytes b _=>some (.TN b)
 |.float b _=>some (.Yq b)
 |.ref a=>some (.ref a)
 |.type n=>some (.ty n)
 |_=>none
def RelV.abs(r:RelV x u):LD u=some x:=by
 cases x with
 |MU=>cases r;rfl
 |bl _=>cases r;rfl
 |int _=>obtain⟨t,rfl⟩:=r;rfl
 |str _=>obtain⟨t,rfl⟩:=r;rfl
 |TN _=>obtain⟨t,rfl⟩:=r;rfl
 |Yq _=>obtain⟨t,rfl⟩:=r;rfl
 |ref _=>cases r;rfl
 |ty _=>cases r;rfl
theorem RelV.inj(r:RelV x u)(q:RelV y u):x=y:=Pp (r.abs.symm.trans q.abs)
theorem Vals.inj:∀{xs ys:yar} {a:yad},Vals xs a->Vals ys a->xs=ys
 |_,_,_,.nil,.nil=>rfl
 |_,_,_,.cons r t,.cons b a=>by rw[r.inj b,Vals.inj t a]
section
variable{X:Cx}{pins:yab}{σ:St}{H:Hp}{s:Shared}{a:Addr}{xs ys:yar}
def SqL.of{K:yac}(h:H a=some (.lst xs)):SqL K H a xs:=.inl (.inl h)
def MW.of{K:yac}(h:H a=some (.tup xs)):MW K H a xs:=.inl (.inl h)
def Inv.list(I:Inv X pins σ H s)(h:SqL X.K H a xs):∃b:yad,Vals xs b/\PlainL s.heap a b.toArray/\xs.length<=sizeLine:=by
 rcases h with h|⟨o,b,n,d,g,f,c,hz,r⟩
 ·obtain⟨z,b,n,r,e⟩:=h.ok I.MF;exact⟨b,r,⟨_,n,e,rfl,rfl,rfl⟩,z⟩
 ·refine⟨b.toList,r,⟨o,n,I.Rw a o d,g,f,by simpa using c⟩,?_⟩;have e:=r.length;simp only[Po]at e
  lia
def Inv.tuple(I:Inv X pins σ H s)(h:MW X.K H a xs):∃b:yad,Vals xs b/\IsTup s.heap a b.toArray/\xs.length<=sizeLine:=by
 rcases h with h|⟨o,b,n,d,e,c,hz,r⟩
 ·obtain⟨z,b,r,p⟩:=h.ok I.MF;exact⟨b,r,p,z⟩
 ·refine⟨b.toList,r,⟨o,I.Rw a o d,e,n,by simpa using c⟩,?_⟩;have e:=r.length;simp only[Po]at e
  lia
def Inv.Qg(I:Inv X pins σ H s)(h:SqL X.K H a xs)(h':SqL X.K H a ys):xs=ys:=by
 obtain⟨i,r,⟨o,n,e,_,_,d⟩,_⟩:=I.list h;obtain⟨b,g,⟨o',n',c,_,_,f⟩,_⟩:=I.list h';rw[e]at c;cases c;rw[d]at f;injection f with d1 _;have:i=b:=by simpa using congrArg Array.toList d1
 subst this;exact r.inj g
def Inv.QO(I:Inv X pins σ H s)(h:MW X.K H a xs)(h':MW X.K H a ys):xs=ys:=by
 obtain⟨i,r,⟨o,e,_,n,d⟩,_⟩:=I.tuple h;obtain⟨b,g,⟨o',c,_,n',f⟩,_⟩:=I.tuple h';rw[e]at c;cases c;rw[d]at f;injection f with d1 _;have:i=b:=by simpa using congrArg Array.toList d1
 subst this;exact r.inj g
end
noncomputable abbrev Cx.wish(X:Cx)(E:yaa):Cx:={X with xe:=E}
abbrev Cx.VJ(X:Cx):Cx:=X.wish λ_ _=>False
theorem Cx.Ok.wish{X:Cx}(a:X.Ok)(E:yaa):(X.wish E).Ok :=
 ⟨a.mod,a.kind,a.glob,a.blt,a.above,a.inj,a.has,a.Rv,a.hd,a.frames,a.stk,a.exf,a.bs,a.VG,a.R5,a.UY,a.PT,a.Wl⟩
def Cx.Ok.NZ{X:Cx}(a:(X.wish E).Ok):X.Ok :=
 ⟨a.mod,a.kind,a.glob,a.blt,a.above,a.inj,a.has,a.Rv,a.hd,a.frames,a.stk,a.exf,a.bs,a.VG,a.R5,a.UY,a.PT,a.Wl⟩
section
variable{X:Cx}{pins:yab}{σ:St}{H:Hp}{s:Shared}{E:yaa}
theorem Inv.wish(I:Inv X pins σ H s)(E:yaa):Inv (X.wish E) pins σ H s:=⟨I.ok.wish E,I.os,I.bare,I.base,I.loc,I.cell,I.free,I.OD,I.pin,I.MF,I.len⟩
theorem Inv.NZ(I:Inv (X.wish E) pins σ H s):Inv X pins σ H s:=⟨I.ok.NZ,I.os,I.bare,I.base,I.loc,I.cell,I.free,I.OD,I.pin,I.MF,I.len⟩
end
section
variable{X:Cx}{st:Stmt}{rest:yal}{t u:TS}{e:Expr}{te:TE}{pos:Pos}
def Inv.quiet(I:Inv X pins σ H s):interactive X.env=false:=by simp[interactive,I.ok.kind]
def Gp(te:TE):TS:=λD a H=>te a H λ_ b=>D.nx a b
def l9(c:PE X e te)(hs:swapsWith e none pos.line X.env=pure false:=by rfl):PS X (.Expr e pos) (Gp te):=by intro a s b H D I h;exact wpAny_Expr_any (Mw (c a s b H _ I h) λv s1 c=>(by obtain⟨x,f,d,r1,a⟩:=c;exact⟨b,f,d,a⟩)) I.quiet hs
end
abbrev TIp:=V->V->Hp->VK->Prop
def PIp(X:Cx)(c:Operator)(t:TIp):Prop :=
 ∀ (a:yab) (s:Shared) (b:St) (H:Hp) (x y:V) (v u:Value) (Q:VK),Inv X a b H s->RelV x v->RelV y u->t x y H Q →
  wpAny (model X.prog X.w) X.A (inplaceOp c v u) (EP X a b Q) X.xe s
section
variable{X:Cx}{pos:Pos}
def L6(i j:Nat)(b:TA):TS:=λD a H=>b a H λb c=>∃v w,b=[v,w]/\D.nx ((a.set i (some v)).set j (some w)) c
def Km{i j:Nat}{x y:Str}{a b:Expr}{e:TA}{d c pt:Pos}{kt k2 Wo}(z:X.calm=true)(m:X.N.Nodup)(u:X.N[i]?=some x)(t:X.N[j]?=some y)(A:i≠j)
  (l:X.env.scope.names.lookup x=some .local) (k:X.env.scope.names.lookup y=some .local) (f:PA X [a,b] e)
  (r:swappedStores [.Tuple [.Name x d,.Name y c] kt pt] (.Tuple [a,b] k2 Wo) X.env=pure (some [x,y]))
  (hs:swapsWithSole [.Tuple [.Name x d,.Name y c] kt pt] (.Tuple [a,b] k2 Wo) pos.line X.env=pure false:=by rfl) :
  PS X (.Assign [.Tuple [.Name x d,.Name y c] kt pt] (.Tuple [a,b] k2 Wo) pos) (L6 i j e):=by
 intro a s e H D I h;rw[exec_Assign_arm];refine Mh (Wi ?_);rw[hs];refine Mh (Mt ?_);rw[Mj (by decide)];refine Mh (Tuple_ (Mw (f _ a s e H _ I h) λi f c=>?_));obtain⟨vs,h,o,n,g⟩:=c;obtain⟨v,w,c,g⟩:=g;subst c;obtain⟨d,c,rfl,j,s⟩:∃d c,i=[d,c]/\RelV v d/\RelV w c:=by
  cases n with
  |cons p q =>
   cases q with
   |cons n i =>
    cases i;exact⟨_,_,rfl,p,n⟩
 refine SO ?_ (by show 2<=sizeLine;decide);have n:Inv X a e h {f with heap:=f.heap.push {cls:=.type "tuple", data:=.seq [d,c].toArray} }:=o.kept (t':=f.toks) λb o e=>Nd _ e
 rw[r];refine Mh (Mt ?_);show wpAny (model X.prog X.w) X.A (do rule "assign.swapped-stores"; let items←unpackItems (.ref f.heap.objs.size) 2 none;assignInOrder [λv=>bindName X.env y v,λv=>bindName X.env x v] items.reverse;pure Flow.next) _ _ _;refine Mh (wpAny_rule (Mh (unpackItems_tuple (items:=#[d,c]) (I.ok.hd z) (IsTup.new f.heap _) λh' a=>?_)));have i:=n.kept (h':=h') (t':=f.toks) λb o e=>a b o (NG (MV e)) e
 show wpAny _ _ (assignInOrder [λv=>bindName X.env y v,λv=>bindName X.env x v] [c,d] >>= λ_=>pure Flow.next) _ _ _;refine Mh (assignInOrder_cons (wpAny_bindName (fe i m t (.inl k) s (λs2 a=>?_) (.inr k))));refine assignInOrder_cons (wpAny_bindName (fe a m u (.inl l) j (λs3 a=>assignInOrder_nil (Mt ?_)) (.inr l)));rw[List.set_comm _ _ (Ne.symm A)]at a;exact⟨_,h,a,g⟩
def L5(i:Nat)(te:TE)(b:TIp):TS:=λD a H=>∃x,a[i]?=some (some x)/\te a H λy c=>b x y c λz b=>D.nx (a.set i (some z)) b
def Kk{i:Nat}{x:Str}{e:Expr}{te:TE}{c:Operator}{b:TIp}{a:Pos}(q:X.N.Nodup)(g:X.N[i]?=some x)(d:Loc X.env.scope x)(p:PE X e te)(j:PIp X c b)(o:X.fn x=true∨X.env.scope.names.lookup x=some .local:=by first|exact .inl rfl|exact .inr rfl|assumption) :
  PS X (.AugAssign (.Name x a) c e pos) (L5 i te b):=by
 intro a s f H D I h;obtain⟨v,t,h⟩:=h;obtain⟨m,m,n⟩:=I.loc;have b:S1 X.env.scope x:=by rcases d with k|k;exact .inl k;exact .inr (.inl k)
 obtain⟨u,r,l⟩:=n i x v g t b;refine wpAny_AugAssign_Name ?_;have i:wpAny (model X.prog X.w) X.A (eval e X.env) (λw e=>wpAny (model X.prog X.w) X.A (inplaceOp c u w) (λr b=>wpAny (model X.prog X.w) X.A (storeName X.env x r) (λ_=>SP X a D .next) X.xe b) X.xe e) X.xe s:=by
  refine Mw (p a s f H _ I h) λw c b=>?_
  obtain⟨y,p,n,e,h⟩:=b;refine Mw (j a c f p v y u w _ n r e h) λz s2 b=>?_
  obtain⟨zv,f,e,a,c⟩:=b;exact fe e q g d a (λs3 a=>⟨_,f,a,c⟩) o
 rcases l with⟨a,b⟩| ⟨a,c,c,e⟩
 ·exact wpAny_loadName_local I.ok.kind a m b i
 ·rcases a with a|a
  ·exact wpAny_loadName_cell I.ok.kind a c e i
  ·rcases d with k|k
   ·have:X.env.scope.names.lookup x=some .free:=a;rw[k]at this;cases this
   ·have:X.env.scope.names.lookup x=some .free:=a;rw[k]at this;cases this
def ipI(f:Int->Int->Int):TIp:=λx y H Q=>∃i j,x=.int i/\y=.int j/\Q (.int (f i j)) H
def JR:PIp X .Add (ipI λi j=>i+j):=by intro pins s σ H x y v u Q I b a h;obtain⟨i,j,d,c,q⟩:=h;subst d;subst c;obtain⟨t,rfl⟩:=b;obtain⟨t',rfl⟩:=a;exact iadd_int ⟨.int _,H,I.tok _,⟨_,rfl⟩,q⟩
end
structure It where
 go:Nat->Hp->Prop
 yld:Nat->Hp->V->Hp->Prop
 stop:Nat->Hp->Prop
def dY(X:Cx)(a:yab)(H:Hp)(b:Addr):Prop :=
 H b=none/\b≠X.env.locals/\b∉X.fs/\(b∈X.ex∨X.ME.heap.objs.size<=b)/\(∀x c,X.env.cells.lookup x=some c->c≠b)/\∀p∈X.pn++a,p.1≠b
def Inv.TQ{H':Hp}{b:Addr}(I:Inv X pins σ H s)(a:s.heap.objs.size<=b)(c:H' b=none):dY X pins H' b:=by
 refine⟨c,RN (Of I.lt a),I.nofs a,.inr (Pa I.sz a),λx c e z=>?_,λp b z=>?_⟩
 ·obtain⟨v,q⟩:=I.cell x c e;exact absurd (Of q.lt (by rw[z];exact a)) (Ru _)
 ·exact absurd (Of (MV (I.pin p b).1) (by rw[z];exact a)) (Ru _)
structure Turn(P:Program)(w:World)(K:yac)(tg:Expr)(J:It)(fp:yae)(it:Addr)(tn:Nat->Heap->Prop):Prop where
 mem:it∈fp
 obj:∀i h,tn i h->∀b∈fp,∃o,h.get? b=some o/\∀v,o.data ≠ .cell v
 keep:∀i h h',tn i h->(∀b∈fp,∀o,h.get? b=some o->h'.get? b=some o)->tn i h'
 item:∀(X:Cx),X.prog=P->X.w=w->X.K=K->X.calm=true->∀(i:Nat) (pins:yab) (s:Shared) (σ:St) (H:Hp) (E:yaa),Inv X pins σ H s->(∀b∈fp,dY X pins H b)->tn i s.heap->J.go i H →
  wpAny (model P w) X.A (pyNext (.ref it)) (λr s1=>∃u,r=some u ∧
   wpAny (model P w) X.A (letOwnedTupleGo tg (.ref it) u) (λ_ s2=>∃x H',Inv X pins σ H' s2/\RelV x u/\J.yld i H x H'/\tn (i+1) s2.heap/\∀b∈fp,H' b=none) E s1) E s
 done:∀(X:Cx),X.prog=P->X.w=w->X.K=K->X.calm=true->∀(i:Nat) (pins:yab) (s:Shared) (σ:St) (H:Hp) (E:yaa),Inv X pins σ H s->(∀b∈fp,dY X pins H b)->tn i s.heap->J.stop i H →
  wpAny (model P w) X.A (pyNext (.ref it)) (λr s1=>r=none/\Inv X pins σ H s1) E s
 self:∀(A:Around) (i:Nat) (s:Shared) (Q:yaa) (E:yaa),tn i s.heap->Q (.ref it) s->wpAny (model P w) A (pyIter (.ref it)) Q E s
abbrev TI:=St->Hp->(It->Hp->Prop)->Prop
def PIE(X:Cx)(a:yab)(f:St)(g:Expr)(R:It->Hp->Prop)(h:Value)(b:Shared):Prop :=
 ∃ (d:Addr) (e:yae) (tn:Nat->Heap->Prop) (J:It) (c:Hp),h=.ref d/\Inv X a f c b/\Turn X.prog X.w X.K g J e d tn/\tn 0 b.heap/\(∀b∈e,dY X a c b)/\R J c
def PI(X:Cx)(d b:Expr)(wi:TI):Prop :=
 ∀ (a:yab) (s:Shared) (c:St) (H:Hp) (R:It->Hp->Prop),Inv X a c H s->wi c H R →
  wpAny (model X.prog X.w) X.A (eval b X.env) (λv b=>wpAny (model X.prog X.w) X.A (pyIter v) (PIE X a c d R) X.xe b) X.xe s
def A6 {s : Shared} {o : Obj} {Q : Unit -> Shared -> Prop} (b : s.heap.get? it = some o) (e : o.cls = .type n) (d : o.data = .fields vs)
    (c : ["enumerate", "zip", "dict_itemiterator", "dict_reverseitemiterator", "odict_iterator", "itertools.zip_longest", "itertools.pairwise"].contains n = false) (a : Q () s) : wpAny M A (letOwnedTupleGo tg (.ref it) u) Q E s := by
  unfold letOwnedTupleGo;cases tg <;> first
    | exact Mt a
    | (cases u <;> first
        | exact Mt a
        | (refine Mh (wpAny_load b ?_)
           rw [e, d];show wpAny M A (if (["enumerate", "zip", "dict_itemiterator", "dict_reverseitemiterator", "odict_iterator", "itertools.zip_longest", "itertools.pairwise"].contains n && vs[0]? == some (rawInt _)) = true then _ else _) Q E s;rw [Mj (by intro h; rw [c, Bool.false_and] at h; cases h)];exact Mt a))
def Itl(K:yac)(a:Addr):It :=
 ⟨λi H=>∃b x,SqL K H a b/\b[i]?=some x,λi H x c=>c=H/\∀b,SqL K H a b->b[i]?=some x,λi H=>∃b,SqL K H a b/\b.length<=i⟩
def Itt(K:yac)(a:Addr):It :=
 ⟨λi H=>∃b x,MW K H a b/\b[i]?=some x,λi H x c=>c=H/\∀b,MW K H a b->b[i]?=some x,λi H=>∃b,MW K H a b/\b.length<=i⟩
def DN{P:Program}{w:World}{K:yac}{b:Expr}(a f:Addr):Turn P w K b (Itl K a) [f] f (λi h=>h.IsListIter f a i) where
 mem:=by simp
 obj:=λi h st b g=>by
  have e:b=f:=by simpa using g
  subst e;obtain⟨o,e,c,d⟩:=st;exact⟨o,e,λv z=>by rw[d]at z;cases z⟩
 keep:=λi h l st k=>st.at λo e=>k f (by simp) o e
 item:=by
  intro X t q w J i a s G H E I k st r;subst t q w;obtain⟨M,x,j,n⟩:=r;obtain⟨T,m,p,O⟩:=I.list j;obtain⟨u,L,N⟩:=m.get n;obtain⟨C,B,Q,A,z,y⟩:=k f (by simp);refine wpAny_pyNext_list_item st p.isList (x:=u) (by simpa using L) λl L sb=>?_
  have U:Inv X a G H {s with heap:=l}:=I.turned (t':=s.toks) (λb o g e=>(sb.2 b g).trans e) C B A z y;obtain⟨o,e,c,d⟩:=id L;exact⟨u,rfl,A6 (s:={s with heap:=l}) e c d (by decide) ⟨x,H,U,N,⟨rfl,λys c=>by rw[I.Qg c j];exact n⟩,L,λb g=>(k b g).1⟩⟩
 done:=by intro X t q w J i a s G H E I k st r;subst t q w;obtain⟨M,j,n⟩:=r;obtain⟨T,m,p,O⟩:=I.list j;obtain⟨C,B,Q,A,z,y⟩:=k f (by simp);have hl:=m.length;exact wpAny_pyNext_list_end (I.ok.hd J) st p.isList (by simp;lia) λl a=>⟨rfl,I.turned (t':=s.toks) (λb o g e=>a b o g e) C B A z y⟩
 self:=λ_ _ _ _ _ st h=>wpAny_pyIter_listiter st h
def BE{P:Program}{w:World}{K:yac}{b:Expr}(a g:Addr):Turn P w K b (Itt K a) [g] g (λi h=>h.IsTupleIter g a i) where
 mem:=by simp
 obj:=λi h st b j=>by
  have e:b=g:=by simpa using j
  subst e;obtain⟨o,e,c,d⟩:=st;exact⟨o,e,λv z=>by rw[d]at z;cases z⟩
 keep:=λi h m st k=>st.at λo e=>k g (by simp) o e
 item:=by
  intro X w r y M i f s L H E I l st t;subst w r y;obtain⟨O,x,k,q⟩:=t;obtain⟨J,n,p,T⟩:=I.tuple k;obtain⟨u,N,Q⟩:=n.get q;obtain⟨G,C,U,B,A,z⟩:=l g (by simp);refine wpAny_pyNext_tuple_item st (show s.heap.IsTuple a J.toArray from p) (x:=u) (by simpa using N) λm N sb=>?_
  have Y:Inv X f L H {s with heap:=m}:=I.turned (t':=s.toks) (λb o j e=>(sb.2 b j).trans e) G C B A z;obtain⟨o,e,c,d⟩:=id N;exact⟨u,rfl,A6 (s:={s with heap:=m}) e c d (by decide) ⟨x,H,Y,Q,⟨rfl,λys c=>by rw[I.QO c k];exact q⟩,N,λb j=>(l b j).1⟩⟩
 done:=by intro X w r y M i f s L H E I l st t;subst w r y;obtain⟨O,k,q⟩:=t;obtain⟨J,n,p,T⟩:=I.tuple k;obtain⟨G,C,U,B,A,z⟩:=l g (by simp);have hl:=n.length;exact wpAny_pyNext_tuple_end (I.ok.hd M) st (show s.heap.IsTuple a J.toArray from p) (by simp;lia) λm a=>⟨rfl,I.turned (t':=s.toks) (λb o j e=>a b o j e) G C B A z⟩
 self:=λ_ _ _ _ _ st h=>wpAny_pyIter_tupleiter st h
section
variable{X:Cx}{tg:Expr}
def K6(K:yac)(tl:TE):TI:=λa H R=>tl a H λx b=>∃a,x=.ref a/\(∃c,SqL K b a c)/\R (Itl K a) b
def LM(K:yac)(tl:TE):TI:=λa H R=>tl a H λx b=>∃a,x=.ref a/\(∃c,MW K b a c)/\R (Itt K a) b
def HG{l:Expr}{tl:TE}(c:PE X l tl):PI X tg l (K6 X.K tl):=by
 intro a s b H R I h;refine Mw (c a s b H _ I h) λv c a=>?_
 obtain⟨x,h,d,b,f⟩:=a;obtain⟨a,e,⟨xs,g⟩,q⟩:=f;subst e;cases b;obtain⟨Mp,rv,p,hz⟩:=d.list g;refine wpAny_pyIter_list p.isList ?_;refine⟨c.heap.objs.size,[c.heap.objs.size],_,_,h,rfl,d.kept (t':=c.toks) λb o e=>Nd _ e,DN a _,⟨_,OI _ rfl,rfl,rfl⟩,λb a=>?_,q⟩;have e:b=c.heap.objs.size:=by simpa using a
 subst e;exact d.TQ (MS _) (d.MF.fresh (MS _))
def Kh{l:Expr}{tl:TE}(c:PE X l tl):PI X tg l (LM X.K tl):=by
 intro a s b H R I h;refine Mw (c a s b H _ I h) λv c a=>?_
 obtain⟨x,h,d,b,f⟩:=a;obtain⟨a,e,⟨xs,g⟩,q⟩:=f;subst e;cases b;obtain⟨b,rv,p,hz⟩:=d.tuple g;refine wpAny_pyIter_tuple (show c.heap.IsTuple a b.toArray from p) ?_;refine⟨c.heap.objs.size,[c.heap.objs.size],_,_,h,rfl,d.kept (t':=c.toks) λb o e=>Nd _ e,BE a _,⟨_,OI _ rfl,rfl,rfl⟩,λb a=>?_,q⟩;have e:b=c.heap.objs.size:=by simpa using a
 subst e;exact d.TQ (MS _) (d.MF.fresh (MS _))
def sI(a:yae)(h:Heap):yab:=a.filterMap λb=>(h.get? b).map λo=>(b,o)
def jT{a:yae}{h:Heap}{b:Addr}{o:Obj}(c:b∈a)(e:h.get? b=some o):(b,o)∈sI a h:=Ye.mpr ⟨b,c,by rw[e];rfl⟩
def CV{p:Addr×Obj}(a:p∈sI fp h):p.1∈fp/\h.get? p.1=some p.2:=by
 obtain⟨b,c,e⟩:=Ye.mp a;cases q:h.get? b with
 |none=>rw[q]at e;cases e
 |some o =>
  rw[q]at e;have a:(b,o)=p:=Pp e;subst a;exact⟨c,q⟩
def Inv.pinned{a:yae}(I:Inv X pins σ H s)(d:∀b∈a,dY X pins H b)(c:∀b∈a,∃o,s.heap.get? b=some o/\∀v,o.data ≠ .cell v):Inv X (pins++sI a s.heap) σ H s :=
 I.Sz λp a=>(Nu.mp a).elim (λz=>I.pin p (P4 _ z)) λz=>by obtain⟨a,e⟩:=CV z;obtain⟨h,g,f,_⟩:=d p.1 a;obtain⟨o,b,d⟩:=c p.1 a;rw[e]at b;cases b;exact⟨e,h,g,f,d⟩
def Inv.OE{a b:yab}(I:Inv X (a++b) σ H s):Inv X a σ H s:=I.Sz λp a=>I.pin p (P4 _ (RV _ a))
end
abbrev R2:=V->V->Hp->VK->Prop
def QP(X:Cx)(f:Value->Value->Sem Value)(r:R2):Prop :=
 ∀ (a:yab) (s:Shared) (b:St) (H:Hp) (x y:V) (v u:Value) (Q:VK),Inv X a b H s->RelV x v->RelV y u->r x y H Q →
  wpAny (model X.prog X.w) X.A (f v u) (EP X a b Q) X.xe s
def UnR(X:Cx)(f:Value->Sem Value)(r:V->Hp->VK->Prop):Prop :=
 ∀ (a:yab) (s:Shared) (b:St) (H:Hp) (x:V) (v:Value) (Q:VK),Inv X a b H s->RelV x v->r x H Q →
  wpAny (model X.prog X.w) X.A (f v) (EP X a b Q) X.xe s
def mr(X:Cx)(f:Value)(r:yar->Hp->VK->Prop):Prop :=
 ∀ (a:yab) (s:Shared) (b:St) (H:Hp) (c:yar) (d:yad) (Q:VK),Inv X a b H s->Vals c d->r c H Q →
  wpAny (model X.prog X.w) X.A (call f d) (EP X a b Q) X.xe s
def tOp(r:R2)(c b:TE):TE:=λa H Q=>c a H λx c=>b a c λy a=>r x y a Q
def tUn(r:V->Hp->VK->Prop)(b:TE):TE:=λa H Q=>b a H λx a=>r x a Q
def rI(C:Int->Int->Prop)(g:Int->Int->V):R2:=λx y H Q=>∃i j,x=.int i/\y=.int j/\C i j/\Q (g i j) H
def Ux(g:Int->Int->V):R2:=λx y H Q=>∃i j,x=.int i/\y=.int j/\Q (g i j) H
def rU(g:Int->V):V->Hp->VK->Prop:=λx H Q=>∃i,x=.int i/\Q (g i) H
section
variable{X:Cx}{a b c:Expr}{ta tb tc:TE}{pos:Pos}
def LG(k:PE X a ta)(n:PE X b tb){d:yab}{s:Shared}{e:St}{H:Hp}{R:V->V->Hp->Prop}(I:Inv X d e H s)
  (h:ta e H λx j=>tb e j λy g=>R x y g) {Q:yaa} {f:Value->Value->Sem Value}
  (m:∀v u i x y g,Inv X d e g i->RelV x v->RelV y u->R x y g->wpAny (model X.prog X.w) X.A (f v u) Q X.xe i) :
  wpAny (model X.prog X.w) X.A (eval a X.env) (λv l=>wpAny (model X.prog X.w) X.A (eval b X.env) (λu o=>wpAny (model X.prog X.w) X.A (f v u) Q X.xe o) X.xe l) X.xe s:=by
 refine Mw (k d s e H _ I h) λv h f=>?_
 obtain⟨x,j,o,k,l⟩:=f;refine Mw (n d h e j _ o l) λu i f=>?_
 obtain⟨y,g,h,d,e⟩:=f;exact m v u i x y g h k d e
def Ln(i:UnR X (unaryOp op) r)(f:PE X a ta):PE X (.UnaryOp op a pos) (tUn r ta):=by intro d s e H Q I h;exact UnaryOp_ (Mw (f d s e H _ I h) λv f j=>(by obtain⟨x,l,k,g,h⟩:=j;exact i d f e l x v Q k g h))
def opI{f:Value->Value->Sem Value}{C:Int->Int->Prop}{g:Int->Int->Int}
  (rule:∀(i j:Int) (t u:Tok) (s:Shared) (Q:yaa) (E:yaa),C i j->Q (.int (g i j) s.toks) {s with toks:=s.toks+1}->wpAny (model X.prog X.w) X.A (f (.int i t) (.int j u)) Q E s) :
  QP X f (rI C λi j=>.int (g i j)):=by
 intro pins s σ H x y v u Q I d e h;obtain⟨i,j,rfl,rfl,f,q⟩:=h;obtain⟨t,rfl⟩:=d;obtain⟨d,rfl⟩:=e;exact rule i j t d s _ _ f ⟨.int (g i j),H,I.tok _,⟨_,rfl⟩,q⟩
def J9{f:Value->Value->Sem Value}{g:Int->Int->Int}
  (rule:∀(i j:Int) (t u:Tok) (s:Shared) (Q:yaa) (E:yaa),Q (.int (g i j) s.toks) {s with toks:=s.toks+1}->wpAny (model X.prog X.w) X.A (f (.int i t) (.int j u)) Q E s) :
  QP X f (Ux λi j=>.int (g i j)):=by
 intro pins s σ H x y v u Q I d e h;obtain⟨i,j,rfl,rfl,q⟩:=h;obtain⟨t,rfl⟩:=d;obtain⟨d,rfl⟩:=e;exact rule i j t d s _ _ ⟨.int (g i j),H,I.tok _,⟨_,rfl⟩,q⟩
def Bo{f:Value->Value->Sem Value}{g:Int->Int->Bool}
  (rule:∀(i j:Int) (t u:Tok) (s:Shared) (Q:yaa) (E:yaa),Q (.bool (g i j)) s->wpAny (model X.prog X.w) X.A (f (.int i t) (.int j u)) Q E s) :
  QP X f (Ux λi j=>.bl (g i j)):=by
 intro pins s σ H x y v u Q I d e h;obtain⟨i,j,rfl,rfl,q⟩:=h;obtain⟨t,rfl⟩:=d;obtain⟨d,rfl⟩:=e;exact rule i j t d s _ _ ⟨.bl (g i j),H,I,rfl,q⟩
def As(i j:Int):Prop:=0<=j/\j<=1000000/\i.natAbs<2 ^ 64
def Ka:QP X (binaryOp .Add) (Ux λi j=>.int (i+j)):=J9 λ_ _ _ _ _ _ _ q=>add_int q
def Kc:QP X (binaryOp .Sub) (Ux λi j=>.int (i - j)):=J9 λ_ _ _ _ _ _ _ q=>sub_int q
def HA:QP X (binaryOp .Mod) (rI (λ_ j=>j≠0) λi j=>.int (i.fmod j)):=opI λ_ _ _ _ _ _ _ d q=>mod_int' d q
def Kb:QP X (binaryOp .Pow) (rI As λi j=>.int (i ^ j.toNat)):=opI λ_ _ _ _ _ _ _ d q=>pow_int_small d.1 d.2.1 d.2.2 q
def unI{f:Value->Sem Value}{g:Int->Int}
  (rule:∀(i:Int) (t:Tok) (s:Shared) (Q:yaa) (E:yaa),Q (.int (g i) s.toks) {s with toks:=s.toks+1}->wpAny (model X.prog X.w) X.A (f (.int i t)) Q E s) :
  UnR X f (rU λi=>.int (g i)):=by
 intro pins s σ H x v Q I d h;obtain⟨i,rfl,q⟩:=h;obtain⟨t,rfl⟩:=d;exact rule i t s _ _ ⟨.int (g i),H,I.tok _,⟨_,rfl⟩,q⟩
def DR:UnR X (unaryOp .USub) (rU λi=>.int (-i)):=unI λ_ _ _ _ _ q=>neg_int q
end
def x9:V->V->Bool
 |.MU,.MU=>true|.MU,.int _=>true|.int _,.MU=>true|.MU,.bl _=>true|.bl _,.MU=>true|.MU,.str _=>true|.str _,.MU=>true
 |.int _,.int _=>true|.bl _,.bl _=>true|.str _,.str _=>true|.TN _,.TN _=>true
 |.int _,.str _=>true|.str _,.int _=>true|.bl _,.str _=>true|.str _,.bl _=>true
 |_,_=>false
def rEq:R2:=λx y H Q=>x9 x y=true/\Q (.bl (decide (x=y))) H
def rNe:R2:=λx y H Q=>x9 x y=true/\Q (.bl (!decide (x=y))) H
def pH:decide (V.int i=V.int j)=(i==j):=by rw[Xq];simp
def Cg:decide (V.bl i=V.bl j)=(i==j):=by rw[Xq];simp
def zw:decide (V.str i=V.str j)=(i==j):=by rw[Xq];simp
def zu:decide (V.TN i=V.TN j)=(i.toList==j.toList):=by rw[Xq];cases i;cases j;simp
section
variable{X:Cx}{a b c:Expr}{ta tb tc:TE}{pos:Pos}
def bc{Q:VK}{d:Bool}(I:Inv X pins σ H s)(q:Q (.bl k) H)(e:k=d):EP X pins σ Q (.bool d) s:=by subst e;exact⟨.bl k,H,I,rfl,q⟩
def Le:QP X (compareOp .Eq) rEq:=by
 intro pins s σ H x y v u Q I g d h;obtain⟨f,q⟩:=h;cases x with
 |MU =>
  cases g;cases y with
  |MU=>cases d;exact PySem.EqNone.eq_none_none (bc I q (by simp))
  |bl j=>cases d;exact PySem.EqNone.eq_none_bool (bc I q (by simp))
  |int j=>obtain⟨e,rfl⟩:=d;exact PySem.EqNone.eq_none_int (bc I q (by simp))
  |str j=>obtain⟨e,rfl⟩:=d;exact PySem.EqNone.eq_none_str (bc I q (by simp))
  |_=>exact absurd (show false=true from f) QB
 |bl i =>
  cases g;cases y with
  |MU=>cases d;exact PySem.EqNone.eq_bool_none (bc I q (by simp))
  |bl j=>cases d;exact eq_bool (bc I q Cg)
  |str j=>obtain⟨e,rfl⟩:=d;exact PySem.EqMixed.eq_bool_str (bc I q (by simp))
  |_=>exact absurd (show false=true from f) QB
 |int i =>
  obtain⟨t,rfl⟩:=g;cases y with
  |MU=>cases d;exact PySem.EqNone.eq_int_none (bc I q (by simp))
  |int j=>obtain⟨e,rfl⟩:=d;exact eq_int (bc I q pH)
  |str j=>obtain⟨e,rfl⟩:=d;exact PySem.EqMixed.eq_int_str (bc I q (by simp))
  |_=>exact absurd (show false=true from f) QB
 |str i =>
  obtain⟨t,rfl⟩:=g;cases y with
  |MU=>cases d;exact PySem.EqNone.eq_str_none (bc I q (by simp))
  |bl j=>cases d;exact PySem.EqMixed.eq_str_bool (bc I q (by simp))
  |int j=>obtain⟨e,rfl⟩:=d;exact PySem.EqMixed.eq_str_int (bc I q (by simp))
  |str j=>obtain⟨e,rfl⟩:=d;exact eq_str (bc I q zw)
  |_=>exact absurd (show false=true from f) QB
 |TN i =>
  obtain⟨t,rfl⟩:=g;cases y with
  |TN j=>obtain⟨e,rfl⟩:=d;exact PySem.W.eq_bytes (bc I q zu)
  |_=>exact absurd (show false=true from f) QB
 |_=>cases y<;>exact absurd (show false=true from f) QB
def Lk:QP X (compareOp .NotEq) rNe:=by
 intro pins s σ H x y v u Q I g d h;obtain⟨f,q⟩:=h;cases x with
 |MU =>
  cases g;cases y with
  |MU=>cases d;exact PySem.EqNone.ne_none_none (bc I q (by simp))
  |bl j=>cases d;exact PySem.EqNone.ne_none_bool (bc I q (by simp))
  |int j=>obtain⟨e,rfl⟩:=d;exact PySem.EqNone.ne_none_int (bc I q (by simp))
  |str j=>obtain⟨e,rfl⟩:=d;exact PySem.EqNone.ne_none_str (bc I q (by simp))
  |_=>exact absurd (show false=true from f) QB
 |bl i =>
  cases g;cases y with
  |MU=>cases d;exact PySem.EqNone.ne_bool_none (bc I q (by simp))
  |bl j=>cases d;exact ne_bool (bc I q (congrArg not Cg))
  |str j=>obtain⟨e,rfl⟩:=d;exact PySem.EqMixed.ne_bool_str (bc I q (by simp))
  |_=>exact absurd (show false=true from f) QB
 |int i =>
  obtain⟨t,rfl⟩:=g;cases y with
  |MU=>cases d;exact PySem.EqNone.ne_int_none (bc I q (by simp))
  |int j=>obtain⟨e,rfl⟩:=d;exact ne_int (bc I q (congrArg not pH))
  |str j=>obtain⟨e,rfl⟩:=d;exact PySem.EqMixed.ne_int_str (bc I q (by simp))
  |_=>exact absurd (show false=true from f) QB
 |str i =>
  obtain⟨t,rfl⟩:=g;cases y with
  |MU=>cases d;exact PySem.EqNone.ne_str_none (bc I q (by simp))
  |bl j=>cases d;exact PySem.EqMixed.ne_str_bool (bc I q (by simp))
  |int j=>obtain⟨e,rfl⟩:=d;exact PySem.EqMixed.ne_str_int (bc I q (by simp))
  |str j=>obtain⟨e,rfl⟩:=d;exact ne_str (bc I q (congrArg not zw))
  |_=>exact absurd (show false=true from f) QB
 |TN i =>
  obtain⟨t,rfl⟩:=g;cases y with
  |TN j=>obtain⟨e,rfl⟩:=d;exact PySem.W.ne_bytes (bc I q (congrArg not zu))
  |_=>exact absurd (show false=true from f) QB
 |_=>cases y<;>exact absurd (show false=true from f) QB
def Lj:QP X (compareOp .Lt) (Ux λi j=>.bl (decide (i<j))):=Bo λ_ _ _ _ _ _ _ q=>lt_int q
def Lh:QP X (compareOp .LtE) (Ux λi j=>.bl (decide (i<=j))):=Bo λ_ _ _ _ _ _ _ q=>le_int q
def Lg:QP X (compareOp .Gt) (Ux λi j=>.bl (decide (j<i))):=Bo λ_ _ _ _ _ _ _ q=>gt_int q
def Lf:QP X (compareOp .GtE) (Ux λi j=>.bl (decide (j<=i))):=Bo λ_ _ _ _ _ _ _ q=>ge_int q
def HC:QP X (compareOp .IsNot) (λx y H Q=>y=.MU/\Q (.bl (!decide (x=.MU))) H):=by
 intro pins s σ H x y v u Q I d e h;obtain⟨rfl,q⟩:=h;cases e;refine isnot_none_gen (bc I q ?_);cases x<;>first
  |(cases d;rfl)
  |(obtain⟨t,rfl⟩:=d;rfl)
def xC:(sizeLine:Nat)<2 ^ 63:=by rw[sizeLine_eq];decide
def vals1{x:V}(r:Vals [x] us):∃u,us=[u]/\RelV x u:=by
 cases r with
 |cons e d=>cases d;exact⟨_,rfl,e⟩
def vals2{x y:V}(r:Vals [x,y] us):∃u d,us=[u,d]/\RelV x u/\RelV y d:=by
 cases r with
 |cons f d =>
  cases d with
  |cons e d=>cases d;exact⟨_,_,rfl,f,e⟩
def El:mr X (.builtin "abs") (λxs H Q=>∃i,xs=[.int i]/\Q (.int (if i<0 then -i else i)) H):=by intro pins s σ H xs us Q I r h;obtain⟨i,rfl,q⟩:=h;obtain⟨u,rfl,t,rfl⟩:=vals1 r;exact call_abs_int λu tk=>⟨.int (if i<0 then -i else i),H,I.tok _,⟨_,rfl⟩,q⟩
def B2 (d:X.calm=true):mr X (.builtin "max") (λxs H Q=>∃i j,xs=[.int i,.int j]/\Q (.int (if j > i then j else i)) H):=by
 intro pins s σ H xs us Q I r h;obtain⟨i,j,rfl,q⟩:=h;obtain⟨u,w',rfl,⟨t,rfl⟩,⟨t',rfl⟩⟩:=vals2 r;refine max_two_ints (I.ok.hd d) λh' tk k=>⟨_,H,I.kept k,?_,q⟩
 by_cases d:j > i
 ·rw[Ml d,Ml d];exact⟨_,rfl⟩
 ·rw[Mj d,Mj d];exact⟨_,rfl⟩
def B3 (d:X.calm=true):mr X (.builtin "min") (λxs H Q=>∃i j,xs=[.int i,.int j]/\Q (.int (if j<i then j else i)) H):=by
 intro pins s σ H xs us Q I r h;obtain⟨i,j,rfl,q⟩:=h;obtain⟨u,w',rfl,⟨t,rfl⟩,⟨t',rfl⟩⟩:=vals2 r;refine min_two_ints (I.ok.hd d) λh' tk k=>⟨_,H,I.kept k,?_,q⟩
 by_cases d:j<i
 ·rw[Ml d,Ml d];exact⟨_,rfl⟩
 ·rw[Mj d,Mj d];exact⟨_,rfl⟩
end
structure D9(h:Heap)(x dx C:Addr)(mA:yam):Prop where
 obj:h.get? x=some (PySem.W.instObj C dx)
 ns:h.Ns1 dx mA
 ne:dx≠x
set_option tactic.hygienic true in
def CL{h:Heap}(n:h.Ns1 dx mA):∃a,h.get? dx=some a/\∀name,PySem.W.lookIn name a=some (mA name):=by
 obtain⟨o,c,ep,a,d,f,_,b⟩:=n;refine⟨o,a,λname=>?_⟩;have e:=b name;unfold nsFind findBy at e;rw[<- Array.find?_toList]at e;unfold PySem.W.lookIn;rw[d];dsimp only;split
 ·rename_i y q;rw[q]at e;exact congrArg some e
 ·rename_i q;rw[q]at e;have a:c.toList.any (·.refKey)=false:=by
   rw[List.any_eq_false];intro y d;obtain⟨z,t,b⟩:=f y (Array.mem_toList_iff.mp d);simp[DictEntry.refKey,b]
  have b:¬c.toList.any (·.refKey)=true:=by rw[a];exact QB
  rw[Mj b];exact congrArg some e
def D9.look(I:D9 h x dx C mA):∃a,PySem.W.InstAt h x (PySem.W.instObj C dx) C (some a)/\∀name,PySem.W.lookIn name a=some (mA name) :=
 let ⟨a,ho,hl⟩:=CL I.ns
 ⟨a,⟨I.obj,rfl,rfl,ho⟩,hl⟩
def jz.some_of{v:V}(r:jz (some v) o):∃u,o=some u/\RelV v u:=by
 cases o with
 |none=>exact(show False from r).elim
 |some u=>exact⟨u,rfl,r⟩
structure Nl(K:yac)(C:Addr):Prop where
 pg:PySem.W.plainGet K C Str.empty=true
 hd:PySem.W.hasDictIn K C=true
 po:PySem.W.plainOver K C=true
 sa:PySem.W.findIn K (.ref C) "__setattr__" = some (some (.builtin "object.__setattr__"))
structure Con(K:yac)(C:Addr)(f:Str)(v:V)(u:Value):Prop where
 at_:PySem.W.findIn K (.ref C) f=some (some u)
 rel:RelV v u
 get:PySem.W.specialIn K u "__get__" = some none
 cp:PySem.W.copiedNames.contains f=false
structure Meth(K:yac)(C:Addr)(m:Str)(f:Addr):Prop where
 at_:PySem.W.findIn K (.ref C) m=some (some (.ref f))
 fn:PySem.W.isFn K (.ref f)=true
 kp:PySem.W.keepIn K (.ref f)=true
section
variable{X:Cx}{pins:yab}{σ:St}{H:Hp}{s:Shared}{A:Around}{E:yaa}{Q:yaa}{c:Value}{b:Bool}
inductive ki (K:yac) (H:Hp):V->Value->Prop where
 |MU:ki K H .MU (.type "NoneType")
 |bl (x:Bool):ki K H (.bl x) (.type "bool")
 |int (i:Int):ki K H (.int i) (.type "int")
 |str (x:Str):ki K H (.str x) (.type "str")
 |Yq (x:UInt64):ki K H (.Yq x) (.type "float")
 |lst {a:Addr} {xs:yar} (e:H a=some (.lst xs)):ki K H (.ref a) (.type "list")
 |frz {a:Addr} {o:Obj} {xs:yar} (e:H a=some (.frz o (.lst xs))):ki K H (.ref a) (.type "list")
 |tup {a:Addr} {xs:yar} (e:H a=some (.tup xs)):ki K H (.ref a) (.type "tuple")
 |dK {a:Addr} {kvs:List (Key×V)} (e:H a=some (.dK kvs)):ki K H (.ref a) (.type "dict")
 |dT {a:Addr} {kvs:List (List Key×V)} (e:H a=some (.dT kvs)):ki K H (.ref a) (.type "dict")
 |ins {a C dx:Addr} {fs:List (Str×V)} (e:H a=some (.ins C dx fs)) (cl:Nl K C) (ha:PySem.W.findIn K (.ref C) "__class__" = some (some (.builtin "object.__class__")))
   (hn:PySem.W.specialIn K (.builtin "object.__class__") "__get__" = some (some (.builtin "getset_descriptor.__get__"))) (htk:PySem.W.takesIn K (.builtin "object.__class__")=some true)
   (hm:PySem.W.mroIn K C (.type "object")=some true):ki K H (.ref a) (.ref C)
end
structure cF(k:Nat)(A:Around):Prop where
 hd:A.handled=none
 dp:A.depth+3*k+5<recursionLimit
 un:A.units+16*k+200<cLine
def cF.mono{j:Nat}(r:cF k A)(h:j<=k):cF j A:=⟨r.hd,by have:=r.dp;lia,by have:=r.un;lia⟩
theorem cF.deeper{k:Nat}(r:cF (k+1) A)(env:Env):cF k (A.deeper env) :=
 ⟨r.hd,by have:=r.dp;show A.depth+1+3*k+5<_;lia,by have:=r.un;show A.units+3+16*k+200<_;lia⟩
theorem cF.depth(r:cF k A):A.depth<recursionLimit:=by have:=r.dp;lia
theorem cF.units(r:cF k A):A.units+64<cLine:=by have:=r.un;lia
def KH:TA:=λ_ H Q=>Q [] H
def BC(c:TE)(b:TA):TA:=λa H Q=>c a H λx c=>b a c λa b=>Q (x::a) b
section
variable{X:Cx}{e:Expr}{es:yai}{te:TE}{t:TA}{pos:Pos}
def oM:PA X [] KH:=λ_ _ _ _ H Q I h=>Calls.spliced_nil ⟨[],H,I,.nil,h⟩
def j9(c:PE X e te)(g:PA X es t)(hs:starEach (e::es) X.env=(false,eval e X.env)::starEach es X.env:=by rfl):PA X (e::es) (BC te t):=by intro pos a s b H Q I h;rw[hs];show wpAny _ _ (spliced ((false,eval e X.env)::backTo pos (starEach es X.env))) _ _ s;refine Calls.spliced_cons (Mw (c a s b H _ I h) λu c h=>?_);obtain⟨x,j,i,d,f⟩:=h;exact Mw (g pos a c b j _ i f) λus s2 f=>(by obtain⟨a,h,g,b,c⟩:=f;exact⟨x::a,h,g,.cons d b,c⟩)
end
abbrev Sp:=yar->Hp->VK->XK->Prop
abbrev CXT:=List Env->Hp->Shared->XK->yaa
structure Au(P:Program)(w:World)(K:yac)(mg:yam)(base:Heap)(A:Around)(outer:List Env)(s:Shared)(H:Hp):Prop where
 frames:A.frames=some outer
 mod:Mod K mg base
 bs:∀b o,base.get? b=some o->s.heap.get? b=some o/\H b=none
 VG:base.objs.size<=s.heap.objs.size
 PT:s.heap.FunFrames base outer
 Wl:∀b∈Qw outer,H b=none
 MF:Ox P w H s.heap
 bare:AllBare s.gens
def CE(outer:List Env)(P:Program)(w:World)(H:Hp)(s:Shared)(Q:VK)(u:Value)(a:Shared):Prop :=
 ∃ v b,a.os=s.os/\AllBare a.gens/\Un (Qw outer) [] H b s.heap a.heap/\Ox P w b a.heap/\RelV v u/\Q v b
def CR(CX:CXT)(outer:List Env)(P:Program)(w:World)(H:Hp)(s:Shared)(Q:VK)(E:XK)(r:Result)(a:Shared):Prop :=
 match r with
 |.ok (.ret u)=>CE outer P w H s Q u a
 |.ok _=>False
 |.error e=>CX outer H s E e a
structure aM(P:Program)(w:World)(K:yac)(mg:yam)(base:Heap)(CX:CXT)(k:Nat)(f:Addr)(fd:FuncData)(ps:yah)(sp:Sp):Prop where
 len:∀vs H Q E,sp vs H Q E->vs.length=ps.length
 run:∀(A:Around) (outer:List Env) (s:Shared) (H:Hp) (args:Args) (us:yad) (vs:yar) (Q:VK) (E:XK),cF k A->Au P w K mg base A outer s H->BindsTo s fd args (ps.zip us)->Vals vs us->sp vs H Q E →
  codeAny (model P w) A (.call (.ref f) args) (CR CX outer P w H s Q E) s
section
variable{X:Cx}{pins:yab}{σ:St}{H:Hp}{s s':Shared}
def Inv.env0(I:Inv X pins σ H s):Au X.prog X.w X.K X.mg X.base X.A X.stack s H :=
 ⟨I.ok.frames,I.ok.mod,I.bs,Pa I.ok.VG I.sz,I.stack,I.P7,I.MF,I.bare⟩
def Inv.after(I:Inv X pins σ H s)(h:CE X.stack X.prog X.w H s Q u s'):EP X pins σ Q u s':=by obtain⟨v,f,os,a,un,e,r,q⟩:=h;obtain⟨c,g,d,t,b⟩:=s';obtain rfl:b=s.os:=os;exact⟨v,f,I.call (h':=c) (g':=g) (d':=d) (t':=t) (ch:=[]) un e a (λb z=>absurd z (by simp)),r,q⟩
end
def Binds(K:yac)(b:FuncData)(ps:yah)(ds:yad):Prop :=
 ∀ (s:Shared) (a:yad),K.In s.heap->(a++ds).length=ps.length->BindsTo s b ⟨a,[]⟩ (ps.zip (a++ds))
def Binds.all{K:yac}{b:FuncData}{ps:yah}(h:∀a:yad,a.length=ps.length->bindArgs b ⟨a,[]⟩=pure (ps.zip a)):Binds K b ps []:=λs a _ b=>by rw[Tn]at b ⊢;exact .of_eq (h a b)
def Passes(CX:CXT)(X:Cx)(E:XK):Prop:=∀(a:yab) (c:St) (H:Hp) (s:Shared) (e:Value) (b:Shared),Inv X a c H s->CX X.stack H s E e b->X.xe e b
section
variable{X:Cx}{CX:CXT}{k:Nat}{f C:Addr}{fd:FuncData}{ps:yah}{sp:Sp}{dvs:yar}{ds:yad}{E:XK}{x m:Str}{p pos apos:Pos}{e o:Expr}{es:yai}{ta:TE}{t:TA}
def Ks(F:aM X.prog X.w X.K X.mg X.base CX k f fd ps sp)(b:cF k X.A)(g:Binds X.K fd ps ds)(d:Vals dvs ds)(c:Passes CX X E)
  (I:Inv X pins σ H s) (r:Vals vs us) (h:sp (vs++dvs) H Q E):wpAny (model X.prog X.w) X.A (call (.ref f) us) (EP X pins σ Q) X.xe s:=by
 have a:Vals (vs++dvs) (us++ds):=r.append d;have d:(us++ds).length=ps.length:=by rw[<- a.length];exact F.len _ _ _ _ h
 refine wpAny_call (codeAny_mono (F.run X.A X.stack s H ⟨us,[]⟩ (us++ds) (vs++dvs) Q E b I.env0 (g s us I.Rw d) a h) λr b a=>?_);cases r with
 |error e=>exact c pins σ H s e b I a
 |ok b =>
  cases b with
  |ret u=>exact I.after a
  |next=>exact False.elim a
  |brk=>exact False.elim a
  |cont=>exact False.elim a
structure Mk(K:yac)(C f:Addr):Prop where
 makes:PySem.W.makesIn K C=true
 init:PySem.W.findIn K (.ref C) "__init__" = some (some (.ref f))
 fn:PySem.W.isFn K (.ref f)=true
 kp:PySem.W.keepIn K (.ref C)=true
end
section
variable{X:Cx}{CX:CXT}{k:Nat}{f C:Addr}{fd:FuncData}{ps ks:yah}{sp:Sp}{E:XK}{x m:Str}{p pos apos kpos:Pos}{e o:Expr}{es:yai}{kws:List Keyword}{te ta:TE}{t tk:TA}{nm:Option Str}
structure L8(K:yac)(fd:FuncData)(ps ks:yah)(g:yad->yad->yad)(gV:yar->yar->yar):Prop where
 to:∀(s:Shared) (us ws:yad),K.In s.heap->(g us ws).length=ps.length->BindsTo s fd ⟨us,ks.zip ws⟩ (ps.zip (g us ws))
 rel:∀{vs:yar} {us:yad} {zs:yar} {ws:yad},Vals vs us->Vals zs ws->Vals (gV vs zs) (g us ws)
variable{g:yad->yad->yad}{gV:yar->yar->yar}
end
structure aB(N P:yah)(sc:Scope):Prop where
 kind:sc.kind=.function
 co:sc.isCoroutine=false
 gen:sc.isGenerator=false
 nd:N.Nodup
 pre:N.take P.length=P
 par:∀x∈P,sc.names.lookup x=some .local∨sc.names.lookup x=some .cell
 Wq:∀y∈sc.names,y.2 ≠ .free
theorem uM{kindOf:Str->Option NameKind}{x:Str}:∀{a:List (Str×Value)} {m:yam},(∀v,(x,v)∉a)->bindL kindOf a m x=m x
 |[],_,_=>rfl
 |(n,v)::r,m,h=>by
  unfold bindL;rw[uM λw a=>h w (Ni _ a)];split
  ·have:x≠n:=by rintro rfl;exact h v OB
   simp[this]
  ·rfl
theorem uK{kindOf:Str->Option NameKind}{x:Str}:∀{a:List (Str×Value)} {m:yam},(∀v,(x,v)∉a)->bindC kindOf a m x=m x
 |[],_,_=>rfl
 |(n,v)::r,m,h=>by
  unfold bindC;rw[uK λw a=>h w (Ni _ a)];split
  ·rfl
  ·have:x≠n:=by rintro rfl;exact h v OB
   simp[this]
theorem uL{kindOf:Str->Option NameKind}{x:Str}{v:Value}:∀{P:yah} {vs:yad} {i:Nat} {m:yam},P.Nodup->P[i]?=some x->vs[i]?=some v->kindOf x=some .local →
  bindL kindOf (P.zip vs) m x=some v
 |[],_,_,_,_,h,_,_=>by simp at h
 |_::_,[],_,_,_,_,h,_=>by simp at h
 |p::P,w::vs,0,m,c,b,a,d=>by simp at b a;subst b;subst a;show bindL kindOf ((p,w)::P.zip vs) m p=_;unfold bindL;rw[uM λv e=>(R0.mp c).1 (VA e).1,Ml d];simp
 |p::P,w::vs,i+1,m,c,b,a,d=>by show bindL kindOf ((p,w)::P.zip vs) m x=_;unfold bindL;exact uL (i:=i) (R0.mp c).2 (by simpa using b) (by simpa using a) d
theorem uJ{kindOf:Str->Option NameKind}{x:Str}{v:Value}:∀{P:yah} {vs:yad} {i:Nat} {m:yam},P.Nodup->P[i]?=some x->vs[i]?=some v->kindOf x≠some .local →
  bindC kindOf (P.zip vs) m x=some v
 |[],_,_,_,_,h,_,_=>by simp at h
 |_::_,[],_,_,_,_,h,_=>by simp at h
 |p::P,w::vs,0,m,c,b,a,d=>by simp at b a;subst b;subst a;show bindC kindOf ((p,w)::P.zip vs) m p=_;unfold bindC;rw[uK λv e=>(R0.mp c).1 (VA e).1,Mj d];simp
 |p::P,w::vs,i+1,m,c,b,a,d=>by show bindC kindOf ((p,w)::P.zip vs) m x=_;unfold bindC;exact uJ (i:=i) (R0.mp c).2 (by simpa using b) (by simpa using a) d
noncomputable def start(N:yah)(vs:yar):St:=vs.map some++List.replicate (N.length - vs.length) none
noncomputable def dI(CX:CXT)(P:Program)(w:World)(K:yac)(mg:yam)(base:Heap)(N:yah)(b:Str)(a:Scope)(f:Addr)(c:Value)(A:Around)(outer:List Env)(s:Shared)(H:Hp)(E:XK):Cx where
 prog:=P
 w:=w
 K:=K
 mg:=mg
 base:=base
 A:=A.deeper (envOfC b a s.heap.objs.size f c)
 N:=N
 ME:=s
 MR:=H
 env:=envOfC b a s.heap.objs.size f c
 outer:=outer
 stack:=envOfC b a s.heap.objs.size f c::outer
 ex:=[]
 calm:=true
 fn:=λ_=>true
 pn:=[]
 xe:=λe d=>wpAny (model P w) (A.deeper (envOfC b a s.heap.objs.size f c)) (leaving (envOfC b a s.heap.objs.size f c) e) (λ_ a=>CX outer H s E e a) (λb a=>CX outer H s E b a) d
def wx{a:Scope}(h:a.names.lookup x=some .cell):∃c,(cellsFrom n a.names []).lookup x=some c:=by have q:=PySem.W.cellsFrom_some a.names n [] (.inl h);exact Option.isSome_iff_exists.mp q
def Cy{CX:CXT}{P:Program}{w:World}{K:yac}{e:yam}{base:Heap}{N ps:yah}{a:Str}{d:Scope}{f:Addr}{c:Value}{A:Around}{outer:List Env}{s h:Shared}{H:Hp}{E:XK}{b:yad}{vs:yar}
  (S:aB N ps d) (l:A.handled=none) (g:Au P w K e base A outer s H) (hl:vs.length=ps.length) (r:Vals vs b)
  (x:InCallC s s.heap.objs.size (bindL (envOfC a d s.heap.objs.size f c).kindOf (ps.zip b) λ_=>none) (cellsFrom (s.heap.objs.size+1) d.names []) (bindC (envOfC a d s.heap.objs.size f c).kindOf (ps.zip b) λ_=>none) h) :
  Inv (dI CX P w K e base N a d f c A outer s H E) [] (start N vs) H h:=by
 have N6:ps.length<=N.length:=by have:=congrArg List.length S.pre;rw[RZ]at this;lia
 obtain⟨j,tk,rfl,k⟩:=x.done;have i:∀b:Addr,b∉(dI CX P w K e base N a d f c A outer s H E).ex:=λb z=>absurd (show b∈([]:yae)from z) (by simp)
 refine⟨⟨g.mod,S.kind,rfl,rfl,MS _,λy z c j f=>?_,λy a=>?_,λy c _ h=>?_,λ_=>l,Around.frames_deeper g.frames,.inr ⟨rfl,rfl⟩,λb z=>absurd z (i b),g.bs,g.VG,λb _ _=>i b,λb z=>absurd z (i b),g.PT,g.Wl⟩,
  rfl,g.bare,Un.kept k,⟨_,x.toInCall.ns,λi y v j f h3=>?_⟩,λy c h=>⟨_,x.cell y c h⟩,g.MF.fresh (MS _),λy c h=>?_,λp b=>absurd (show p∈([]:yab)from b) (by simp),g.MF.kept k,?_⟩
 ·exact name_of_addr x.apart (PySem.mem_of_lookup j) (PySem.mem_of_lookup f)
 ·have a:d.names.lookup y=some .cell∨d.names.lookup y=some .free:=a;rcases a with a|a
  ·exact wx a
  ·exact absurd rfl (S.Wq _ (PySem.mem_of_lookup a))
 ·exact Sx (x.above y c (PySem.mem_of_lookup h))
 ·have a:i<vs.length:=by
   unfold start at f;by_cases a:i<vs.length
   ·exact a
   ·rw[RI (by simpa using a)]at f;rw[Xe]at f;split at f<;>cases f
  have l:vs[i]?=some v:=by
   unfold start at f;rw[RK (by simpa using a),Nj]at f;cases e:vs[i]? with
   |none=>rw[e]at f;cases f
   |some a=>rw[e]at f;cases f;rfl
  obtain⟨u,f,k⟩:=r.get l;have b:ps[i]?=some y:=by rw[<- S.pre,List.getElem?_take_of_lt (by lia)];exact j
  have a:ps.Nodup:=by rw[<- S.pre];exact S.nd.sublist (List.take_sublist _ _)
  refine⟨u,k,?_⟩;rcases S.par y (NF b)with k|k
  ·exact .inl ⟨k,uL a b f k⟩
  ·obtain⟨c,e⟩:=wx (n:=s.heap.objs.size+1) k;refine .inr ⟨.inl k,c,e,?_⟩;have q:=x.cell y c e;rw[uJ a b f (by show d.names.lookup y≠_;rw[k];decide)]at q;exact q
 ·exact g.MF.fresh (Sx (x.above y c (PySem.mem_of_lookup h)))
 ·unfold start;show _=N.length;rw[Od,Mq,X8]
  lia
def Gd{CX:CXT}{P:Program}{w:World}{K:yac}{i:yam}{base:Heap}{k:Nat}{f:Addr}{name c:Str}{b:Arguments}{d:yal}{a:Scope}{l kV h j g m p:Value}{n o:Option Addr}
  {q:Array (yan)} {N ps:yah} {sp:Sp} (lk:K.lookup f=some ⟨p,o,.func (PySem.W.fnOf name c b d a l kV h j n g m),q⟩) (x:PySem.W.codeIn K g c=true) (S:aB N ps a)
  (e:∀vs H Q E,sp vs H Q E->vs.length=ps.length)
  (z:∀(A:Around) (outer:List Env) (s:Shared) (H:Hp) (vs:yar) (Q:VK) (E:XK),cF k (A.deeper (envOfC c a s.heap.objs.size f g))->sp vs H Q E →
   ∃ t,PSs (dI CX P w K i base N c a f g A outer s H E) d t/\t {nx:=λ_ H'=>Q .MU H',rt:=Q} (start N vs) H) :
  aM P w K i base CX (k+1) f (PySem.W.fnOf name c b d a l kV h j n g m) ps sp:=by
 refine⟨e,λA outer s H args m vs Q E j d u r k=>?_⟩;have p:=e _ _ _ _ k;have l:K.In s.heap:=d.mod.Yt.keeps λb o e=>(d.bs b o e).1
 have h:s.heap.NoLimit:=d.mod.nolimit.keeps λb o e=>(d.bs b o e).1
 have o:∀y∈ps.zip m,a.names.lookup y.1=some .local∨(a.names.lookup y.1=some .cell/\((cellsFrom (s.heap.objs.size+1) a.names []).lookup y.1).isSome=true):=λ⟨n,v⟩ b=>by
  rcases S.par n (VA b).1 with q|q
  ·exact .inl q
  ·exact .inr ⟨q,PySem.W.cellsFrom_some _ _ _ (.inl q)⟩
 refine codeAny_call_function j.depth (l _ _ lk) rfl S.co S.gen rfl (PySem.W.codeRec_of l x) (u _ _ _ _ ?_);refine wpAny_newFunctionEnv_cells S.kind o λenv l b x=>?_
 subst l;refine⟨h.keeps x.toInCall.keep,codeAny_func ?_⟩;obtain⟨t,h,l⟩:=z A outer s H vs Q E (j.deeper _) k;have I:Inv (dI CX P w K i base N c a f g A outer s H E) [] (start N vs) H b:=Cy S j.hd d p r x;refine P6 (h [] b (start N vs) H _ I l) (λj h b=>?_) λe h b=>b
 have d:∀{e:St} {H':Hp} {v:V} {u:Value},Inv (dI CX P w K i base N c a f g A outer s H E) [] e H' h->RelV v u->Q v H'->CE outer P w H s Q u h :=
  fun {e H' v u} J a q=>⟨v,H',J.os,J.bare,J.base,J.MF,a,q⟩
 cases j with
 |ret u =>
  obtain⟨v,e,H',J,a,q⟩:=b;exact d J a q
 |next =>
  obtain⟨e,H',J,q⟩:=b;exact d (v:=V.MU) (u:=Value.none) J rfl q
 |brk =>
  obtain⟨_,_,_,q⟩:=b;exact False.elim q
 |cont =>
  obtain⟨_,_,_,q⟩:=b;exact False.elim q
section
variable{X:Cx}{x:Str}{p pos:Pos}{e:Expr}{es:yai}{t:TA}{id T:String}{r:yar->Hp->VK->Prop}
def tCB(r:yar->Hp->VK->Prop)(t:TA):TE:=λa H Q=>t a H λa b=>r a b Q
def Dc (j:mr X (.type T) r) (g:Gl X x) (f:X.mg x=none) (c:bootBuiltins x=some (.type T)) (k:PA X (e::es) t) (d:x ≠ "__name__" := by decide) (l:(x==("__debug__" : Str))=false:=by decide)
  (i:starEach (e::es) X.env=(false,eval e X.env)::starEach es X.env:=by rfl) (m:(backTo pos (starEach es X.env)).any (·.1)=false:=by rfl):PE X (.Call (.Name x p) (e::es) [] pos) (tCB r t):=by
 intro a s b H Q I h;refine Vx (dD I g f c ?_ d l);exact PyProof.Rows.callWith_type1 (Mw (k pos a s b H _ I h) λd f k=>(by obtain⟨c,n,l,g,h⟩:=k;exact j a f b n c d Q l g h)) i m
end
end L2
namespace HT
open PySem PyProof.Rows
noncomputable def lexLt:yaf->yaf->Bool
 |[],[]=>false
 |[],_::_=>true
 |_::_,[]=>false
 |x::b,y::a=>if x=y then lexLt b a else decide (x<y)
section
open PySem.SeqAt
open PySem.AutoSeq1 (wpAny_loadPart')
open PySem.MeetsSeq PySem.MeetsSeq2 PySem.MeetsSeq3
end
section
variable{prog:Program}{w:World}{A:Around}{E:yaa}{s:Shared}
noncomputable def MZ(n d:Nat):yaq->Nat
 |none=>d
 |some v=>if v<0 then(v+(n:Int)).toNat else min v.toNat n
theorem Fy(n d:Nat):MZ n d none=d:=rfl
def HY(n d k:Nat):MZ n d (some (k:Int))=min k n:=by show(if(k:Int)<0 then((k:Int)+(n:Int)).toNat else min (k:Int).toNat n)=min k n;rw[Mj (by lia),Xk]
def Kt(n d:Nat)(a:d<=n)(o:yaq):MZ n d o<=n:=by
 cases o with
 |none=>exact a
 |some v =>
  show(if v<0 then(v+(n:Int)).toNat else min v.toNat n)<=n;by_cases a:v<0
  ·rw[Ml a];lia
  ·rw[Mj a];exact Nat.min_le_right _ _
def ze(v:Int)(n d:Nat):(if v<0 then max (v+(n:Int)) 0 else min v (n:Int))=((MZ n d (some v):Nat):Int):=by
 show(if v<0 then max (v+(n:Int)) 0 else min v (n:Int))=(((if v<0 then(v+(n:Int)).toNat else min v.toNat n):Nat):Int);by_cases a:v<0
 ·simp only[Ml a];lia
 ·simp only[Mj a];lia
def AI(lo a:yaq)(n:Nat):Builtin.Slice.sliceAdjust lo a 1 (n:Int)=(((MZ n 0 lo:Nat):Int),((MZ n n a:Nat):Int)):=by
 have b:¬((1:Int)<0):=by lia
 unfold Builtin.Slice.sliceAdjust;simp only[b,if_false];refine QX ?_ ?_
 ·cases lo with
  |none=>rfl
  |some v=>exact ze v n 0
 ·cases a with
  |none=>rfl
  |some v=>exact ze v n n
def Bq(i j:Nat):Builtin.Slice.slicePlaces (i:Int) (j:Int) 1=j - i:=by
 unfold Builtin.Slice.slicePlaces;have a:(1:Int) > 0:=by lia
 simp only[a,if_true,Int.ediv_one];split<;>lia
def sR{Q:yaq->Shared->Prop}(p:IsPart v o)(h:Q o s):wpAny (model prog w) A (Builtin.Slice.slicePartIndex v) Q E s:=by
 cases p with
 |none=>exact slicePart_none h
 |int i t=>exact slicePart_int h
def qZ{d:Addr}{c b:Value}{lo a:yaq}{n:Nat}{Q:Int×Int×Nat->Shared->Prop}(hs:s.heap.IsSliceOf d c b .none)(g:IsPart c lo)(f:IsPart b a)
  (h:Q (((MZ n 0 lo:Nat):Int),1,MZ n n a - MZ n 0 lo) s):wpAny (model prog w) A (Builtin.Slice.sliceApplied (.ref d) (pure (n:Int))) Q E s:=by
 obtain⟨os,d,hcs,e⟩:=id hs;unfold Builtin.Slice.sliceApplied Builtin.Slice.sliceFields;refine Mh (Mh (Qe d e (x:=c) rfl (Mh (Qe d e (x:=b) rfl (Mh (Qe d e (x:=.none) rfl (Mt ?_)))))));refine Mh (slicePart_none ?_);show wpAny _ _ (if((1:Int)==0)=true then _ else _) _ _ s;rw[Mj (by decide)];refine Mh (sR g (Mh (sR f (Mh (Mt ?_)))));show wpAny _ _ (match Builtin.Slice.sliceAdjust lo a 1 (n:Int)with|(lo,a)=>pure (lo,(1:Int),Builtin.Slice.slicePlaces lo a 1)) _ _ s;rw[AI lo a n];show wpAny _ _ (pure (((MZ n 0 lo:Nat):Int),(1:Int),Builtin.Slice.slicePlaces ((MZ n 0 lo:Nat):Int) ((MZ n n a:Nat):Int) 1)) _ _ s;rw[Bq];exact Mt h
def Fn(xs:yao)(i k:Nat):((List.range k).filterMap λ(m:Nat)=>xs[((i:Int)+(m:Int)*1).toNat]?).toArray=((xs.toList.drop i).take k).toArray:=by
 have e:(λ(m:Nat)=>xs[((i:Int)+(m:Int)*1).toNat]?)=λm=>xs[i+m]?:=by
  funext m
  have:((i:Int)+(m:Int)*1).toNat=i+m:=by lia
  rw[this]
 rw[e];have:=pick_run xs i k;rw[List.filterMap_map]at this;have a:((λx=>xs[x]?)∘λx=>i+x)=λm=>xs[i+m]?:=rfl
 rw[a]at this;rw[this]
def p4{t d:Addr}{items:yao}{e c:Value}{lo a:yaq}{Q:yaa}(b:IsTup s.heap t items)(hs:s.heap.IsSliceOf d e c .none)(i:IsPart e lo)(g:IsPart c a)
  (j:¬(MZ items.size 0 lo=0/\MZ items.size items.size a=items.size))
  (h:Q (.ref s.heap.objs.size) {s with heap:=s.heap.push {cls:=.type "tuple", data:=.seq ((items.toList.drop (MZ items.size 0 lo)).take (MZ items.size items.size a - MZ items.size 0 lo)).toArray} })
  (hsz:items.size<=sizeLine):wpAny (model prog w) A (getItem (.ref t) (.ref d)) Q E s:=by
 have c:sizeOk (.seq ((items.toList.drop (MZ items.size 0 lo)).take (MZ items.size items.size a - MZ items.size 0 lo)).toArray):=by
  show((items.toList.drop (MZ items.size 0 lo)).take (MZ items.size items.size a - MZ items.size 0 lo)).toArray.size<=sizeLine;rw[Og,RZ,Xn,Po]
  lia
 have hj:MZ items.size items.size a<=items.size:=Kt _ _ (MS _) a;obtain⟨os,k,e,MP⟩:=id hs;have f:s.TypeIs (.ref d) "slice" := ⟨os,k,e⟩;unfold getItem
 try with_reducible refine Qv ?_
 first|refine Mh (Mt ?_)|skip
 refine Mh (wpAny_sequenceKey b.typeIs (by decide) ?_);refine Mh (UM (name:=Str.ofString "__getitem__") b.typeIs PyProof.Rows.slot_tuple_getitem
  (SU PyProof.Rows.slot_tuple_getitem b.typeIs entry_tuple_getitem ?_ (args_tuple_getitem _ _)))
 show wpAny _ _ (Builtin.Tuple.tupleItemsOf (.ref t) >>= _) _ _ s;refine Mh (tupleItemsOf_ b ?_);refine Mh (wpAny_typeOf f ?_);rw[Ml (by decide)];refine Mh (qZ hs i g ?_);have b:¬((((MZ items.size 0 lo:Nat):Int)==0 && (1:Int)==1 && (MZ items.size items.size a - MZ items.size 0 lo)==items.size)=true):=by intro q;rw[Ut,Ut]at q;have q1:((MZ items.size 0 lo:Nat):Int)=0:=eq_of_beq q.1.1;have q2:MZ items.size items.size a - MZ items.size 0 lo=items.size:=eq_of_beq q.2;exact j ⟨by lia,by lia⟩
 show wpAny _ _ (if(((MZ items.size 0 lo:Nat):Int)==0 && (1:Int)==1 && (MZ items.size items.size a - MZ items.size 0 lo)==items.size)=true then _ else _) _ _ s;rw[Mj b,Fn]
 first
  |exact Mh (m:=Builtin.Tuple.tupleExact _) (SO (Mt ⟨_,rfl,Mt h⟩) c)
  |exact Mh (m:=Builtin.Tuple.tupleExact _) (SO (Mh (Mt (Mt ⟨_,rfl,Mt h⟩))) c)
  |exact Mh (Mh (m:=Builtin.Tuple.tupleExact _) (SO (Mt (Mt ⟨_,rfl,Mt h⟩)) c))
  |exact Mh (Mh (m:=Builtin.Tuple.tupleExact _) (SO (Mt ⟨_,rfl,Mt h⟩) c))
end
end HT
namespace L2
open PySem PySem.Spec PyProof.Rows
abbrev TO:=St->Hp->(yaq->Hp->Prop)->Prop
def intsAre_of{ns:yaf}:∀{a:yad},Vals (ns.map V.int) a->IntsAre a ns:=by
 induction ns with
 |nil=>intro a r;rw[Sv]at r;cases r;exact .nil
 |cons n ns ih =>
  intro a r;rw[MN]at r;cases r with
  |cons b a =>
   obtain⟨t,e⟩:=b;subst e;exact .cons n t (ih a)
section
variable{X:Cx}{e:Expr}{te:TE}{lo hi:Option Expr}{tl th:TO}{pos p2:Pos}
def SlR(X:Cx)(r:V->yaq->yaq->Hp->VK->Prop):Prop :=
 ∀ (a:yab) (s:Shared) (b:St) (H:Hp) (x:V) (v d c:Value) (lo hi:yaq) (f:Addr) (Q:VK),Inv X a b H s->RelV x v->s.heap.IsSliceOf f d c .none->IsPart d lo->IsPart c hi->r x lo hi H Q →
  ∃ T id,typeLookup (.type T) "__getitem__" = pure (some (.builtin id))/\s.TypeIs v T/\wpAny (model X.prog X.w) X.A (getItem v (.ref f)) (EP X a b Q) X.xe s
def oh(xs:yar)(lo hi:yaq):yar:=(xs.drop (HT.MZ xs.length 0 lo)).take (HT.MZ xs.length xs.length hi - HT.MZ xs.length 0 lo)
def qk(xs:yar)(lo hi:yaq):(oh xs lo hi).length<=xs.length:=by
 unfold oh;rw[RZ,Xn]
 lia
def LZ(K:yac):V->yaq->yaq->Hp->VK->Prop:=λx lo hi H Q=>∃a b,x=.ref a/\MW K H a b ∧
 ¬ (HT.MZ b.length 0 lo=0/\HT.MZ b.length b.length hi=b.length)/\∀p,H p=none->Q (.ref p) (upd H p (.tup (oh b lo hi)))
def Ky:SlR X (LZ X.K):=by
 intro pins s σ H x v vl vu lo hi sl Q I b j g f h;obtain⟨a,c,rfl,a,i,q⟩:=h;cases b;obtain⟨h,r,b,d⟩:=I.tuple a;have a:h.toArray.size=c.length:=by rw[Og];exact r.length.symm
 refine⟨"tuple", _,PyProof.Rows.slot_tuple_getitem.lookup,b.typeIs,?_⟩;refine HT.p4 b j g f (by rw[a];exact i) ?_ (by rw[a];exact d);rw[a];refine⟨.ref s.heap.objs.size,_,I.laid (t':=s.toks) (o:=.tup (oh c lo hi)) (λb ob q=>Nd _ q) (MS _) ?_,rfl,q _ (I.MF.fresh (MS _))⟩;exact⟨Pa (qk c lo hi) d,_,(r.drop (HT.MZ c.length 0 lo)).take (HT.MZ c.length c.length hi - HT.MZ c.length 0 lo),IsTup.new _ _⟩
end
noncomputable def ixN(n:Nat)(i:Int):Option Nat:=if 0<=i then(if i<n then some i.toNat else none)else if -(n:Int)<=i then some (i+n).toNat else none
def Nx{a:Type}(xs:List a)(i:Int):Option a:=(ixN xs.length i).bind λj=>xs[j]?
def Hd{j:Nat}(h:ixN n i=some j):seqIndex? i n=some j/\j<n/\-(n:Int)<=i/\i<n:=by
 unfold ixN at h;by_cases b:0<=i
 ·rw[Ml b]at h;by_cases a:i<n
  ·rw[Ml a]at h;have e:i.toNat=j:=Pp h;exact⟨by rw[seqIndex_of b a,e],by lia,by lia,a⟩
  ·rw[Mj a]at h;cases h
 ·rw[Mj b]at h;by_cases a:-(n:Int)<=i
  ·rw[Ml a]at h;have e:(i+n).toNat=j:=Pp h;exact⟨by rw[seqIndex_neg (by lia) a,e],by lia,a,by lia⟩
  ·rw[Mj a]at h;cases h
def zd{a:Type}{xs:List a}{i:Int}{v:a}(h:Nx xs i=some v):∃j,seqIndex? i xs.length=some j/\xs[j]?=some v/\j<xs.length/\-(xs.length:Int)<=i/\i<xs.length:=by
 unfold Nx at h;cases e:ixN xs.length i with
 |none=>rw[e]at h;cases h
 |some j =>
  rw[e]at h;obtain⟨d,c,b,a⟩:=Hd e;exact⟨j,d,h,c,b,a⟩
def bg{a:Type}{xs:List a}{j:Nat}{v:a}(h:xs[j]?=some v):Nx xs (j:Int)=some v:=by
 have hj:j<xs.length:=(Nk.mp h).1;have e:ixN xs.length (j:Int)=some j:=by unfold ixN;rw[Ml (by lia),Ml (by lia)];simp
 unfold Nx;rw[e];exact h
def wo{a:Type}(xs:List a)(v:a):Nx (xs++[v]) (-1)=some v:=by
 have a:(xs++[v]).length=xs.length+1:=by simp
 have e:ixN (xs++[v]).length (-1)=some xs.length:=by
  unfold ixN;rw[a,Mj (by decide),Ml (by lia)];congr 1
  lia
 unfold Nx;rw[e];show(xs++[v])[xs.length]?=some v;simp
def zc(b:Expr):Prop:=∀o i,subscripted b false o i=operate [o,i] (getItem o i)
def IxR(X:Cx)(r:R2):Prop :=
 ∀ (c a:Expr) (b:yab) (s:Shared) (d:St) (H:Hp) (x y:V) (v u:Value) (Q:VK),Inv X b d H s->RelV x v->RelV y u->r x y H Q →
  subscripted a false v u=operate [v,u] (getItem v u)->wpAny (model X.prog X.w) X.A (subscriptTail c a v u) (EP X b d Q) X.xe s
def MtR(X:Cx)(id:String)(r:V->yar->Hp->VK->Prop):Prop :=
 ∀ (a:yab) (s:Shared) (b:St) (H:Hp) (x:V) (c:yar) (v:Value) (d:yad) (Q:VK),Inv X a b H s->RelV x v->Vals c d->r x c H Q →
  wpAny (model X.prog X.w) X.A (call (.builtin id) (v::d)) (EP X a b Q) X.xe s
section
variable{X:Cx}{a b:Expr}{ta tb:TE}{pos:Pos}
def Gh(i:IxR X r)(f:PE X a ta)(e:PE X b tb)(hs:zc b):PE X (.Subscript a b pos) (tOp r ta tb):=by intro c s d H Q I h;exact Subscript_ (LG f e I h λv u e x y j h g f q=>i a b c e d j x y v u Q h g f q (hs _ _))
def LX(K:yac):R2:=λx y H Q=>∃p c i v,x=.ref p/\y=.int i/\SqL K H p c/\Nx c i=some v/\Q v H
def Kn(K:yac):R2:=λx y H Q=>∃p c i v,x=.ref p/\y=.int i/\MW K H p c/\Nx c i=some v/\Q v H
def zI:IxR X (LX X.K):=by
 intro value slice c s k H x y v u Q I e d h l;obtain⟨p,xs,i,z,rfl,rfl,g,m,q⟩:=h;cases e;obtain⟨t,rfl⟩:=d;obtain⟨t,r,f,hz⟩:=I.list g;obtain⟨j,e,d,h3,p,o⟩:=zd m;obtain⟨w,m,g⟩:=r.get d;have n:=r.length;have hn:=xC;have d:EP X c k Q w s:=⟨z,H,I,g,q⟩;by_cases h:0<=i
 ·have g:i.toNat=j:=by
   rw[seqIndex_of h o]at e;exact Pp e
  exact item_listR f.isList h (by lia) (by rw[g];simpa using m) d l
 ·have g:(i+(t.toArray.size:Int)).toNat=j:=by
   rw[seqIndex_neg (by lia) p]at e;rw[Og,<- n];exact Pp e
  exact subscriptTail_builtinR (x:=w) f.isList.typeIs slot_list_getitem.lookup
   (wpAny_getItem_list_neg (Q:=λr e=>r=w/\EP X c k Q r e) f.isList (by lia) (by rw[Og]<;>lia) (by lia) (by rw[g];simpa using m) ⟨rfl,d⟩) l
def CI:IxR X (Kn X.K):=by
 intro value slice c s e H x y v u Q I f d h k;obtain⟨p,xs,i,z,rfl,rfl,g,i,q⟩:=h;cases f;obtain⟨t,rfl⟩:=d;obtain⟨Mp,r,f,hz⟩:=I.tuple g;obtain⟨j,l,d,h3,h4,h5⟩:=zd i;obtain⟨w,i,g⟩:=r.get d;have h:=r.length;have hn:=xC;have d:EP X c e Q w s:=⟨z,H,I,g,q⟩;exact subscriptTail_builtinR (x:=w) f.typeIs slot_tuple_getitem.lookup
  (getItem_tuple (j:=j) (Q:=λr g=>r=w/\EP X c e Q r g) f (by lia) (by lia) (by rw[Og,<- h];exact l) (by simpa using i) ⟨rfl,d⟩) k
theorem Inv.lst(I:Inv X pins σ H s)(h:H p=some (.lst xs)) :
  ∃ (c:yad) (n:Nat),Vals xs c/\s.heap.get? p=some {cls:=.type "list", data:=.seq c.toArray n}/\xs.length<=sizeLine:=by
 obtain⟨z,c,n,r,e⟩:=I.MF p _ h;exact⟨c,n,r,e,z⟩
def ya(lo c:yaq)(n:Nat):(sliceBounds lo c none n).1=((HT.MZ n 0 lo:Nat):Int)/\(sliceBounds lo c none n).2.1=((HT.MZ n n c:Nat):Int)/\(sliceBounds lo c none n).2.2=1:=by
 refine⟨?_,?_,rfl⟩
 ·cases lo with
  |none=>simp[sliceBounds,HT.MZ]
  |some i =>
   simp only[sliceBounds,HT.MZ,Option.getD_none,show(1:Int) > 0 by decide,if_true];by_cases h:i<0
   ·simp only[h,if_true]<;>lia
   ·simp only[h,if_false]<;>lia
 ·cases c with
  |none=>simp[sliceBounds,HT.MZ]
  |some i =>
   simp only[sliceBounds,HT.MZ,Option.getD_none,show(1:Int) > 0 by decide,if_true];by_cases h:i<0
   ·simp only[h,if_true]<;>lia
   ·simp only[h,if_false]<;>lia
def vC(c:yad)(lo d:yaq):slicePick c.toArray lo d none=((c.drop (HT.MZ c.length 0 lo)).take (HT.MZ c.length c.length d - HT.MZ c.length 0 lo)).toArray:=by obtain⟨g,f,e⟩:=ya lo d c.toArray.size;unfold slicePick;rw[g,f,e];simp only[sliceRange_one,pick_run,Og]<;>rfl
def wt:mr X (.builtin "len") (λxs H Q=>∃p ys,xs=[.ref p]/\(SqL X.K H p ys∨MW X.K H p ys)/\Q (.int ys.length) H):=by
 intro pins s σ H xs us Q I r h;obtain⟨p,ys,rfl,d,q⟩:=h;obtain⟨u,rfl,c⟩:=vals1 r;cases c;have hn:=xC;rcases d with d|d
 ·obtain⟨h,e,f,g⟩:=I.list d;have c:=e.length;exact Calls.call_len_list f.isList (by simp only[Og]<;>lia) ⟨.int ys.length,H,I.tok _,⟨s.toks+1,by rw[Og,c]⟩,q⟩
 ·obtain⟨h,e,f,g⟩:=I.tuple d;have c:=e.length;exact len_tuple f (by simp only[Og]<;>lia) ⟨.int ys.length,H,I.tok _,⟨s.toks+1,by rw[Og,c]⟩,q⟩
def wu:mr X (.type "list") (λxs H Q=>∃p ys,xs=[.ref p]/\(SqL X.K H p ys∨MW X.K H p ys)/\∀l,H l=none->Q (.ref l) (upd H l (.lst ys))):=by
 intro e s i H xs us Q I r h;obtain⟨p,ys,rfl,hq,q⟩:=h;obtain⟨u,rfl,c⟩:=vals1 r;cases c;have k:∀(d:yad),Vals ys d->ys.length<=sizeLine->∀(c:Heap) (g:Nat),(∀b f,s.heap.get? b=some f->c.get? b=some f) →
   c.get? s.heap.objs.size=some {cls:=.type "list", dict:=none,data:=.seq d.toArray g,slots:=#[]}->EP X e i Q (.ref s.heap.objs.size) {s with heap:=c}:=λd f i c g h e =>
  ⟨.ref s.heap.objs.size,_,I.laid (t':=s.toks) h (MS _) (show bN X.prog X.w _ c _ (.lst ys)from⟨i,d,g,f,e⟩),rfl,q _ (I.MF.fresh (MS _))⟩
 rcases hq with hq|hq
 ·obtain⟨d,f,l,i⟩:=I.list hq;have j:=f.length;obtain⟨o,m,r,n,q⟩:=l.isList;exact call_list_seq p (.inl rfl) m r q (λc g h e=>k d f i c g h e) (by simp only[Og]<;>lia)
 ·obtain⟨d,f,l,i⟩:=I.tuple hq;have j:=f.length;obtain⟨o,m,r,n,q⟩:=l;exact call_list_seq p (.inr rfl) m r q (λc g h e=>k d f i c g h e) (by simp only[Og]<;>lia)
def Ws(K:yac)(T:String)(x:V)(H:Hp):Prop:=match x with
 |.str _=>T = "str"
 |.int _=>T = "int"
 |.ref p=>(T = "list" /\∃c,SqL K H p c)∨(T = "tuple" /\∃o,K.lookup p=some o/\o.cls=.type "tuple" /\ o.dict=none) ∨
   (T = "dict" /\ ((∃c,H p=some (.dK c))∨∃ c,H p=some (.dT c)))∨(T = "set" /\∃S n,H p=some (.set S n))
 |_=>False
def DQ(I:Inv X pins σ H s)(r:RelV x v)(f:Ws X.K T x H) :
  s.TypeIs v T/\∀a,v=.ref a->∃ob,s.heap.get? a=some ob/\ob.dict=none:=by
 cases x with
 |str z =>
  obtain⟨t,rfl⟩:=r;cases(show T = "str" from f);exact⟨typeIs_str s z t,λ_ e=>nomatch e⟩
 |int i =>
  obtain⟨t,rfl⟩:=r;cases(show T = "int" from f);exact⟨typeIs_int s i t,λ_ e=>nomatch e⟩
 |ref p =>
  cases r;rcases f with⟨rfl,xs,c⟩| ⟨rfl,o,d,i,g⟩| ⟨rfl,d⟩| ⟨rfl,S,n,d⟩
  ·obtain⟨Mp,_,h,_⟩:=I.list c;refine⟨h.isList.typeIs,λa e=>?_⟩;cases e;obtain⟨o,n,e,c,g,_⟩:=h;exact⟨o,e,g⟩
  ·refine⟨⟨o,I.Rw p o d,i⟩,λa e=>?_⟩;cases e;exact⟨o,I.Rw _ o d,g⟩
  ·have z:∃o,s.heap.get? p=some o/\o.ExactDict:=by
    rcases d with⟨c,d⟩| ⟨c,d⟩
    ·obtain⟨_,_,_,_,o,_,_,e,c,_⟩:=I.MF p _ d;exact⟨o,e,c⟩
    ·obtain⟨_,_,_,_,o,_,_,e,c,_⟩:=I.MF p _ d;exact⟨o,e,c⟩
   obtain⟨o,e,c⟩:=z;refine⟨⟨o,e,c.1⟩,λa g=>?_⟩;cases g;exact⟨o,e,c.2.1⟩
  ·obtain⟨o,_,_,_,e,c,_⟩:=I.MF p _ d;refine⟨⟨o,e,c.1⟩,λa g=>?_⟩;cases g;exact⟨o,e,c.2.1⟩
 |_=>exact False.elim f
def KC(K:yac)(T:String)(r:V->yar->Hp->VK->Prop)(d:TE):TE:=λc H Q=>d c H λx c=>Ws K T x c/\r x [] c Q
def tBM(K:yac)(T:String)(r:V->yar->Hp->VK->Prop)(d:TE)(t:TA):TE:=λc H Q=>d c H λx d=>Ws K T x d/\t c d λc d=>r x c d Q
variable{o e:Expr}{es:yai}{to:TE}{t:TA}{name:Str}{apos cpos:Pos}{T id:String}{r:V->yar->Hp->VK->Prop}
def C9 (l:PlainAttrs T) (d:Slot T name id) (q:typeOf (.builtin id)=pure (.type "method_descriptor")) (m:MtR X id r) (g:PE X o to)
  (j:attributeBase o name X.env (eval o X.env)=eval o X.env:=by rfl) (i:(apos.endLine==cpos.line)=true:=by rfl):PE X (.Call (.Attribute o name apos) [] [] cpos) (KC X.K T r to):=by
 intro c s f H Q I h;refine wpAny_Call_method0_late j i (Mw (g c s f H _ I h) λv j n=>?_);obtain⟨x,s,h,g,i,k⟩:=n;obtain⟨p,n⟩:=DQ h g i;exact⟨T,id,l,d,q,p,n,Calls.callWith_builtin rfl (PySem.evalArgs_none (m c j f s x [] v [] Q h g .nil k))⟩
def Bp (l:PlainAttrs T) (d:Slot T name id) (u:typeOf (.builtin id)=pure (.type "method_descriptor")) (m:MtR X id r) (g:PE X o to) (n:PA X (e::es) t)
  (k:attributeBase o name X.env (eval o X.env)=eval o X.env:=by rfl)
  (i:((backTo cpos (starEach (e::es) X.env)).all (λx=>!x.1) && (backToKw cpos (keywordEach [] X.env)).all (λx=>x.1.isSome)
   && decide ((e::es).length+([]:List Keyword).length+(if([]:List Keyword).isEmpty then 0 else 1)<30))=true:=by rfl)
  (j:(apos.endLine==cpos.line)=true:=by rfl) (hs:starEach (e::es) X.env=(false,eval e X.env)::starEach es X.env:=by rfl) (w:(backTo cpos (starEach es X.env)).any (·.1)=false:=by rfl) :
  PE X (.Call (.Attribute o name apos) (e::es) [] cpos) (tBM X.K T r to t):=by
 intro c s f H Q I h;refine wpAny_Call_method_late k i j rfl (Mw (g c s f H _ I h) λv j p=>?_);obtain⟨x,s,h,g,i,k⟩:=p;obtain⟨q,p⟩:=DQ h g i;refine⟨T,id,l,d,u,q,p,?_⟩;have d:=n cpos c j f s _ h k;rw[hs]at d ⊢;refine Calls.callWith_builtin (by show(false || (backTo cpos (starEach es X.env)).any (·.1))=false;rw[w]<;>rfl) (Calls.evalArgs_plain ?_);exact Mw d λh i l=>(by obtain⟨d,p,n,j,k⟩:=l;exact m c i f p x d v h Q n g j k)
end
def MtM(X:Cx)(id:String)(r:V->yar->Hp->VK->Prop):Prop :=
 ∀ (a:yab) (s:Shared) (b:St) (H:Hp) (x:V) (c:yar) (v:Value) (d:yad) (Q:VK),Inv X a b H s->RelV x v->Vals c d->r x c H Q →
  wpAny (model X.prog X.w) X.A (call (.builtin id) (v::d)) (EP X a b Q) X.xe s
def Vals.one:∀{x:V} {a:yad},Vals [x] a->∃u,a=[u]/\RelV x u
 |_,_,.cons r .nil=>⟨_,rfl,r⟩
def Vals.zero:∀{a:yad},Vals [] a->a=[]
 |_,.nil=>rfl
theorem Vals.dropLast(h:Vals xs us):Vals xs.dropLast us.dropLast:=by
 induction h with
 |nil=>exact .nil
 |cons r t ih =>
  cases t with
  |nil=>exact .nil
  |cons q t'=>exact .cons r ih
def A5{a:Type}(l:List a):l.eraseIdx (l.length - 1)=l.dropLast:=by
 induction l with
 |nil=>rfl
 |cons a r ih =>
  cases r with
  |nil=>rfl
  |cons b r =>
   have e:(a::b::r).length - 1=((b::r).length - 1)+1:=by
    have h1:(a::b::r).length=r.length+2:=rfl;have h2:(b::r).length=r.length+1:=rfl
    lia
   rw[e,List.eraseIdx_cons_succ,ih]
   all_goals rfl
section
variable{X:Cx}{pins:yab}{σ:St}{H:Hp}{s:Shared}{l b:Addr}{xs ys zs:yar}
def Inv.UZ{a its':yad}{f:yao->yao}{t':Nat}(I:Inv X pins σ H s)(g:H l=some (.lst xs))
  (e:s.heap.get? l=some {cls:=.type "list", data:=.seq a.toArray n}) (d:f a.toArray=its'.toArray) (c:Vals ys its') (hz:ys.length<=sizeLine) :
  Inv X pins σ (upd H l (.lst ys)) {s with heap:=s.heap.update l (Obj.mapSeq f),toks:=t'}:=by
 have q:=PySem.IsL.update e f;rw[d]at q;refine I.write (x:=l) (e:=l) (by rw[g];exact trivial) (.inl rfl) (λb' u d a=>(Ti s.heap (Obj.mapSeq f) (Ne.symm d)).trans a) ⟨_,q⟩ ?_;exact⟨hz,its',_,c,q⟩
def Inv.TU (I:Inv X pins σ H s) (c:H l=some (.lst xs)):xs.length<=sizeLine/\∃(a:yad) (n:Nat),Vals xs a/\xs.length=a.length/\s.heap.get? l=some {cls:=.type "list", data:=.seq a.toArray n}:=by obtain⟨z,a,n,r,e⟩:=I.MF l _ c;exact⟨z,a,n,r,r.length,e⟩
def E3{n:Nat}(h:n<=sizeLine):Builtin.List.listTooLong n=false:=by unfold Builtin.List.listTooLong;exact SV (by lia)
end
section
variable{X:Cx}
def HL:V->yar->Hp->VK->Prop:=λx b H Q=>∃l a y,x=.ref l/\b=[y]/\H l=some (.lst a)/\a.length<sizeLine/\Q .MU (upd H l (.lst (a++[y])))
def oH:MtM X "list.append" HL:=by
 intro pins s σ H x vs v us Q I b c h;obtain⟨l,xs,y,rfl,rfl,a,hz,q⟩:=h;cases b;obtain⟨u,rfl,d⟩:=c.one;obtain⟨z,b,n,r,hl,e⟩:=I.TU a;refine call_meets F.slot_list_append ⟨_,e,rfl⟩ F.entry_list_append (F.args_list_append_2 _ _) (PySem.list_append l b.toArray n u (by rw[Og];lia)) ⟨e,?_⟩;refine⟨.MU,_,I.UZ (its':=b++[u]) a e (by simp) (r.append (.cons d .nil)) ?_,rfl,q⟩;rw[Od,Vu]
 lia
def HM:V->yar->Hp->VK->Prop:=λx d H Q=>∃l b c a,x=.ref l/\d=[.ref b]/\H l=some (.lst c)/\H b=some (.lst a)/\c.length+a.length<=sizeLine/\Q .MU (upd H l (.lst (c++a)))
def CQ:MtM X "list.extend" HM:=by
 intro pins s σ H x vs v us Q I a c h;obtain⟨l,b,xs,zs,rfl,rfl,f,d,hz,q⟩:=h;cases a;obtain⟨u,rfl,a⟩:=c.one;cases a;obtain⟨z,a,n,r,hl,e⟩:=I.TU f;obtain⟨z2,c,h,g,hl2,i⟩:=I.TU d;have d:a.toArray.size+c.toArray.size<=sizeLine:=by rw[Og,Og];lia
 have j:¬(!a.toArray.isEmpty && Builtin.List.listTooLong (a.toArray.size+c.toArray.size))=true:=by rw[E3 d,Bool.and_false];exact QB
 refine call_meets F.slot_list_extend ⟨_,e,rfl⟩ F.entry_list_extend (F.args_list_extend_2 _ _)
  (AutoSeq1.list_extend_list_list_0 l a.toArray n b c.toArray h j (by rw[Og];lia) (by lia)) ⟨e,i,?_⟩
 refine⟨.MU,_,I.UZ (its':=a++c) f e (by simp) (r.append g) ?_,rfl,q⟩;rw[Od]
 lia
def LY:V->yar->Hp->VK->Prop:=λx b H Q=>∃l a y,x=.ref l/\b=[]/\H l=some (.lst a)/\a[a.length - 1]?=some y/\Q y (upd H l (.lst a.dropLast))
def J2:MtM X "list.pop" LY:=by
 intro pins s σ H x vs v us Q I a c h;obtain⟨l,xs,y,rfl,rfl,b,d,q⟩:=h;cases a;have a:=c.zero;subst a;obtain⟨z,a,n,r,g,e⟩:=I.TU b;obtain⟨u,f,c⟩:=r.get d;have d:a.toArray[a.toArray.size - 1]?=some u:=by show a.toArray[a.length - 1]?=some u;rw[<- Rt,<- g];exact f
 refine call_meets F.slot_list_pop ⟨_,e,rfl⟩ F.entry_list_pop (F.args_list_pop_1 _) (MeetsSeq.list_pop_last l a.toArray n u d (by rw[Og];lia)) ⟨e,?_⟩;refine⟨y,_,I.UZ (its':=a.dropLast) b e ?_ r.dropLast ?_,c,q⟩
 ·show a.toArray.eraseIdxIfInBounds (a.toArray.size - 1)=a.dropLast.toArray;rw[Og,List.eraseIdxIfInBounds_toArray,A5]
 ·rw[TJ]
  lia
def Dk:V->yar->Hp->VK->Prop:=λx b H Q=>∃l a,x=.ref l/\b=[]/\H l=some (.lst a)/\Q .MU (upd H l (.lst []))
def E2:MtM X "list.clear" Dk:=by intro pins s σ H x vs v us Q I a c h;obtain⟨l,xs,rfl,rfl,b,q⟩:=h;cases a;have a:=c.zero;subst a;obtain⟨z,a,n,r,hl,e⟩:=I.TU b;refine call_meets F.slot_list_clear ⟨_,e,rfl⟩ F.entry_list_clear (F.args_list_clear_1 _) (AutoSeq1.list_clear_list_0 l a.toArray n (by rw[Og];lia)) ⟨e,?_⟩;exact⟨.MU,_,I.UZ (its':=[]) (ys:=[]) b e rfl .nil (N9 _),rfl,q⟩
end
section
variable{prog:Program}{w:World}{A:Around}{E:yaa}{s:Shared}
set_option maxRecDepth 100000 in
end
end L2
namespace Att
open PySem PySem.W PySem.Calls PyProof.Rows
def r9:∀(ns:yaf) (vs:yad),WellAll P h vs (ns.map WData.int)->IntsAre vs ns:=by
 intro ns
 induction ns with
 |nil =>
  intro vs w;rw[Sv]at w;cases w;exact .nil
 |cons n ns ih =>
  intro vs w;rw[MN]at w;cases w with
  |cons a b =>
   cases a;exact .cons _ _ (ih _ b)
def Du{l:OpenLaw}{n:Nat}(j:l.most=some n)
  (i:l.row.toRowW.claim.pre args=true) (e:WellAll P h vals args) :
  ∃ a vs ns,vals=[Value.ref a]/\args=[WData.list (ns.map WData.int)]/\h.get? a=some {cls:=.type "list", data:=.seq vs.toArray}/\IntsAre vs ns/\ns.length<=n:=by
 have f:WShape.hasAll [] args [.list .int]=true:=(pre_splitW i).1;have g:l.pre.holds [] {args:=args}=true:=(pre_splitW i).2;obtain⟨d,r,rfl,m,k⟩:=hasAllW_cons f;obtain rfl:=hasAllW_nil k;obtain⟨xs,rfl,h⟩:=hasW_list m;obtain⟨ns,rfl⟩:=items_int h;have a:ns.length<=n:=by
  unfold OpenLaw.pre at g;have c:(WTm.not (.lt (.lit (.int (n:Int))) (.len (.arg 0)))).holds [] {args:=[.list (ns.map .int)]}=true:=by have c:=(holds_andW g).1;rw[j]at c;exact c
  have b:=condW_of c (w_not (w_lt w_lit (w_len_list (w_arg rfl))));rw[Mq]at b;refine US λq=>?_
  have d:(n:Int)<((ns.length:Nat):Int):=by lia
  first
   |(rw[R3 d]at b;exact absurd b (by decide))
   |(simp at b;lia)
 cases e with
 |cons c b =>
  cases b;cases c with
  |list d o=>exact⟨_,_,ns,rfl,rfl,d,r9 ns _ o,a⟩
def Dj(l:OpenLaw)(args:List WData):l.row.toRowW.claim.post args (.bool true) args=true :=
 postW_of (r:=l.row.toRowW) (X:=(true==true))
  (show WShape.has [] (.bool true) .bool=true by first|rfl|decide|simp[WShape.has,WShape.arms,WShape.armsAll])
  (show(WTm.eq .res (.lit (.bool true))).value [] {args:=args,res:=some (.bool true),after:=args}=some (.bool (true==true))from w_eq_bool (w_res rfl) w_lit) rfl
def yx{l:OpenLaw}{n:Nat}{c:World->Heap->Prop}{d:DefRec}
  (s:l.most=some n) (x:d.params.defaults=[])
  (call:∀(w:World) (p b:Shared) (i m:yam) (g:Addr) (o:Obj) (k j e:Value) (a:Addr) (vs:yad) (ns:yaf),
   Ground q loose [] XP w p i m b.heap->c w b.heap →
   b.heap.get? g=some o->o.data=.func (docDef d.name d.params d.body d.scope k j e)->b.heap.CodeRec j d.name->i d.name=some (.ref g) →
   b.heap.get? a=some {cls:=.type "list", data:=.seq vs.toArray}->IntsAre vs ns->ns.length<=n->b.gens=#[] →
   codeAny (model l.prog w) callerA (.call (.ref g) ⟨[.ref a],[]⟩) (λr h=>r=.ok (.ret (.bool true))/\OldK b.heap h.heap/\h.os=b.os/\AllBare h.gens) b) :
  WalkO q loose XP c l.row.toRowW d [] (λf vs=>PySem.call f vs):=by
 intro w p b i m G Y g o k j e d kV n t z c u q args vals as y YC hrd f hlo;obtain rfl:d=.none:=Dflts.none c x;obtain rfl:kV=.none:=Dflts.noKw c;obtain⟨a,vs,ns,rfl,rfl,x,c,d⟩:=Du s y f;refine enter_call (codeAny_mono (call w p b i m g o k j e a vs ns G Y n (fd_plain t) z u x c d q) λr h a=>?_);obtain⟨rfl,d,c,b⟩:=a;exact⟨.inl ⟨.bool true,.bool true,[],rfl,λ_=>rfl,.bool true,Dj l _,λ_=>⟨List.Pairwise.nil,λ_ a=>(nomatch a)⟩⟩,d,c,b⟩
section
variable{prog:Program}{w:World}{A:Around}{E:yaa}{s:Shared}{K:Frag}
def ledger(h:Heap)(L d:Addr):yab:=(List.range h.objs.size).filterMap λa=>if a=L∨a=d then none else(h.get? a).map λo=>(a,o)
end
end Att
namespace L2
open PySem PySem.Spec PyProof.Rows
theorem jw:∀{vs:yad} {ns:yaf},IntsAre vs ns->Vals (ns.map V.int) vs
 |_,_,.nil=>.nil
 |_,_,.cons n t h=>.cons ⟨t,rfl⟩ (jw h)
def Ea(H:Hp):Prop:=∀b,H b=none∨∃ o a,H b=some (.frz o (.lst a))
def EV{K:yac}{x:Str}{c:Shared}{vs:yad}
  (I:K.In c.heap) (E:c.heap.Ns mainGlobals mg) (f:c.heap.Ns builtinsNs mb) (t:∀x:Str,x ≠ "__name__" -> mb x=bootBuiltins x) (l:c.heap.NoLimit) (L:c.gens=#[])
  (p:c.heap.get? a=some {cls:=.type "list", data:=.seq vs.toArray}) (b:IntsAre vs ns) (A:ns.length<=sizeLine) (J:cF k callerA)
  (F:∀base:Heap,K.In base->base.Ns mainGlobals mg->aM P w K mg base CX k fa fd [x] sp) (Q:∀(s:Shared) (u:Value),BindsTo s fd ⟨[u],[]⟩ [(x,u)])
  (T:∀H:Hp,Ea H->SqL K H a (ns.map V.int)->sp [.ref a] H (λv _=>v=.bl true) λ_ _ _=>False)
  (y:∀H e g,CX [] H c (λ_ _ _=>False) e g->False) :
  codeAny (model P w) callerA (.call (.ref fa) ⟨[.ref a],[]⟩) (λr g=>r=.ok (.ret (.bool true))/\OldK c.heap g.heap/\g.os=c.os/\AllBare g.gens) c:=by
 have x:=jw b;have j:=b.length;have i:∀H:Hp,Ea H->SqL K H a (ns.map V.int)->Ox P w H c.heap->(∀b,H b≠none->b=a)->(H a≠none->K.lookup a=none) →
   codeAny (model P w) callerA (.call (.ref fa) ⟨[.ref a],[]⟩) (λr g=>r=.ok (.ret (.bool true))/\OldK c.heap g.heap/\g.os=c.os/\AllBare g.gens) c:=by
  intro H B M G z N;have C:∀{b:Addr} {o:Obj},c.heap.get? b=some o->H b=none->(mK c.heap H).get? b=some o:=λe n=>EJ e n
  have O:∀{b:Addr} {o:Obj} {k:Array DictEntry} {n:Nat},c.heap.get? b=some o->o.data=.dict k n->H b=none:=fun {b o k n} e d=>by
   cases q:H b with
   |none=>rfl
   |some u =>
    have s:b=a:=z b (by rw[q];simp);subst s;rw[p]at e;cases e;have h:Data.seq vs.toArray _=Data.dict k n:=d;cases h
  have h:∀{b:Addr} {m:yam},c.heap.Ns b m->(mK c.heap H).Ns b m:=fun {b m} m=>(by obtain⟨o,k,n,e,d,r⟩:=m;exact⟨o,k,n,C e (O e d),d,r⟩)
  have d:K.In (mK c.heap H):=λb o e=>C (I b o e) (by
   cases q:H b with
   |none=>rfl
   |some u =>
    have s:b=a:=z b (by rw[q];simp);subst s;rw[N (by rw[q];simp)]at e;cases e)
  have k:Mod K mg (mK c.heap H):=⟨d,h E,⟨mb,h f,t⟩,let ⟨mc,h1,h2⟩:=l;⟨mc,h h1,h2⟩⟩;have l:Au P w K mg (mK c.heap H) callerA [] c H:=⟨rfl,k,λb o e=>Hn e,Nat.le_of_eq (Cu _ _),trivial,λb f=>absurd (show b∈([]:yae)from f) (by simp),G,.of_eq L⟩;refine codeAny_mono ((F _ d (h E)).run callerA [] c H ⟨[.ref a],[]⟩ [.ref a] [.ref a] _ _ J l (Q c (.ref a)) (.cons rfl .nil) (T H B M)) λr g h=>?_
  cases r with
  |error e=>exact(y H e g h).elim
  |ok c =>
   cases c with
   |next=>exact False.elim h
   |brk=>exact False.elim h
   |cont=>exact False.elim h
   |ret u =>
    obtain⟨v,H',os,d,g,c,k,q⟩:=h;have h:v=.bl true:=q;subst h;obtain rfl:u=Value.bool true:=k;refine⟨rfl,OldK.of_keep λb o e=>?_,os,d⟩;cases q:H b with
    |none=>exact g.keep b o e q (by intro z;exact absurd (show b∈([]:yae)from z) (by simp)) (by simp)
    |some u =>
     rcases B b with z|⟨d,xs,z⟩
     ·rw[q]at z;cases z
     ·have h:=g.QC b d _ z;obtain⟨d,_⟩:=G b _ z;obtain⟨g,_⟩:=c b _ h;rw[e]at d;cases d;exact g
 cases hk:K.lookup a with
 |some o =>
  have e:=I a o hk;rw[p]at e;cases e;refine i (λ_=>none) (λ_=>.inl rfl) (.inr ⟨_,vs.toArray,_,hk,rfl,rfl,rfl,by rw[Og,j];exact A,by simpa using x⟩) (λb u z=>by have c:(none:Option HO)=some u:=z;cases c) (λb z=>absurd rfl z) λz=>absurd rfl z
 |none =>
  refine i (λb=>if b=a then some (.frz {cls:=.type "list", data:=.seq vs.toArray} (.lst (ns.map V.int)))else none) (λb=>?_) (.inl (.inr ⟨{cls:=.type "list", data:=.seq vs.toArray},Ml rfl⟩)) (λb u z=>?_) (λb z=>?_) λ_=>hk
  ·by_cases f:b=a
   ·exact .inr ⟨_,_,Ml f⟩
   ·exact .inl (Mj f)
  ·by_cases f:b=a
   ·have c:=(Ml f).symm.trans z;cases c;subst f;exact⟨p,by rw[Mq];exact A,vs,_,x,p⟩
   ·have c:=(Mj f).symm.trans z;cases c
  ·by_cases f:b=a
   ·exact f
   ·exact absurd (Mj f) z
def Iv{l:PySem.W.OpenLaw}{n:Nat}{b:World->Heap->Prop}{d:DefRec}{K:Params->yac}{CX:World->CXT}{sp:World->Sp}{x:Str}
  (c:l.most=some n) (m:n<=sizeLine) (o:d.params.defaults=[]) (t:cF k callerA)
  (y:∀(w:World) (h:Heap),b w h->(K w.params).In h)
  (F:∀(w:World) (g:yam) (i:Addr) (h:Heap),(K w.params).In h->h.Ns mainGlobals g->g d.name=some (.ref i) →
   ∃ r:FuncData,(∀(s:Shared) (u:Value),BindsTo s r ⟨[u],[]⟩ [(x,u)]) ∧
    ∀ base:Heap,(K w.params).In base->base.Ns mainGlobals g->aM l.prog w (K w.params) g base (CX w) k i r [x] (sp w))
  (z:∀(w:World) (H:Hp) (a:Addr) (ns:yaf),ns.length<=n->Ea H->SqL (K w.params) H a (ns.map V.int)->sp w [.ref a] H (λv _=>v=.bl true) λ_ _ _=>False)
  (p:∀(w:World) (H:Hp) (s:Shared) (e:Value) (j:Shared),CX w [] H s (λ_ _ _=>False) e j->False) :
  PySem.W.WalkO q loose XP b l.row.toRowW d [] (λf vs=>PySem.call f vs):=by
 refine Att.yx c o λw ME q g mb i o pm cd doc a vs ns G Y ho hd Pc l n c b f=>?_
 have d:=y w _ Y;obtain⟨r,h,k⟩:=F w g i _ d G.T.g l;exact EV d G.T.g G.T.b G.T.builtins G.T.nolimit f n c (Pa b m) t k h (λH d c=>z w H a ns b d c) λH e j=>p w H q e j
def fi(s:Stmt):Arguments:=match s with
 |.FunctionDef _ a _ _ _ _ _ _ _ _=>a
 |_=>{posonlyargs:=[],args:=[],vararg:=none,kwonlyargs:=[],kw_defaults:=[],kwarg:=none,defaults:=[]}
def cN(s:Stmt):yal:=match s with
 |.FunctionDef _ _ b _ _ _ _ _ _ _=>b
 |_=>[]
def ar(s:Stmt):Scope:=match s with
 |.FunctionDef _ _ _ _ _ _ a _ _ _=>a
 |_=>{kind:=.function,names:=[],isGenerator:=false,isCoroutine:=false}
abbrev E0:XK:=λ_ _ _=>False
structure Fun(K:yac)(x qual:Str)(st:Stmt)(f:Addr)(fd:FuncData):Prop where
 ex:∃(oc:Value) (od:Option Addr) (kV doc pm:Value) (an:Option Addr) (NV ct:Value) (Uy:Array (yan)),
  fd=PySem.W.fnOf x qual (fi st) (cN st) (ar st) .none kV doc pm an NV ct/\K.lookup f=some ⟨oc,od,.func fd,Uy⟩/\PySem.W.codeIn K NV qual=true
 kp:PySem.W.keepIn K (.ref f)=true
def A8(a:cF k A):A.units+1<cLine:=V8 (Nat.add_le_add_left (by decide:1<=64) _) a.units
section
variable{X:Cx}
def pv (i:Nat) {x:Str} (c:X.N[i]?=some x:=by rfl) (a:S1 X.env.scope x:=by first|exact Or.inl rfl|exact Or.inr (Or.inl rfl)|exact Or.inr (Or.inr rfl)) (b:(x==("__debug__" : Str))=false:=by decide)
  (d:(x==("__classdict__" : Str))=false:=by decide):PE X (.Name x pos) (FG i):=gU c a b d
end
def av(H H':Hp):Prop:=∀b o,H b=some o->H' b=some o
def av.refl(H:Hp):av H H:=λ_ _ h=>h
def av.trans(a:av H H1)(b:av H1 H2):av H H2:=λc o h=>b c o (a c o h)
def av.free(e:av H H')(h:H' l=Option.none):H l=Option.none:=by
 cases q:H l with
 |none=>rfl
 |some o =>
  rw[e l o q]at h;cases h
def av.seq{K:yac}{H H':Hp}{a:Addr}{xs:yar}(e:av H H')(h:SqL K H a xs):SqL K H' a xs:=by
 rcases h with(h|⟨o,h⟩)|h
 ·exact .inl (.inl (e _ _ h))
 ·exact .inl (.inr ⟨o,e _ _ h⟩)
 ·exact .inr h
end L2
set_option maxHeartbeats 4000000
namespace L2
open PySem PySem.Spec PyProof.Rows
section
variable{κ:Type} [DecidableEq κ]
def eA(kvs:List (κ×V))(k:κ):Option V:=(kvs.find? λa=>decide (a.1=k)).map (·.2)
noncomputable def putK(kvs:List (κ×V))(k:κ)(v:V):List (κ×V) :=
 if(kvs.any λa=>decide (a.1=k))=true then kvs.map (λa=>if a.1=k then(a.1,v)else a)else kvs++[(k,v)]
theorem FN:eA ([]:List (κ×V)) k=none:=rfl
def nJ{p:κ×V}{r:List (κ×V)}{k:κ}(e:p.1=k):eA (p::r) k=some p.2:=by simp[eA,Uv,e]
def nI{p:κ×V}{r:List (κ×V)}{k:κ}(e:¬p.1=k):eA (p::r) k=eA r k:=by simp[eA,Uv,e]
theorem rA(k:κ):∀kvs:List (κ×V),(kvs.any λa=>decide (a.1=k))=(eA kvs k).isSome
 |[]=>rfl
 |p::r=>by
  rw[List.any_cons];by_cases e:p.1=k
  ·simp only[nJ e,R3 e,Bool.true_or,Option.isSome_some]
  ·rw[nI e,SV e,Bool.false_or];exact rA k r
def ql(kvs:List (κ×V))(k:κ)(v:V):(putK kvs k v).length<=kvs.length+1:=by
 unfold putK;split
 ·rw[Mq];lia
 ·rw[Od,P5,List.length_nil];lia
def jz.S5(r:jz o u):o.isSome=u.isSome:=by
 cases o with
 |none=>cases u with
  |none=>rfl
  |some _=>exact(show False from r).elim
 |some _=>cases u with
  |none=>exact(show False from r).elim
  |some _=>rfl
theorem jz.getD(r:jz o u)(rd:RelV d d'):RelV (o.getD d) (u.getD d'):=by
 cases o with
 |none=>cases u with
  |none=>exact rd
  |some _=>exact(show False from r).elim
 |some _=>cases u with
  |none=>exact(show False from r).elim
  |some _=>exact r
def KV.val(r:KV kvs vs)(k:κ):jz (eA kvs k) (valueAt vs k):=by
 unfold KV at r
 induction r with
 |nil=>exact True.intro
 |@cons p q ps a h t ih =>
  obtain⟨d,f⟩:=h;by_cases e:p.1=k
  ·have c:q.1=k:=d.symm.trans e;have b:valueAt (q::a) k=some q.2:=by simp[valueAt,Uv,c]
   rw[nJ e,b];exact f
  ·have c:¬q.1=k:=λz=>e (d.trans z)
   have b:valueAt (q::a) k=valueAt a k:=by simp[valueAt,Uv,c]
   rw[nI e,b];exact ih
theorem KV.any(r:KV kvs vs)(k:κ):(kvs.any λa=>decide (a.1=k))=vs.any λa=>decide (a.1=k):=by
 unfold KV at r
 induction r with
 |nil=>rfl
 |cons h t ih=>rw[List.any_cons,List.any_cons,ih,h.1]
def KV.Wu(r:KV kvs vs)(k:κ)(b:RelV y u) :
  KV (kvs.map λa=>if a.1=k then(a.1,y)else a) (vs.map λa=>if a.1=k then(a.1,u)else a):=by
 unfold KV at r ⊢
 induction r with
 |nil=>exact .nil
 |@cons p q ps qs h t ih =>
  rw[MN,MN];refine .cons ?_ ih;obtain⟨a,c⟩:=h;by_cases e:p.1=k
  ·rw[Ml e,Ml (a.symm.trans e)];exact⟨a,b⟩
  ·rw[Mj e,Mj (λz=>e (a.trans z))];exact⟨a,c⟩
def KV.put(r:KV kvs vs)(k:κ)(a:RelV y u):KV (putK kvs k y) (stored vs k u):=by
 unfold putK stored;rw[r.any k];by_cases e:(vs.any λb=>decide (b.1=k))=true
 ·rw[Ml e,Ml e];exact r.Wu k a
 ·rw[Mj e,Mj e];exact Paired.snoc r ⟨rfl,a⟩
def KV.keys{kvs:List (κ×V)}{vs:List (κ×Value)}(r:KV kvs vs):kvs.map (·.1)=vs.map (·.1):=by
 unfold KV at r
 induction r with
 |nil=>rfl
 |cons h t ih=>rw[MN,MN,ih,h.1]
theorem KV.length(r:KV kvs vs):kvs.length=vs.length:=Paired.length r
end
def vK(r:RelV (kV k) u):(bZ P w).is k u=true:=by
 cases k with
 |inl i=>obtain⟨t,e⟩:=(show∃t,u=Value.int i t from r);subst e;exact yL P w i t
 |inr x=>obtain⟨t,e⟩:=(show∃t,u=Value.str x t from r);subst e;exact yM P w x t
theorem uZ:∀{ks:List Key} {a:yad},Vals (ks.map kV) a->ItemsAre (bZ P w) ks a
 |[],_,r=>by rw[Sv]at r;cases r;exact .nil
 |k::ks,_,r=>by
  rw[MN]at r;cases r with
  |cons h t=>exact .cons (vK h) (uZ t)
abbrev KT(H:Hp):List (List Key×V)->List (List Key×Addr×Value)->Prop:=Paired λp q=>p.1=q.1/\H q.2.1=some (.tup (p.1.map kV))/\RelV p.2 q.2.2
def KT.val(r:KT H kvs xs)(k:List Key):jz (eA kvs k) ((atKey xs k).map (·.2)):=by
 induction r with
 |nil=>exact True.intro
 |@cons p q ps a h t ih =>
  obtain⟨d,_,f⟩:=h;by_cases e:p.1=k
  ·have c:q.1=k:=d.symm.trans e;have b:atKey (q::a) k=some q.2:=by simp[atKey,Uv,c]
   rw[nJ e,b];exact f
  ·have c:¬q.1=k:=λz=>e (d.trans z)
   have b:atKey (q::a) k=atKey a k:=by simp[atKey,Uv,c]
   rw[nI e,b];exact ih
def KT.Wu(r:KT H kvs xs)(k:List Key)(c:RelV y u) :
  KT H (kvs.map λa=>if a.1=k then(a.1,y)else a) (xs.map (putAt k u)):=by
 induction r with
 |nil=>exact .nil
 |@cons p q ps qs h t ih =>
  rw[MN,MN];refine .cons ?_ ih;obtain⟨a,b,d⟩:=h;unfold putAt;by_cases e:p.1=k
  ·rw[Ml e,Ml (a.symm.trans e)];exact⟨a,b,c⟩
  ·rw[Mj e,Mj (λz=>e (a.trans z))];exact⟨a,b,d⟩
def KT.put(r:KT H kvs xs)(k:List Key)(c:H b=some (.tup (k.map kV)))(a:RelV y u) :
  KT H (putK kvs k y) (storedH xs k b u):=by
 have e:(kvs.any λb=>decide (b.1=k))=(atKey xs k).isSome:=by rw[rA,(r.val k).S5,Option.isSome_map]
 unfold putK storedH;rw[e];by_cases q:(atKey xs k).isSome=true
 ·rw[Ml q,Ml q];exact r.Wu k a
 ·rw[Mj q,Mj q];exact Paired.snoc r ⟨rfl,c,a⟩
def KT.keeps{H':Hp}(r:KT H kvs xs)(a:∀b ys,H b=some (.tup ys)->H' b=some (.tup ys)):KT H' kvs xs :=
 Paired.Wj r λ_ _ z=>⟨z.1,a _ _ z.2.1,z.2.2⟩
section
variable{P:Program}{w:World}{H:Hp}{h:Heap}{a:Addr}
def Gj(b:Ox P w H h)(e:Rd H a u):bN P w H h a u:=e.ok b
def rO(b:Ox P w H h)(e:Rd H a (.dK kvs)):kvs.length<=sizeLine/\(a==sysModules)=false/\∃vs,KV kvs vs/\h.DictOf (bZ P w) a vs :=
 show bN P w H h a (.dK kvs)from Gj b e
def Gb(b:Ox P w H h)(e:H a=some (.dK kvs)):kvs.length<=sizeLine/\(a==sysModules)=false/\∃vs,KV kvs vs/\h.DictOf (bZ P w) a vs:=rO b (.inl e)
def se{ks:List Key}(b:Ox P w H h)(e:H a=some (.tup (ks.map kV))):(tupleKind (bZ P w)).is h ks a:=by obtain⟨_,g,r,o,f,d,n,c⟩:=(show bN P w H h a (.tup (ks.map kV))from b a _ e);exact⟨o,g.toArray,n,f,d,c,by simpa using uZ r⟩
def rP(d:Ox P w H h)(e:Rd H a (.dT kvs)):kvs.length<=sizeLine/\(a==sysModules)=false ∧
  ∃ xs,KT H kvs xs/\h.DictOfH (tupleKind (bZ P w)) a xs:=by
 obtain⟨z,y,xs,r,o,j,k,i,g,f,b,c⟩:=(show bN P w H h a (.dT kvs)from Gj d e);refine⟨z,y,xs,r,o,j,k,i,g,f,b,λx b=>?_,c⟩;have c:∀{l:List (List Key×V)} {m:List (List Key×Addr×Value)},KT H l m->∀x∈m,(tupleKind (bZ P w)).is h x.1 x.2.1:=by
  intro l m q
  induction q with
  |nil=>intro x b;exact nomatch b
  |@cons p q ps qs f t ih =>
   intro x b;rcases MD.mp b with e|b
   ·subst e;exact se d (by rw[<- f.1];exact f.2.1)
   ·exact ih x b
 exact c r x b
def K0(b:Ox P w H h)(e:H a=some (.dT kvs)):kvs.length<=sizeLine/\(a==sysModules)=false ∧
  ∃ xs,KT H kvs xs/\h.DictOfH (tupleKind (bZ P w)) a xs:=rP b (.inl e)
end
def nV(H:Hp)(a:Addr)(y:V)(r:Option V):Prop :=
 (∃c k,Rd H a (.dK c)/\y=kV k/\r=eA c k)∨∃ c k b,Rd H a (.dT c)/\y=.ref b/\H b=some (.tup (k.map kV))/\r=eA c k
def vR(H:Hp)(a:Addr)(y v:V)(H':Hp):Prop :=
 (∃c k,H a=some (.dK c)/\y=kV k/\c.length<sizeLine/\H'=upd H a (.dK (putK c k v))) ∨
 ∃ c k b,H a=some (.dT c)/\y=.ref b/\H b=some (.tup (k.map kV))/\c.length<sizeLine/\H'=upd H a (.dT (putK c k v))
theorem nV.k{H:Hp}{a:Addr}{kvs:List (Key×V)}{k:Key}(e:H a=some (.dK kvs)):nV H a (kV k) (eA kvs k):=.inl ⟨kvs,k,.inl e,rfl,rfl⟩
theorem vR.k{H:Hp}{a:Addr}{kvs:List (Key×V)}{k:Key}{v:V}(e:H a=some (.dK kvs))(b:kvs.length<sizeLine):vR H a (kV k) v (upd H a (.dK (putK kvs k v))):=.inl ⟨kvs,k,e,rfl,b,rfl⟩
section
variable{X:Cx}{pins:yab}{σ:St}{H:Hp}{s:Shared}{a:Addr}{y v:V}{u r:Value}{o:Option V}{A:Around}{E:yaa}
def Inv.big(I:Inv X pins σ H s):sysModules<s.heap.objs.size:=by have h:mainGlobals<s.heap.objs.size:=(I.mod.glob.keeps I.bk).lt;exact Nat.lt_trans (by decide) h
def Cc{Q:yaa}(q:A.units+1<cLine)(I:Inv X pins σ H s)(g:nV H a y (some v))(m:RelV y u)(h:∀d b,Inv X pins σ H b->RelV v d->Q d b) :
  wpAny (model X.prog X.w) A (getItem (.ref a) u) Q E s:=by
 rcases g with⟨b,k,e,g,l⟩| ⟨b,k,b,e,g,t,l⟩
 ·subst g;obtain⟨z,p,n,c,i⟩:=rO I.MF e;obtain⟨d,f,j⟩:=jz.some_of (v:=v) (o:=valueAt n k) (by rw[l];exact c.val k);exact wpAny_getItem_of (vK m) i.mapOf f (h d _ (I.tok _) j)
 ·subst g;cases(show u=Value.ref b from m);obtain⟨z,p,b,c,i⟩:=rP I.MF e;obtain⟨d,f,j⟩:=jz.some_of (v:=v) (o:=(atKey b k).map (·.2)) (by rw[l];exact c.val k);obtain⟨p,c,b⟩:=SN.mp f;refine wpAny_getItem_heap (tupleKind_room_in1 q) (se I.MF t) i c ?_;rw[b];exact h d _ (I.tok _) j
def tP{t':Nat}(I:Inv X pins σ H s)(b:Yr (H a))(hs:Heap.SameBut a s.heap h')(d:∃q,h'.get? a=some q)(c:bN X.prog X.w (upd H a ob) h' a ob) :
  Inv X pins σ (upd H a ob) {s with heap:=h',toks:=t'} :=
 I.write (x:=a) (e:=a) b (.inl rfl) (λb q e z=>(hs.2 b e).trans z) d c
def Jq{h':Heap}{kvs:List (Key×V)}(z:kvs.length<=sizeLine)(c:(a==sysModules)=false)(b:KV kvs vs)(d:h'.DictOf (bZ P w) a vs) :
  bN P w H' h' a (.dK kvs):=⟨z,c,vs,b,d⟩
def Cd{Q:Unit->Shared->Prop}(G:A.units+1<cLine)(I:Inv X pins σ H s)(g:vR H a y v H')(w:RelV y u)(x:RelV v r)(h:∀b,Inv X pins σ H' b->Q () b) :
  wpAny (model X.prog X.w) A (setItem (.ref a) u r) Q E s:=by
 rcases g with⟨d,k,e,n,l,p⟩| ⟨d,k,b,e,n,C,l,p⟩
 ·subst n p;obtain⟨z,m,f,c,t⟩:=Gb I.MF e;have i:f.length<=sizeLine:=by rw[<- c.length];exact z
  have l:(putK d k v).length<=sizeLine:=by have:=ql d k v;lia
  refine wpAny_setItem_pairs (hsz:=i) (vK w) t λB g j=>h _ ?_
  have J:∃q,B.get? a=some q:=let ⟨q,_,_,f,_⟩:=g;⟨q,f⟩;exact tP I (by rw[e];exact True.intro) j J (Jq l m (c.put k x) g)
 ·subst n p;cases(show u=Value.ref b from w);obtain⟨z,m,b,c,t⟩:=K0 I.MF e;have i:b.length<=sizeLine:=by rw[<- Paired.length c];exact z
  have l:(putK d k v).length<=sizeLine:=by have:=ql d k v;lia
  refine wpAny_setItem_heap (hsz:=i) (tupleKind_room_in1 G) (se I.MF C) t λB g j=>h _ ?_
  obtain⟨q,p,t,f,n,i,h,_,d⟩:=g;refine tP I (by rw[e];exact True.intro) j ⟨q,f⟩ ⟨l,m,_,(c.put k C x).keeps λc ys b=>?_,q,p,t,f,n,i,h,d⟩;rw[aw (gT b e (λz=>nomatch z))];exact b
end
def AF(i:Expr):Prop:=∀a b,subscripted i false a b=operate [a,b] (getItem a b)
def Ik{prog:Program}{w:World}{A:Around}{E:yaa}{s:Shared}{env:Env}{b a:Expr}{pos:Pos}{T id:String}{Q:yaa}
  (f:typeLookup (.type T) "__getitem__" = pure (some (.builtin id))) (hs:AF a)
  (h:wpAny (model prog w) A (eval b env) (λo c=>wpAny (model prog w) A (eval a env) (λi d=>d.TypeIs o T/\wpAny (model prog w) A (getItem o i) Q E d) E c) E s) :
  wpAny (model prog w) A (eval (.Subscript b a pos) env) Q E s:=by
 refine Subscript_ (P6 h (λo c c=>P6 c (λi d e=>?_) λ_ _ x=>x) λ_ _ x=>x);obtain⟨c,e⟩:=e;unfold subscriptTail;refine Mh ?_;rw[getitemInPython_of_ne c.not_modules];refine Mh (Xv c f ?_);have c:wpAny (model prog w) A (subscripted a false o i) (λr a=>wpAny (model prog w) A (letTemporaryGo b o r >>= λ_=>pure r) Q E a) E d:=by rw[hs o i];exact wpAny_operating (P6 e (λr a a=>Mh (wpAny_letTemporaryGo (Mt a))) λ_ _ x=>x)
 first
  |exact Mt (Mh c)
  |exact Mh (Mt (Mh c))
  |exact Mh c
def yC (I:Inv X pins σ H s) (g:nV H a y o):s.TypeIs (.ref a) "dict" := by
 rcases g with⟨a,k,e,_,_⟩| ⟨a,k,b,e,_,_,_⟩
 ·obtain⟨_,_,vs,_,a⟩:=rO I.MF e;exact a.typeIs
 ·obtain⟨_,_,xs,_,a⟩:=rP I.MF e;exact a.typeIs
def Lw(c b:TE):TE:=λa H Q=>c a H λx c=>b a c λy b=>∃a v,x=.ref a/\nV b a y (some v)/\Q v b
def Lq(d a c:TE):TS:=λD b H=>c b H λv c=>d b c λx c=>a b c λy d=>∃a c,x=.ref a/\vR d a y v c/\D.nx b c
section
variable{X:Cx}{o i e value:Expr}{pos pos' tpos:Pos}{td ty tv:TE}
def HF(n:X.A.units+1<cLine)(p:PE X o td)(q:PE X i ty)(hs:AF i):PE X (.Subscript o i pos) (Lw td ty):=by intro b s c H Q I h;refine Ik PySem.F.slot_dict_getitem.lookup hs (Mw (p b s c H _ I h) λu f ⟨x,C,A,k,m⟩=>Mw (q b f c C _ A m) λiv s2 w=>?_);obtain⟨y,B,d,j,a,v,r,g,l⟩:=w;subst r;obtain rfl:u=Value.ref a:=k;exact⟨yC d g,Cc n d g j λw' s3 z t=>⟨v,B,z,t,l⟩⟩
def HI(t:X.A.units+1<cLine)(w:PE X o td)(z:PE X i ty)(q:PE X value tv)(hs:swapsWith value (some (.Subscript o i pos')) pos.line X.env=pure false) :
  PS X (.Assign [.Subscript o i pos'] value pos) (Lq td ty tv):=by
 intro b s c H D I h;refine wpAny_Assign_Subscript (Mw (q b s c H _ I h) λr f ⟨v,N,J,l,p⟩=>Mw (w b f c N _ J p) λu d ⟨x,M,G,k,n⟩=>Mw (z b d c M _ G n) λiv s3 B=>?_) hs;obtain⟨y,H3,E,j,a,L,A,g,m⟩:=B;subst A;obtain rfl:u=Value.ref a:=k;exact Cd t E g j l λs4 C=>⟨c,L,C,m⟩
end
def Ez (h:Heap) (a:sysModules<h.objs.size):bN P w H (h.push {cls:=.type "dict", data:=.dict #[]}) h.objs.size (.dK []) :=
 ⟨N9 _,beq_eq_false_iff_ne.mpr (Ne.symm (NG a)),[],.nil,Heap.DictOf.new h⟩
abbrev VV:List (V×V)->List (Value×Value)->Prop:=Paired λp q=>RelV p.1 q.1/\RelV p.2 q.2
structure M1(X:Cx)(o:Expr)(m:Str)(apos:Pos)(e:Expr)(cpos:Pos):Prop where
 base:attributeBase o m X.env (eval o X.env)=eval o X.env
 few:((backTo cpos (starEach [e] X.env)).all (λx=>!x.1) && (backToKw cpos (keywordEach [] X.env)).all (λx=>x.1.isSome)
  && decide (([e]:yai).length+([]:List Keyword).length+(if([]:List Keyword).isEmpty then 0 else 1)<30))=true
 line:(apos.endLine==cpos.line)=true
 trees:backTo cpos (starEach [e] X.env)=[(false,eval e X.env)]
structure M2(X:Cx)(o:Expr)(m:Str)(apos:Pos)(e f:Expr)(cpos:Pos):Prop where
 base:attributeBase o m X.env (eval o X.env)=eval o X.env
 few:((backTo cpos (starEach [e,f] X.env)).all (λx=>!x.1) && (backToKw cpos (keywordEach [] X.env)).all (λx=>x.1.isSome)
  && decide (([e,f]:yai).length+([]:List Keyword).length+(if([]:List Keyword).isEmpty then 0 else 1)<30))=true
 line:(apos.endLine==cpos.line)=true
 trees:backTo cpos (starEach [e,f] X.env)=[(false,eval e X.env),(false,eval f X.env)]
def IsD(H:Hp)(a:Addr):Prop:=(∃b,Rd H a (.dK b))∨∃ b,Rd H a (.dT b)
def JS(I:Inv X pins σ H s)(d:IsD H a) :
  s.TypeIs (.ref a) "dict" /\ (∀b,Value.ref a=.ref b->∃ob,s.heap.get? b=some ob/\ob.dict=none)/\(a==sysModules)=false:=by
 rcases d with⟨a,e⟩| ⟨a,e⟩
 ·obtain⟨_,c,vs,_,a⟩:=rO I.MF e;refine⟨a.typeIs,λb q=>?_,c⟩;cases q;obtain⟨ob,_,_,f,d,_⟩:=a;exact⟨ob,f,d.2.1⟩
 ·obtain⟨_,c,xs,_,a⟩:=rP I.MF e;refine⟨a.typeIs,λb q=>?_,c⟩;cases q;obtain⟨ob,_,_,f,d,_⟩:=a;exact⟨ob,f,d.2.1⟩
section
variable{X:Cx}{pins:yab}{σ:St}{H:Hp}{s:Shared}{a:Addr}{y d:V}{u r:Value}{o:Option V}{A:Around}{E:yaa}
def Jn{Q:yaa}(m:A.units+1<cLine)(I:Inv X pins σ H s)(g:nV H a y o)(j:RelV y u)(rd:RelV d r)(h:∀b c,Inv X pins σ H c->RelV (o.getD d) b->Q b c) :
  wpAny (model X.prog X.w) A (call (.builtin "dict.get") [.ref a,u,r]) Q E s:=by
 rcases g with⟨b,k,e,i,l⟩| ⟨b,k,b,e,i,n,l⟩
 ·subst i;obtain⟨z,g,vs,c,f⟩:=rO I.MF e;refine call_meetsIn PySem.F.slot_dict_get f.typeIs PySem.F.entry_dict_get (PySem.F.args_dict_get_3 _ _ _) (meets_dict_get_default (bZ X.prog X.w) a (vK j) g r) ⟨_,f.mapOf,h _ _ (I.tok _) ?_⟩;rw[l];exact(c.val k).getD rd
 ·subst i;cases(show u=Value.ref b from j);obtain⟨z,g,i,c,f⟩:=rP I.MF e;refine call_meetsIn PySem.F.slot_dict_get f.typeIs PySem.F.entry_dict_get (PySem.F.args_dict_get_3 _ _ _) (meetsH_dict_get_default (tupleKind (bZ X.prog X.w)) a b g r) ⟨tupleKind_room_in1 m,k,i,se I.MF n,f,h _ _ (I.tok _) ?_⟩;rw[l];exact(c.val k).getD rd
end
def KG(a d e:TE):TE:=λb H Q=>a b H λx c=>∃a,x=.ref a/\IsD c a/\d b c λy c=>e b c λz b=>∃o,nV b a y o/\Q (o.getD z) b
section
variable{X:Cx}{o e f:Expr}{apos cpos:Pos}{td ty tx:TE}
def Fh (k:X.A.units+1<cLine) (a:PE X o td) (n:PE X e ty) (l:PE X f tx) (m:M2 X o "get" apos e f cpos):PE X (.Call (.Attribute o "get" apos) [e,f] [] cpos) (KG td ty tx):=by
 intro b s c H Q I h;refine wpAny_Call_method m.base m.few m.line PySem.F.plainAttrs_dict PySem.F.slot_dict_get PySem.F.type_dict_get (Mw (a b s c H _ I h) λu i q=>?_);obtain⟨x,r,g,h,a,p,d,j⟩:=q;subst p;obtain rfl:u=Value.ref a:=h;obtain⟨h,a,_⟩:=JS g d;refine⟨h,a,?_⟩;rw[m.trees];refine Calls.callWith_builtin rfl (Calls.evalArgs_plain (Calls.spliced_cons (Mw (n b i c r _ g j) λiv a ⟨y,i,h,d,g⟩=>
  Calls.spliced_cons (Mw (l b a c i _ h g) λfv s3 ⟨z,h,c,a,ov,g,b⟩=>Calls.spliced_nil ?_))))
 exact Jn k c g d a λw' s4 c a=>⟨_,h,c,a,b⟩
end
end L2
namespace PM
def xn(a b:Int):Int.gcd b (a.fmod b)=Int.gcd a b:=by
 have h:=Int.fmod_add_mul_fdiv a b;have c:a=a.fmod b+a.fdiv b*b:=by rw[OY];exact h.symm
 rw[Int.gcd_comm a b]
 conv=>rhs;rw[c]
 rw[Int.gcd_add_mul_right_right]
def uU(a:Int){b:Int}(hb:b≠0):(a.fmod b).natAbs<b.natAbs:=by
 by_cases h:0<b
 ·have d:=Int.fmod_lt_of_pos a h;have c:=Z2 a h;omega
 ·have d:b<0:=by omega
  have e:a.fmod b=-((-a).fmod (-b)):=by have:=Int.neg_fmod_neg (a:=a) (b:=b);omega
  have c:=Int.fmod_lt_of_pos (-a) (b:=-b) (by omega);have h3:=Z2 (-a) (b:=-b) (by omega);omega
noncomputable def g3(x y z:Int):Nat:=Int.gcd (Int.gcd x y:Int) z
def tT(x y z:Int):(g3 x y z:Int)∣x:=VC (Int.gcd_dvd_left _ _) (Int.gcd_dvd_left _ _)
def xh(x y z:Int):(g3 x y z:Int)∣y:=VC (Int.gcd_dvd_left _ _) (Int.gcd_dvd_right _ _)
def xi(x y z:Int):(g3 x y z:Int)∣z:=Int.gcd_dvd_right _ _
def Jv{x y z d:Int}(c:d∣x)(b:d∣y)(a:d∣z):d∣(g3 x y z:Int):=Xr (Xr c b) a
def tU:g3 x y z=0↔x=0/\y=0/\z=0:=by
 unfold g3;rw[Int.gcd_eq_zero_iff];constructor
 ·rintro⟨h,a⟩;have d:Int.gcd x y=0:=by lia
  obtain⟨c,b⟩:=Int.gcd_eq_zero_iff.mp d;exact⟨c,b,a⟩
 ·rintro⟨c,b,a⟩;subst c b a;simp
def N1(x y z l:Int):Int:=if l<0 then -(g3 x y z:Int)else(g3 x y z:Int)
def w4{x y z:Int}(h:¬(x=0/\y=0/\z=0)):N1 x y z l≠0:=by
 have:g3 x y z≠0:=λe=>h (tU.mp e)
 unfold N1;split<;>omega
def zC(x y z l:Int):(N1 x y z l).natAbs=g3 x y z:=by unfold N1;split<;>lia
def GU{x y z t:Int}(h:(g3 x y z:Int)∣t):N1 x y z l∣t:=by
 unfold N1;split
 ·exact Int.neg_dvd.mpr h
 ·exact h
def dS{x y z t:Int}(h:(g3 x y z:Int)∣t):t.fdiv (N1 x y z l)*N1 x y z l=t:=by have a:=GU (l:=l) h;rw[Int.fdiv_eq_ediv_of_dvd a];exact Int.ediv_mul_cancel a
def Kr{x y z:Int}(h:¬(x=0/\y=0/\z=0)):g3 (x.fdiv (N1 x y z l)) (y.fdiv (N1 x y z l)) (z.fdiv (N1 x y z l))=1:=by
 have f:=dS (l:=l) (tT x y z);have e:=dS (l:=l) (xh x y z);have d:=dS (l:=l) (xi x y z);have hn:=w4 (l:=l) h;have h:=zC x y z l;generalize x.fdiv (N1 x y z l)=a at f ⊢;generalize y.fdiv (N1 x y z l)=b at e ⊢;generalize z.fdiv (N1 x y z l)=c at d ⊢;generalize N1 x y z l=g at *;have i:(g3 a b c:Int)*g∣(g3 x y z:Int):=by
  refine Jv ?_ ?_ ?_
  ·rw[<- f];exact Yk (tT a b c) (Uw _)
  ·rw[<- e];exact Yk (xh a b c) (Uw _)
  ·rw[<- d];exact Yk (xi a b c) (Uw _)
 have d:g3 a b c*g.natAbs∣g.natAbs:=by rw[h];have:=Z4.mpr i;rw[VB]at this;simpa [h]using this
 have e:0<g.natAbs:=by lia
 have:=Nat.le_of_dvd e d;have h0:g3 a b c≠0:=by
  intro e;rw[e]at d;simp at d
  lia
 rcases UX (g3 a b c) 2 with d|d
 ·lia
 ·have:2*g.natAbs<=g3 a b c*g.natAbs:=Yb _ d
  lia
def HS{x y z l:Int}(hl:l≠0)(a:(g3 x y z:Int)∣l)(h:¬(x=0/\y=0/\z=0)):0<l.fdiv (N1 x y z l):=by
 have e:=dS (l:=l) a;have hg:g3 x y z≠0:=λe=>h (tU.mp e)
 have b:(l<0/\N1 x y z l<0)∨(0<l/\0<N1 x y z l):=by
  unfold N1;split
  ·left;omega
  ·right;omega
 generalize l.fdiv (N1 x y z l)=a at e ⊢;generalize N1 x y z l=g at *;rcases Vy a 0 with a|a|a
 ·exfalso;rcases b with⟨c,b⟩| ⟨c,b⟩
  ·have:=Xd a b;omega
  ·have:=SK a b;omega
 ·subst a;simp at e;omega
 ·exact a
def uW(a:Int):Int.gcd a 0=a.natAbs:=by simp
def G3(a b:Int):Int.gcd ((a.natAbs:Nat):Int) ((b.natAbs:Nat):Int)=Int.gcd a b:=by unfold Int.gcd;simp
end PM
namespace PX
open PySem PySem.W PySem.Spec PySem.Calls PyProof.Rows PySem.Builtin.ObjectAttr PySem.Builtin.Getset_descriptor
def ExcAt(e c:Addr)(h:Heap):Prop:=∃o a,h.get? e=some o/\o.cls=.ref c/\o.data=.fields a
def ExcAt.ty(p:ExcAt e c h):Looks M h (typeOf (.ref e)) (.ref c):=by obtain⟨o,vs,b,a,_⟩:=p;exact a ▸ (Looks.ld b).andThen .now
structure AG(K:Frag)(c:Addr):Prop where
 pg:plainGet K c "__class__" = true
 hd:hasDictIn K c=true
 at_:findIn K (.ref c) "__class__" = some (some (.builtin "object.__class__"))
 get:specialIn K (.builtin "object.__class__") "__get__" = some (some (.builtin "getset_descriptor.__get__"))
 takes:takesIn K (.builtin "object.__class__")=some true
 obj:mroIn K c (.type "object")=some true
 not:∀T,(T = "int" ∨ T = "bool" ∨ T = "tuple" ∨ T = "list" ∨ T = "str")->kitOne K (.ref c) (.type T)=some false
structure k8(K:Frag)(c:Addr):Prop where
 cls:(clsIn K c).isSome=true
 ga:findIn K (.ref c) "__getattribute__" = some (some (.builtin "BaseException.__getattribute__"))
 hook:findIn K (.ref c) "__getattr__" = some none
 at_:findIn K (.ref c) "__class__" = some (some (.builtin "object.__class__"))
 get:specialIn K (.builtin "object.__class__") "__get__" = some (some (.builtin "getset_descriptor.__get__"))
 takes:takesIn K (.builtin "object.__class__")=some true
 obj:mroIn K c (.type "object")=some true
 exc:mroIn K c (.type "BaseException")=some true
 not:∀T,(T = "int" ∨ T = "bool" ∨ T = "tuple" ∨ T = "list" ∨ T = "str")->kitOne K (.ref c) (.type T)=some false
section
variable{prog:Program}{w:World}{A:Around}{E:yaa}{s:Shared}{K:Frag}{e c:Addr}
def Lz {R:Result->Shared->Prop} {a:Value} (X:K.In s.heap) (p:ExcAt e c s.heap) (d:mroIn K c (.type "object")=some true) (b:R (.ok (.ret (.ref c))) s) :
  codeAny (model prog w) A (.call (.builtin "getset_descriptor.__get__") ⟨[.builtin "object.__class__", .ref e,a],[]⟩) R s:=by
 obtain⟨h,g,dr,t,os⟩:=s;have La:=p.ty (M:=model prog w);have Lb:=looks_mroIn (M:=model prog w) X d;refine codeAny_call_builtin (KF.slot_gs.plain) KF.entry_gs (KF.slot_gs.check _ _ _ _ _ _ _ _ KF.type_class (KF.args_gs _ _ _) ?_);unfold Builtin.«getset_descriptor.__get__» descrGet;rw[dga_obj];refine Mh (Mt ?_);unfold descrGetter descrCheckInstance descrNameAndClass isInstance;simp only[KF.owner_class]
 repeat lk
 refine⟨Code.quiet_builtin _ (by decide +kernel),UT KF.entry_class ?_⟩;unfold Builtin.«object.__class__» shownTypeOf
 repeat lk
 exact b
def KO (k:k8 K c) (X:K.In h):Looks M h (find (.ref e) (.ref c) "__class__") (.bind (.builtin "getset_descriptor.__get__") (.builtin "object.__class__")):=by have d:=looks_findIn (M:=M) X k.at_;have b:Looks M h (getOf (some (.builtin "object.__class__"))) (some (.builtin "getset_descriptor.__get__")):=looks_specialIn X k.get;have a:=looks_takesIn (M:=M) X k.takes;refine d.andThen (b.andThen ?_);exact(show Looks M h (dataDescriptor? (some (.builtin "object.__class__")) (some (.builtin "getset_descriptor.__get__"))) (some (.builtin "getset_descriptor.__get__", .builtin "object.__class__"))from a.andThen .now).andThen (Looks.tag .now)
def Iy{a:Tok}{Q:Fin->Shared->Prop}(k:k8 K c)(X:K.In s.heap)(p:ExcAt e c s.heap)(b:Q (.done (.ret (.ref c))) s) :
  wpAny (model prog w) A (Builtin.«object.__getattribute__» ⟨[.ref e,.str "__class__" a],[]⟩) Q E s:=by
 obtain⟨h,g,dr,t,os⟩:=s;have d:=p.ty (M:=model prog w);have a:=KO (M:=model prog w) (e:=e) k X;refine Mh (Mt ?_);refine Mh (Mt ?_);refine Mh (d.at (Mh (a.at ?_)));show wpAny _ _ (bindTo _ _ _ _) _ _ _;unfold bindTo
 repeat (first|with_reducible refine Mh ?_|with_reducible refine Qv ?_)
 refine wpAny_call (Lz X p k.obj ?_);exact Mt b
def Iw{a:Value}{Q:Unit->Shared->Prop}(k:k8 K c)(X:K.In s.heap)(p:ExcAt e c s.heap)(b:Q () s) :
  wpAny M A (checkBuiltinCall "BaseException.__getattribute__" ⟨[.ref e,a],[]⟩) Q E s:=by
 obtain⟨h,g,dr,t,os⟩:=s;have d:builtinKind "BaseException.__getattribute__" = some .slot:=by decide +kernel
 have f:splitId "BaseException.__getattribute__" = some ("BaseException", "__getattribute__"):=by decide +kernel
 have ha:=F.args_bexc_ga (.ref e) a;have i:=p.ty (M:=M);have g:=looks_mroIn (M:=M) X k.exc;have a:Looks M h (isInstance (.ref e) (.type "BaseException")) true:=i.andThen g;simp only[checkBuiltinCall,d,f];refine Mh (a.at ?_)
 repeat (first|wp_step)
 exact b
def x_call{a:Tok}{R:Result->Shared->Prop}(k:k8 K c)(X:K.In s.heap)(p:ExcAt e c s.heap)(b:R (.ok (.ret (.ref c))) s) :
  codeAny (model prog w) A (.call (.builtin "BaseException.__getattribute__") ⟨[.ref e,.str "__class__" a],[]⟩) R s :=
 codeAny_call_builtin F.excAttr_ValueError.ga.plain F.entry_bexc_ga (Iw k X p (Iy k X p b))
def KN{Q:yan->Shared->Prop}(k:k8 K c)(X:K.In s.heap)(p:ExcAt e c s.heap)(b:Q (some (.ref c)) {s with toks:=s.toks+1}) :
  wpAny (model prog w) A (getAttr? (.ref e) "__class__") Q E s:=by
 obtain⟨h,g,dr,t,os⟩:=s;have g:=p.ty (M:=model prog w);have d:=looks_findIn (M:=model prog w) X k.ga;have f:=looks_findIn (M:=model prog w) X k.hook;have a:=F.excAttr_ValueError.ga.bind (.ref e);unfold getAttr? getAttrBy? getAttrBy;refine Mh (wpAny_mkText (Mh (VD (Qv (Mh (g.at (Mh (d.at ?_))))))));have d:(Value.builtin "BaseException.__getattribute__" == Value.builtin "object.__getattribute__")=false:=by decide +kernel
 simp only[onTheHeap,Bool.true_and,d,Pf,if_false];unfold getAttrByItsOwn hookBefore;simp only[onTheHeap,if_true];refine Mh (f.at ?_);refine Mh (VD (Qv ?_));unfold callGetattribute boundAndCalled;simp only[Bool.false_and,Pf,if_false];refine Mh (wpAny_of_eq a ?_);refine wpAny_call (x_call k X p ?_);refine Mt (a:=Value.ref c) ?_;exact Mt b
set_option tactic.hygienic true in
def EU(k:k8 K c):KitX K (.ref e) (.ref c) (ExcAt e c) where
 ty:=λ_ _ _ p=>p.ty
 it:=λ_ _ X _=>by
  have h:=k.cls;unfold clsIn at h;split at h
  ·rename_i l j g a f;intro A' Q' E' s' b q;unfold isType loadHead;exact Mh (wpAny_loadPart (b _ _ (X _ _ f)) (Mt q))
  ·cases h
 ne:=λh i dd Mp n sl X d=>by
  have h:=k.cls;refine Bool.eq_false_iff.mpr λq=>?_
  have z:c=i:=Value.ref.inj (beq_iff_eq.mp q);subst z;unfold clsIn at h;split at h
  ·rename_i l j g a f;cases(X _ _ f).symm.trans d
  ·cases h
 ca:=λX p b=>KN k X p b
end
end PX
namespace PD
open PySem PySem.Spec PyProof.Rows L2 PX
abbrev St:=L2.St
def NT:HO->Prop
 |.Rh _=>False
 |_=>True
def LO:Str := "lightest.<locals>.<lambda>"
def IA(c:Addr):Heap->Prop:=λh=>h.CodeRec (.ref c) LO
def fX(H:Hp):Prop:=∀P a,H P=some (.Rh a)->TriplesOk a.toList/\∀b d,codeAmong b a.toList=some d->∃c,d=.ref c/\H c=some (.ext (IA c))
noncomputable def tabOf(K:yac):Option Addr :=
 match PySem.W.nsIn K mainGlobals "lightest" with
 |some (some (.ref f))=>(match K.lookup f with
  |some ⟨_,_,.func a,_⟩=>(match a.code with
   |.ref c=>(match K.lookup c with
    |some ⟨_,_,.fields a,_⟩=>(match(a[11]?:yan)with
     |some (.ref P)=>if(K.lookup P).isNone=true then some P else none
     |_=>none)
    |_=>none)
   |_=>none)
  |_=>none)
 |_=>none
structure av(H H':Hp):Prop where
 kp:∀b o,H b=some o->NT o->H' b=some o
 tb:∀b ps,H b=some (.Rh ps)->∃more,H' b=some (.Rh (ps++more))
 ok:fX H->fX H'
def av.app(e:av H H')(b:Addr)(o:HO)(h:H b=some o)(a:NT o:=by first|exact True.intro|assumption):H' b=some o:=e.kp b o h a
instance {H H':Hp}:CoeFun (av H H') (λ_=>∀(b:Addr) (o:HO),H b=some o->(nt:NT o:=by first|exact True.intro|assumption)->H' b=some o):=⟨@av.app H H'⟩
def av.refl(H:Hp):av H H:=⟨λ_ _ h _=>h,λ_ ps h=>⟨#[],by rw[h];simp⟩,id⟩
def av.trans(a:av H H1)(b:av H1 H2):av H H2:=⟨λc o h n=>b.kp c o (a.kp c o h n) n,λc d h=>by obtain⟨e,g⟩:=a.tb c d h;obtain⟨d,f⟩:=b.tb c _ g;exact⟨e++d,by rw[f,Yd]⟩,λh=>b.ok (a.ok h)⟩
def av.ex(e:av H H'){o:HO}(h:H b=some o):∃a,H' b=some a:=by
 by_cases n:NT o
 ·exact⟨o,e.kp b o h n⟩
 ·cases o with
  |Rh a =>
   obtain⟨m,q⟩:=e.tb b a h;exact⟨_,q⟩
  |_=>exact absurd True.intro n
def av.free(e:av H H')(h:H' l=Option.none):H l=Option.none:=by
 cases q:H l with
 |none=>rfl
 |some o =>
  obtain⟨o',z⟩:=e.ex q;rw[h]at z;cases z
def av.seq{K:yac}{H H':Hp}{a:Addr}{xs:yar}(e:av H H')(h:SqL K H a xs):SqL K H' a xs:=by
 rcases h with(h|⟨o,h⟩)|h
 ·exact .inl (.inl (e _ _ h))
 ·exact .inl (.inr ⟨o,e _ _ h⟩)
 ·exact .inr h
theorem fX.upd{H:Hp}(n:NT o)(a:H p=none∨∃ u,H p=some u/\(∀b,u ≠ .ext b)/\NT u)(h:fX H):fX (upd H p o):=by
 intro P b e;have c:P≠p:=λz=>by subst z;rw[aI]at e;cases e;exact n
 rw[aw c]at e;obtain⟨c,f⟩:=h P b e;refine⟨c,λd g q=>?_⟩;obtain⟨c,e,b⟩:=f d g q;refine⟨c,e,?_⟩;rw[aw λz=>?_]
 ·exact b
 ·subst z;rcases a with a|⟨u,a,c,_⟩
  ·rw[a]at b;cases b
  ·rw[a]at b;cases b;exact c _ rfl
structure iC(K:yac)(H:Hp):Prop where
 ok:fX H
 at':∀P,tabOf K=some P->∃ps,H P=some (.Rh ps)
def iC.same{K:yac}{H H':Hp}(h:iC K H)(e:av H H'):iC K H':=⟨e.ok h.ok,λP q=>by obtain⟨a,z⟩:=h.at' P q;obtain⟨m,z⟩:=e.tb P a z;exact⟨_,z⟩⟩
theorem iC.upd{K:yac}{H:Hp}{p:Addr}{o:HO}(h:iC K H)(n:NT o)(a:H p=none∨∃ u,H p=some u/\(∀b,u ≠ .ext b)/\NT u):iC K (upd H p o):=⟨fX.upd n a h.ok,λP q=>by
 obtain⟨b,z⟩:=h.at' P q;refine⟨b,?_⟩;rw[aw λe=>?_]
 ·exact z
 ·subst e;rcases a with a|⟨u,a,_,b⟩
  ·rw[a]at z;cases z
  ·rw[a]at z;cases z;exact b⟩
inductive D where
 |MU|bl (b:Bool)|int (i:Int)|str (x:Str)|tup (ds:List D)|lst (t:Bool) (ds:List D)|exc (c:Addr)|obj (C:Addr) (ns:yah) (ds:List D)|QQ|PN (ks:yaf) (ds:List D)
abbrev yas:=List D
def Tt:HO->Prop
 |.ext _=>True|.ins _ _ _=>True|.frz _ (.dK _)=>True|_=>False
def Tt.nt(h:Tt o):NT o:=by cases o<;>first|exact True.intro|exact h.elim
def Oh(K:yac)(H:Hp)(t:Bool)(a:Addr)(vs:yar):Prop:=SqL K H a vs/\(t=true->H a=some (.lst vs)/\K.lookup a=none)
def Oh.same{K:yac}{H H':Hp}{t:Bool}{a:Addr}{vs:yar}(e:av H H')(q:Oh K H t a vs):Oh K H' t a vs:=⟨e.seq q.1,λz=>⟨e _ _ (q.2 z).1,(q.2 z).2⟩⟩
def Oh.any{K:yac}{H:Hp}{a:Addr}{vs:yar}(q:SqL K H a vs):Oh K H false a vs:=⟨q,λz=>by cases z⟩
def Oh.new{K:yac}{H:Hp}(q:H a=some (.lst vs))(k:K.lookup a=none):Oh K H t a vs:=⟨SqL.of q,λ_=>⟨q,k⟩⟩
def MW(_:yac)(H:Hp)(a:Addr)(xs:yar):Prop:=H a=some (.tup xs)
def MW.w{K:yac}{H:Hp}{a:Addr}{xs:yar}(h:MW K H a xs):L2.MW K H a xs:=.inl (.inl h)
def MW.of{K:yac}{H:Hp}{a:Addr}{xs:yar}(h:H a=some (.tup xs)):MW K H a xs:=h
mutual
def Den(K:yac)(P:yak)(H:Hp):D->V->Prop
 |.MU,v=>v=.MU
 |.bl b,v=>v=.bl b
 |.int i,v=>v=.int i
 |.str x,v=>v=.str x
 |.tup d,v=>∃a b,v=.ref a/\MW K H a b/\af K P H d b
 |.lst t d,v=>∃a b,v=.ref a/\¬P t a/\Oh K H t a b/\af K P H d b
 |.exc c,v=>∃e,v=.ref e/\H e=some (.ext (ExcAt e c))/\k8 K c
 |.QQ,v=>∃a,v=.ref a/\H a=some (.ext (PySem.W.KitAt a "dict"))
 |.obj C c d,v=>∃a e b,v=.ref a/\H a=some (.ins C e (c.zip b))/\b.length=c.length/\AG K C/\af K P H d b
 |.PN e d,v=>∃a o c b,v=.ref a/\H a=some (.frz o (.dK c))/\c=(e.map Sum.inl).zip b/\b.length=e.length/\af K P H d b
def af(K:yac)(P:yak)(H:Hp):yas->yar->Prop
 |[],a=>a=[]
 |d::b,a=>∃v r,a=v::r/\Den K P H d v/\af K P H b r
end
section
variable{K:yac}{P P':yak}{H H':Hp}
mutual
theorem Den.map(g:∀a vs,MW K H a vs->MW K H' a vs)(f:∀t a vs,¬P t a->Oh K H t a vs->¬P' t a/\Oh K H' t a vs)(b:∀a o,Tt o->H a=some o->H' a=some o):∀(d:D) (v:V),Den K P H d v->Den K P' H' d v
 |.MU,_,h=>by simpa only[Den]using h
 |.bl _,_,h=>by simpa only[Den]using h
 |.int _,_,h=>by simpa only[Den]using h
 |.str _,_,h=>by simpa only[Den]using h
 |.tup d,_,h=>by simp only[Den]at h ⊢;obtain⟨a,vs,e,q,r⟩:=h;exact⟨a,vs,e,g a vs q,af.map g f b d vs r⟩
 |.lst t d,_,h=>by simp only[Den]at h ⊢;obtain⟨a,vs,e,p,q,r⟩:=h;exact⟨a,vs,e,(f t a vs p q).1,(f t a vs p q).2,af.map g f b d vs r⟩
 |.exc c,_,h=>by simp only[Den]at h ⊢;obtain⟨a,e,q,k⟩:=h;exact⟨a,e,b a _ True.intro q,k⟩
 |.obj C ns d,_,h=>by simp only[Den]at h ⊢;obtain⟨a,c,vs,e,q,l,k,r⟩:=h;exact⟨a,c,vs,e,b a _ True.intro q,l,k,af.map g f b d vs r⟩
 |.QQ,_,h=>by simp only[Den]at h ⊢;obtain⟨a,e,q⟩:=h;exact⟨a,e,b a _ True.intro q⟩
 |.PN ks d,_,h=>by simp only[Den]at h ⊢;obtain⟨a,o,c,vs,e,q,l,k,r⟩:=h;exact⟨a,o,c,vs,e,b a _ True.intro q,l,k,af.map g f b d vs r⟩
theorem af.map(c:∀a vs,MW K H a vs->MW K H' a vs)(f:∀t a vs,¬P t a->Oh K H t a vs->¬P' t a/\Oh K H' t a vs)(b:∀a o,Tt o->H a=some o->H' a=some o):∀(ds:yas) (vs:yar),af K P H ds vs->af K P' H' ds vs
 |[],_,h=>by simpa only[af]using h
 |d::ds,_,h=>by simp only[af]at h ⊢;obtain⟨v,r,e,g,a⟩:=h;exact⟨v,r,e,Den.map c f b d v g,af.map c f b ds r a⟩
end
end
def MW.same{K:yac}{H H':Hp}{a:Addr}{xs:yar}(e:av H H')(h:MW K H a xs):MW K H' a xs:=e _ _ h
section
variable{K:yac}{P:yak}{H H':Hp}
theorem Den.same(e:av H H')(h:Den K P H d v):Den K P H' d v:=Den.map (λ_ _ q=>MW.same e q) (λ_ _ _ p q=>⟨p,q.same e⟩) (λa _ n q=>e.kp a _ q n.nt) d v h
theorem af.same(e:av H H')(h:af K P H ds vs):af K P H' ds vs:=af.map (λ_ _ q=>MW.same e q) (λ_ _ _ p q=>⟨p,q.same e⟩) (λa _ n q=>e.kp a _ q n.nt) ds vs h
def Den.My{P':yak}(e:∀t a,P' t a->P t a)(h:Den K P H d v):Den K P' H d v:=Den.map (λ_ _ q=>q) (λ_ _ _ p q=>⟨λz=>p (e _ _ z),q⟩) (λ_ _ _ q=>q) d v h
def af.My{P':yak}(e:∀t a,P' t a->P t a)(h:af K P H ds vs):af K P' H ds vs:=af.map (λ_ _ q=>q) (λ_ _ _ p q=>⟨λz=>p (e _ _ z),q⟩) (λ_ _ _ q=>q) ds vs h
theorem af.len:∀{ds:yas} {vs:yar},af K P H ds vs->vs.length=ds.length
 |[],_,h=>by simp only[af]at h;subst h;rfl
 |d::ds,_,h=>by simp only[af]at h;obtain⟨v,r,rfl,_,a⟩:=h;simp[af.len a]
theorem af.get:∀{ds:yas} {vs:yar} {i:Nat} {d:D},af K P H ds vs->ds[i]?=some d->∃v,vs[i]?=some v/\Den K P H d v
 |[],_,_,_,_,e=>by simp at e
 |d::ds,_,0,_,h,e=>by simp only[af]at h;obtain⟨v,r,rfl,a,_⟩:=h;simp at e;subst e;exact⟨v,rfl,a⟩
 |d::ds,_,i+1,x,h,e=>by simp only[af]at h;obtain⟨v,r,rfl,_,a⟩:=h;obtain⟨u,c,b⟩:=af.get (i:=i) (d:=x) a (by simpa using e);exact⟨u,by simpa using c,b⟩
theorem af.bA:∀{ds:yas} {vs:yar} {i:Nat} {v:V},af K P H ds vs->vs[i]?=some v->∃d,ds[i]?=some d/\Den K P H d v
 |[],_,_,_,h,e=>by simp only[af]at h;subst h;simp at e
 |d::ds,_,0,_,h,e=>by simp only[af]at h;obtain⟨v,r,rfl,a,_⟩:=h;simp at e;subst e;exact⟨d,rfl,a⟩
 |d::ds,_,i+1,x,h,e=>by simp only[af]at h;obtain⟨v,r,rfl,_,a⟩:=h;obtain⟨u,c,b⟩:=af.bA (i:=i) (v:=x) a (by simpa using e);exact⟨u,by simpa using c,b⟩
theorem af.append:∀{ds es:yas} {vs a:yar},af K P H ds vs->af K P H es a->af K P H (ds++es) (vs++a)
 |[],_,_,_,h,a=>by simp only[af]at h;subst h;exact a
 |d::ds,_,_,_,h,a=>by simp only[af]at h;obtain⟨v,r,rfl,c,b⟩:=h;simp only[PQ,af];exact⟨v,_,rfl,c,af.append b a⟩
def af.one(h:Den K P H d v):af K P H [d] [v]:=by simp only[af];exact⟨v,[],rfl,h,rfl⟩
def af.nil:af K P H [] []:=by simp only[af]
def af.cons(h:Den K P H d v)(h':af K P H ds vs):af K P H (d::ds) (v::vs):=by simp only[af];exact⟨v,vs,rfl,h,h'⟩
def Den.M9(h:Den K P H (.int i) v):v=.int i:=by simpa only[Den]using h
def Den.VM(h:Den K P H (.bl b) v):v=.bl b:=by simpa only[Den]using h
def Den.U3(h:Den K P H .MU v):v=.MU:=by simpa only[Den]using h
def Den.U4(h:Den K P H (.str x) v):v=.str x:=by simpa only[Den]using h
theorem Den.int(i:Int):Den K P H (.int i) (.int i):=by simp only[Den]
theorem Den.bl(b:Bool):Den K P H (.bl b) (.bl b):=by simp only[Den]
theorem Den.MU:Den K P H .MU .MU:=by simp only[Den]
theorem Den.str(x:Str):Den K P H (.str x) (.str x):=by simp only[Den]
def Den.Oi(h:Den K P H (.tup ds) v):∃a vs,v=.ref a/\MW K H a vs/\af K P H ds vs:=by simpa only[Den]using h
def Den.OT(h:Den K P H (.lst t ds) v):∃a vs,v=.ref a/\¬P t a/\Oh K H t a vs/\af K P H ds vs:=by simpa only[Den]using h
def Den.OF(h:Den K P H (.lst t ds) v):∃a vs,v=.ref a/\¬P t a/\SqL K H a vs/\af K P H ds vs:=by obtain⟨a,vs,e,d,c,b⟩:=h.OT;exact⟨a,vs,e,d,c.1,b⟩
def Den.YG (h:Den K P H .QQ v):∃a,v=.ref a/\H a=some (.ext (PySem.W.KitAt a "dict")):=by simpa only[Den]using h
theorem Den.QQ (h:H a=some (.ext (PySem.W.KitAt a "dict"))):Den K P H .QQ (.ref a):=by simp only[Den];exact⟨a,rfl,h⟩
def Den.Wv(h:Den K P H (.obj C ns ds) v):∃a b vs,v=.ref a/\H a=some (.ins C b (ns.zip vs))/\vs.length=ns.length/\AG K C/\af K P H ds vs:=by simpa only[Den]using h
theorem Den.obj{ns:yah}(h:H a=some (.ins C dx (ns.zip vs)))(l:vs.length=ns.length)(k:AG K C)(d:af K P H ds vs):Den K P H (.obj C ns ds) (.ref a):=by simp only[Den];exact⟨a,dx,vs,rfl,h,l,k,d⟩
def Den.U5(h:Den K P H (.PN ks ds) v):∃a o kws vs,v=.ref a/\H a=some (.frz o (.dK kws))/\kws=(ks.map Sum.inl).zip vs/\vs.length=ks.length/\af K P H ds vs:=by simpa only[Den]using h
theorem Den.PN{ks:yaf}(h:H a=some (.frz o (.dK ((ks.map Sum.inl).zip vs))))(l:vs.length=ks.length)(d:af K P H ds vs):Den K P H (.PN ks ds) (.ref a):=by simp only[Den];exact⟨a,o,_,vs,rfl,h,rfl,l,d⟩
def Den.Ww(h:Den K P H (.exc c) v):∃e,v=.ref e/\H e=some (.ext (ExcAt e c))/\k8 K c:=by simpa only[Den]using h
theorem Den.exc(h:H e=some (.ext (ExcAt e c)))(k:k8 K c):Den K P H (.exc c) (.ref e):=by simp only[Den];exact⟨e,rfl,h,k⟩
theorem Den.tup(h:MW K H a vs)(h':af K P H ds vs):Den K P H (.tup ds) (.ref a):=by simp only[Den];exact⟨a,vs,rfl,h,h'⟩
theorem Den.lst(p:¬P t a)(h:Oh K H t a vs)(h':af K P H ds vs):Den K P H (.lst t ds) (.ref a):=by simp only[Den];exact⟨a,vs,rfl,p,h,h'⟩
end
inductive LI where
 |own (ds:yas)|val (d:D)
inductive OS where
 |lst (ds:yas)|dk (kvs:List (Key×D))|dt (kvs:List (List Key×D))|ll (xs:List LI)
inductive Sl where
 |val (d:D)
 |ob (x:OS)
abbrev Sl.own(ds:yas):Sl:=.ob (.lst ds)
def aA(K:yac)(P:yak)(H:Hp)(B:yaj):Nat->List LI->yar->Prop
 |_,[],a=>a=[]
 |k,.own d::r,a=>∃b c u,a=.ref b::u/\B k=some b/\H b=some (.lst c)/\af K P H d c/\aA K P H B (k+1) r u
 |k,.val d::r,a=>∃v u,a=v::u/\Den K P H d v/\aA K P H B (k+1) r u
theorem aA.map{K:yac}{P P':yak}{H H':Hp}{B B':yaj}(c:∀ds vs,af K P H ds vs->af K P' H' ds vs)(f:∀k b,B k=some b->B' k=some b/\∀a,H b=some (.lst a)->H' b=some (.lst a)):∀{k:Nat} {xs:List LI} {vs:yar},aA K P H B k xs vs->aA K P' H' B' k xs vs
 |_,[],_,h=>by simpa only[aA]using h
 |k,.own ds::r,_,h=>by simp only[aA]at h ⊢;obtain⟨b,a,u,e,i,l,g,j⟩:=h;exact⟨b,a,u,e,(f k b i).1,(f k b i).2 a l,c ds a g,aA.map c f j⟩
 |k,.val d::r,_,h=>by simp only[aA]at h ⊢;obtain⟨v,u,e,i,l⟩:=h;have g:=c [d] [v] (af.one i);simp only[af]at g;obtain⟨v',r',a,j,_⟩:=g;cases a;exact⟨v,u,e,j,aA.map c f l⟩
theorem aA.len{K:yac}{P:yak}{H:Hp}{B:yaj}:∀{k:Nat} {xs:List LI} {vs:yar},aA K P H B k xs vs->vs.length=xs.length
 |_,[],_,h=>by simp only[aA]at h;subst h;rfl
 |k,.own ds::r,_,h=>by simp only[aA]at h;obtain⟨b,us,u,rfl,_,_,_,a⟩:=h;simp[aA.len a]
 |k,.val d::r,_,h=>by simp only[aA]at h;obtain⟨v,u,rfl,_,a⟩:=h;simp[aA.len a]
inductive di (K:yac) (P:yak) (H:Hp) (B:yaj):OS->HO->Prop where
 |lst {ds:yas} {vs:yar} (h:af K P H ds vs):di K P H B (.lst ds) (.lst vs)
 |ll {xs:List LI} {vs:yar} (h:aA K P H B 0 xs vs):di K P H B (.ll xs) (.lst vs)
 |dk {kvs:List (Key×D)} {kws:List (Key×V)} (e:kws.map (·.1)=kvs.map (·.1)) (h:af K P H (kvs.map (·.2)) (kws.map (·.2))):di K P H B (.dk kvs) (.dK kws)
 |dt {kvs:List (List Key×D)} {kws:List (List Key×V)} (e:kws.map (·.1)=kvs.map (·.1)) (h:af K P H (kvs.map (·.2)) (kws.map (·.2))):di K P H B (.dt kvs) (.dT kws)
def jx:HO->Prop
 |.lst _=>True|.dK _=>True|.dT _=>True|_=>False
def jx.nt(h:jx o):NT o:=by cases o<;>first|exact True.intro|exact h.elim
def jx.sol(h:jx o):¬Tt o:=by cases o<;>first|exact h.elim|exact λz=>z
def jx.ne(h:jx o):∀a,o ≠ .ext a:=λ_ e=>by subst e;exact h
section
variable{K:yac}{P P':yak}{H H':Hp}{B B':yaj}{x:OS}{o:HO}
theorem di.map(k:∀ds vs,af K P H ds vs->af K P' H' ds vs)(c:∀k b,B k=some b->B' k=some b/\∀a,H b=some (.lst a)->H' b=some (.lst a))(h:di K P H B x o):di K P' H' B' x o:=by
 cases h with
 |lst h=>exact .lst (k _ _ h)
 |ll h=>exact .ll (h.map k c)
 |dk e h=>exact .dk e (k _ _ h)
 |dt e h=>exact .dt e (k _ _ h)
theorem di.same(e:av H H')(h:di K P H B x o):di K P H' B x o:=h.map (λ_ _ z=>z.same e) λ_ _ q=>⟨q,λ_ z=>e _ _ z⟩
theorem di.My(e:∀t a,P' t a->P t a)(c:∀k b,B k=some b->B' k=some b)(h:di K P H B x o):di K P' H B' x o:=h.map (λ_ _ z=>z.My e) λk b q=>⟨c k b q,λ_ z=>z⟩
def di.S6(h:di K P H B x o):jx o:=by cases h<;>exact True.intro
def di.OF(h:di K P H B (.lst ds) o):∃vs,o=.lst vs/\af K P H ds vs:=by
 cases h with
 |lst h=>exact⟨_,rfl,h⟩
end
abbrev Ro:=List (Option Sl)
structure Own where
 B:Addr->Prop
 O:yaj
 S:Addr->Prop
def Own.bad(W:Own)(t:Bool)(a:Addr):Prop:=W.B a∨(∃i,W.O i=some a)∨(t=true/\W.S a)
def Own.drop(W:Own)(i:Nat):Own:=⟨W.B,λj=>if j=i then none else W.O j,W.S⟩
def Own.put(W:Own)(i:Nat)(a:Addr):Own:=⟨W.B,λj=>if j=i then some a else W.O j,W.S⟩
def Own.Na{W:Own}(h:(W.drop i).bad t a):W.bad t a:=by
 rcases h with h|⟨j,h⟩| h
 ·exact .inl h
 ·have b:(if j=i then none else W.O j)=some a:=h;by_cases e:j=i
  ·rw[Ml e]at b;cases b
  ·rw[Mj e]at b;exact .inr (.inl ⟨j,b⟩)
 ·exact .inr (.inr h)
def Own.Q0{W:Own}(h:W.bad false a):W.bad t a:=by
 rcases h with h|h|⟨h,_⟩
 ·exact .inl h
 ·exact .inr (.inl h)
 ·cases h
def OU(n i k:Nat):Nat:=n*(k+1)+i
def iu{n j:Nat}(h:j<n):OU n i k≠j:=λe=>by
 unfold OU at e;rw[Nat.mul_add]at e
 lia
def Al{n i j:Nat}(b:i<n)(a:j<n)(e:OU n i k=OU n j l):i=j/\k=l:=by
 unfold OU at e;have c:(n*(k+1)+i) % n=i:=by rw[Nat.mul_add_mod,Pm b]
 have b:(n*(l+1)+j) % n=j:=by rw[Nat.mul_add_mod,Pm a]
 have a:i=j:=by rw[<- c,e,b]
 refine⟨a,?_⟩;have a:n*(k+1)=n*(l+1):=by lia
 have:=Nat.eq_of_mul_eq_mul_left (by lia) a
 lia
abbrev Own.sub(W:Own)(n i:Nat)(k:Nat):Option Addr:=W.O (OU n i k)
def Own.Qh{W:Own}{n i:Nat}(h:i<n)(k:Nat)(b:Addr)(e:W.sub n j k=some b):(W.drop i).sub n j k=some b:=by show(if OU n j k=i then none else W.O (OU n j k))=_;rw[Mj (iu h)];exact e
structure Rel(X:Cx)(W:Own)(H:Hp)(σ:St)(ρ:Ro):Prop where
 val:∀(i:Nat) (d:D),ρ[i]?=some (some (Sl.val d))->∃v,σ[i]?=some (some v)/\Den X.K W.bad H d v
 own:∀(i:Nat) (x:OS),ρ[i]?=some (some (Sl.ob x))->∃a o,W.O i=some a/\σ[i]?=some (some (.ref a))/\H a=some o/\di X.K W.bad H (W.sub σ.length i) x o
 inj:∀i j a,W.O i=some a->W.O j=some a->i=j
 kn:∀i a,W.O i=some a->X.K.lookup a=none/\(¬W.B a/\¬W.S a)/\∃o,H a=some o/\jx o
 ke:∀i a,W.O i=some a->X.MR a=none
 bt:∀a,W.B a->∃o,H a=some o
 st:∀a,W.S a->∃o,H a=some o
 ent:av X.MR H
 tab:iC X.K H
theorem Rel.same(r:Rel X W H σ ρ)(e:av H H'):Rel X W H' σ ρ where
 val:=λi d h=>let ⟨v,h1,h2⟩:=r.val i d h;⟨v,h1,h2.same e⟩
 own:=λi b h=>let ⟨a,vs,h1,h2,h3,h4⟩:=r.own i b h;⟨a,vs,h1,h2,e.kp _ _ h3 h4.S6.nt,h4.same e⟩
 inj:=r.inj
 kn:=λi a h=>let ⟨h1,h2,o,h3,h4⟩:=r.kn i a h;⟨h1,h2,o,e.kp _ _ h3 h4.nt,h4⟩
 ke:=r.ke
 bt:=λa h=>let ⟨_,q⟩:=r.bt a h;e.ex q
 st:=λa h=>let ⟨_,q⟩:=r.st a h;e.ex q
 ent:=r.ent.trans e
 tab:=r.tab.same e
def Rel.eV(r:Rel X W H σ ρ)(i:Nat)(ds:yas)(h:ρ[i]?=some (some (Sl.own ds))):∃a vs,W.O i=some a/\σ[i]?=some (some (.ref a))/\H a=some (.lst vs)/\af X.K W.bad H ds vs:=by obtain⟨a,o,g,f,d,c⟩:=r.own i _ h;obtain⟨vs,e,b⟩:=c.OF;subst e;exact⟨a,vs,g,f,d,b⟩
def Rel.tracked(r:Rel X W H σ ρ)(t:Bool)(a:Addr)(h:W.bad t a):∃o,H a=some o:=by
 rcases h with h|⟨i,h⟩| ⟨_,h⟩
 ·exact r.bt a h
 ·obtain⟨_,_,o,q,_⟩:=r.kn i a h;exact⟨_,q⟩
 ·exact r.st a h
def Rel.fresh(r:Rel X W H σ ρ)(h:H p=none):¬W.bad t p:=λz=>by obtain⟨o,q⟩:=r.tracked t p z;rw[h]at q;cases q
structure ML(W:Own)(H:Hp)(W':Own)(H':Hp):Prop where
 B:W'.B=W.B
 S:W'.S=W.S
 kp:∀b o,(∀i,W.O i≠some b)->H b=some o->NT o->H' b=some o
 new:∀i a,W'.O i=some a->(∃j,W.O j=some a)∨H a=none
 tb:∀b ps,H b=some (.Rh ps)->∃more,H' b=some (.Rh (ps++more))
 ok:fX H->fX H'
def ML.keep(f:ML W H W' H')(b:Addr)(o:HO)(h:∀i,W.O i≠some b)(q:H b=some o)(a:NT o:=by first|exact True.intro|assumption):H' b=some o:=f.kp b o h q a
def ML.ex(f:ML W H W' H'){b:Addr}{o:HO}(h:∀i,W.O i≠some b)(q:H b=some o):∃a,H' b=some a:=by
 by_cases n:NT o
 ·exact⟨o,f.kp b o h q n⟩
 ·cases o with
  |Rh a =>
   obtain⟨m,e⟩:=f.tb b a q;exact⟨_,e⟩
  |_=>exact absurd True.intro n
def ML.refl(W:Own)(H:Hp):ML W H W H:=⟨rfl,rfl,λ_ _ _ h _=>h,λi _ h=>.inl ⟨i,h⟩,λ_ ps h=>⟨#[],by rw[h];simp⟩,id⟩
theorem ML.trans(a:ML W H W1 H1)(b:ML W1 H1 W2 H2):ML W H W2 H2:=by
 refine⟨b.B.trans a.B,b.S.trans a.S,λx o n h t=>b.kp x o (λi z=>?_) (a.kp x o n h t) t,λi x h=>?_,λc d h=>?_,λh=>b.ok (a.ok h)⟩
 ·rcases a.new i x z with⟨j,q⟩| q
  ·exact n j q
  ·rw[h]at q;cases q
 ·rcases b.new i x h with⟨j,q⟩| q
  ·exact a.new j x q
  ·by_cases z:∃j,W.O j=some x
   ·exact .inl z
   ·refine .inr ?_;cases e:H x with
    |none=>rfl
    |some o =>
     obtain⟨o',this⟩:=a.ex (λi w=>z ⟨i,w⟩) e;rw[this]at q;cases q
 ·obtain⟨e,f⟩:=a.tb c d h;obtain⟨a,d⟩:=b.tb c _ f;exact⟨e++a,by rw[d,Yd]⟩
def ML.same(e:av H H'):ML W H W H':=⟨rfl,rfl,λ_ _ _ h n=>e.kp _ _ h n,λi _ h=>.inl ⟨i,h⟩,e.tb,e.ok⟩
def av.ins(e:av MR H){o:HO}(h0:MR a=none)(f:H a=some o)(c:jx o)(d:NT o'):av MR (upd H a o') :=
 ⟨λb u h n=>by rw[aw (aY h h0)];exact e.kp b u h n,λb a h=>by rw[aw (aY h h0)];exact e.tb b a h,λh=>fX.upd d (.inr ⟨o,f,c.ne,c.nt⟩) (e.ok h)⟩
theorem ML.upd{W:Own}{H:Hp}{a:Addr}{o:HO}(f:W.O i=some a)(d:H a=some o)(c:jx o)(g:NT o'):ML W H W (upd H a o') :=
 ⟨rfl,rfl,λb u n h _=>by rw[aw λe=>n i (by rw[e];exact f)];exact h,λj _ h=>.inl ⟨j,h⟩,λb ps h=>⟨#[],by rw[aw (λe=>by subst e;rw[d]at h;cases h;exact c),h];simp⟩,fX.upd g (.inr ⟨o,d,c.ne,c.nt⟩)⟩
structure mv where
 nx:Ro->Prop
 rt:D->Prop
 bk:Ro->Prop:=λ_=>False
 ct:Ro->Prop:=λ_=>False
abbrev DE:=Ro->(D->Prop)->Prop
abbrev DT:=Ro->(Bool->Prop)->Prop
abbrev DA:=Ro->(yas->Prop)->Prop
abbrev DS:=mv->Ro->Prop
def DP(X:Cx)(a:yab)(c:St)(W:Own)(H:Hp)(Q:D->Prop)(u:Value)(e:Shared):Prop :=
 ∃ v b d,Inv X a c b e/\RelV v u/\av H b/\Den X.K W.bad b d v/\Q d
def DTP(X:Cx)(a:yab)(d:St)(H:Hp)(Q:Bool->Prop)(b:Bool)(e:Shared):Prop :=
 ∃ c,Inv X a d c e/\av H c/\Q b
def DAP(X:Cx)(a:yab)(e:St)(W:Own)(H:Hp)(Q:yas->Prop)(f:yad)(g:Shared):Prop :=
 ∃ c b d,Inv X a e b g/\Vals c f/\av H b/\af X.K W.bad b d c/\Q d
def SG(X:Cx)(a:yab)(W:Own)(H:Hp)(E:mv)(f:Flow)(e:Shared):Prop :=
 ∃ c d b,Inv X a d b e/\ML W H c b ∧
 match f with
 |.next=>∃a,Rel X c b d a/\E.nx a
 |.brk=>∃a,Rel X c b d a/\E.bk a
 |.cont=>∃a,Rel X c b d a/\E.ct a
 |.ret u=>∃v d,RelV v u/\Den X.K c.bad b d v/\E.rt d
def MI(X:Cx)(e:Expr)(t:DE):Prop :=
 ∀ (a:yab) (s:Shared) (b:St) (H:Hp) (W:Own) (c:Ro) (Q:D->Prop),Inv X a b H s->Rel X W H b c->t c Q →
  wpAny (model X.prog X.w) X.A (eval e X.env) (DP X a b W H Q) X.xe s
def Rj(X:Cx)(e:Expr)(t:DT):Prop :=
 ∀ (a:yab) (s:Shared) (b:St) (H:Hp) (W:Own) (c:Ro) (Q:Bool->Prop),Inv X a b H s->Rel X W H b c->t c Q →
  wpAny (model X.prog X.w) X.A (isTrue e X.env (eval e X.env)) (DTP X a b H Q) X.xe s
def PU(X:Cx)(e:Expr)(t:DT):Prop :=
 ∀ (b:Sem Value) (a:yab) (s:Shared) (c:St) (H:Hp) (W:Own) (d:Ro) (Q:Bool->Prop),Inv X a c H s->Rel X W H c d->t d Q →
  wpAny (model X.prog X.w) X.A (isTrue e X.env b) (DTP X a c H Q) X.xe s
def PU.pt(h:PU X e t):Rj X e t:=h _
def Rk(X:Cx)(es:yai)(t:DA):Prop :=
 ∀ (c:Pos) (a:yab) (s:Shared) (b:St) (H:Hp) (W:Own) (d:Ro) (Q:yas->Prop),Inv X a b H s->Rel X W H b d->t d Q →
  wpAny (model X.prog X.w) X.A (spliced (backTo c (starEach es X.env))) (DAP X a b W H Q) X.xe s
def OJ(X:Cx)(st:Stmt)(t:DS):Prop :=
 ∀ (a:yab) (s:Shared) (b:St) (H:Hp) (W:Own) (c:Ro) (E:mv),Inv X a b H s->Rel X W H b c->t E c →
  wpAny (model X.prog X.w) X.A (exec st X.env) (SG X a W H E) X.xe s
def cP(X:Cx)(st:yal)(t:DS):Prop :=
 ∀ (a:yab) (s:Shared) (b:St) (H:Hp) (W:Own) (c:Ro) (E:mv),Inv X a b H s->Rel X W H b c->t E c →
  wpAny (model X.prog X.w) X.A (execs st X.env) (SG X a W H E) X.xe s
def Gg(X:Cx)(t:DE):TE:=λc H Q=>∃W a b,Rel X W H c a/\t a b/\∀v a d,av H a->Den X.K W.bad a d v->b d->Q v a
def K9(X:Cx)(t:DS):TS:=λD b H=>∃W a f,Rel X W H b a/\t f a ∧
 (∀b e a c,ML W H b a->Rel X b a e c->f.nx c->D.nx e a) ∧
 (∀b a v d,ML W H b a->Den X.K b.bad a d v->f.rt d->D.rt v a) ∧
 (∀b e a c,ML W H b a->Rel X b a e c->f.bk c->D.bk e a) ∧
 (∀b e a c,ML W H b a->Rel X b a e c->f.ct c->D.ct e a)
section
variable{X:Cx}
def MI.pe(h:MI X e t):PE X e (Gg X t):=by intro a s b H Q I q;obtain⟨W,c,e,r,d,k⟩:=q;exact Mw (h a s b H W c e I r d) λu s1 g=>(by obtain⟨v,a,d,h,b,f,e,c⟩:=g;exact⟨v,a,h,b,k v a d f e c⟩)
def cP.ps{st:yal}{t:DS}(h:cP X st t):PSs X st (K9 X t):=by
 intro a s b H D I q;obtain⟨W,c,e,r,d,m,l,k,j⟩:=q;refine Mw (h a s b H W c e I r d) λf s1 b=>?_
 obtain⟨h,c,a,i,g,q⟩:=b;cases f with
 |next=>obtain⟨e,d,b⟩:=q;exact⟨c,a,i,m h c a e g d b⟩
 |brk=>obtain⟨e,d,b⟩:=q;exact⟨c,a,i,k h c a e g d b⟩
 |cont=>obtain⟨e,d,b⟩:=q;exact⟨c,a,i,j h c a e g d b⟩
 |ret u=>obtain⟨v,d,e,f,b⟩:=q;exact⟨v,c,a,i,e,l h a v d g f b⟩
def MI.of{t:DE}(h:PE X e te)(k:∀a H W ρ Q,Rel X W H a ρ->t ρ Q->te a H λv H'=>av H H'/\∃d,Den X.K W.bad H' d v/\Q d):MI X e t:=by intro b s a H W ρ Q I r c;exact Mw (h b s a H _ I (k a H W ρ Q r c)) λu s1 e=>(by obtain⟨v,H',f,a,c,d,b,q⟩:=e;exact⟨v,H',d,f,a,c,b,q⟩)
end
section
variable{X:Cx}{a b c:Expr}{ta tb:DE}{pos:Pos}
def lB(i:Nat):DE:=λd Q=>match d[i]? with
 |some (some (.val d))=>Q d
 |_=>False
set_option tactic.hygienic true in
def GN(h:lB i ρ Q):∃d,ρ[i]?=some (some (.val d))/\Q d:=by
 unfold lB at h;split at h
 ·rename_i d e;exact⟨d,e,h⟩
 ·exact h.elim
def dC(d:D):DE:=λ_ Q=>Q d
def dv (i:Nat) {x:Str} {pos:Pos} (f:X.N[i]?=some x:=by rfl) (d:S1 X.env.scope x:=by first|exact Or.inl rfl|exact Or.inr (Or.inl rfl)|exact Or.inr (Or.inr rfl)) (e:(x==("__debug__" : Str))=false:=by decide)
  (g:(x==("__classdict__" : Str))=false:=by decide):MI X (.Name x pos) (lB i) :=
 MI.of (gU f d e g) λσ H W ρ Q r f=>by obtain⟨d,e,q⟩:=GN f;obtain⟨v,g,f⟩:=r.val i d e;exact⟨v,g,av.refl H,d,f,q⟩
def ae{i j pos}:MI X (.Constant (.int i) j pos) (dC (.int i)):=MI.of Dd λ_ H _ _ _ _ q=>⟨av.refl H,_,Den.int i,q⟩
def b6{i j pos}:MI X (.Constant (.bool i) j pos) (dC (.bl i)):=MI.of Lm λ_ H _ _ _ _ q=>⟨av.refl H,_,Den.bl i,q⟩
def ow{j pos}:MI X (.Constant .none j pos) (dC .MU):=MI.of Kf λ_ H _ _ _ _ q=>⟨av.refl H,_,Den.MU,q⟩
def ku{x j pos}:MI X (.Constant (.str x) j pos) (dC (.str x)):=MI.of Kg λ_ H _ _ _ _ q=>⟨av.refl H,_,Den.str x,q⟩
abbrev RD2:=D->D->(D->Prop)->Prop
def NW(X:Cx)(f:Value->Value->Sem Value)(r:RD2):Prop :=
 ∀ (d:yab) (s:Shared) (e:St) (H:Hp) (W:Own) (x y:D) (v u:V) (g h:Value) (Q:D->Prop),Inv X d e H s->(∀t a,W.bad t a->∃o,H a=some o)->RelV v g->RelV u h->Den X.K W.bad H x v->Den X.K W.bad H y u->r x y Q →
  wpAny (model X.prog X.w) X.A (f g h) (DP X d e W H Q) X.xe s
def XD(r:RD2)(ta tb:DE):DE:=λd Q=>ta d λx=>tb d λy=>r x y Q
def AQ(m:MI X a ta)(q:MI X b tb){d:yab}{s:Shared}{g:St}{H:Hp}{W:Own}{ρ:Ro}{R:D->D->Prop}(I:Inv X d g H s)(r:Rel X W H g ρ)(h:ta ρ λx=>tb ρ λy=>R x y)
  {l:Type} {Q:l->Shared->Prop} {f:Value->Value->Sem l}
  (p:∀i j k v u x y e,Inv X d g e k->av H e->RelV v i->RelV u j->Den X.K W.bad e x v->Den X.K W.bad e y u->R x y->wpAny (model X.prog X.w) X.A (f i j) Q X.xe k) :
  wpAny (model X.prog X.w) X.A (eval a X.env) (λv n=>wpAny (model X.prog X.w) X.A (eval b X.env) (λu o=>wpAny (model X.prog X.w) X.A (f v u) Q X.xe o) X.xe n) X.xe s:=by
 refine Mw (m d s g H W ρ _ I r h) λi l f=>?_
 obtain⟨v,t,x,s,m,h,o,n⟩:=f;refine Mw (q d l g t W ρ _ s (r.same h) n) λj k f=>?_
 obtain⟨u,e,y,q,g,d,n,l⟩:=f;exact p i j k v u x y e q (h.trans d) m g (o.same d) n l
def DP.up(e:av H H1)(h:DP X pins σ W H1 Q u s'):DP X pins σ W H Q u s':=by obtain⟨v,i,d,I,r,g,f,q⟩:=h;exact⟨v,i,d,I,r,e.trans g,f,q⟩
def aq{d:Operator}{r:RD2}(o:NW X (binaryOp d) r)(i:MI X a ta)(e:MI X b tb):MI X (.BinOp a d b pos) (XD r ta tb):=by intro d s g H W ρ Q I f h;refine wpAny_BinOp (AQ i e I f h λh i j v u x y r p e k l n m q=>?_);exact Mw (o d j g r W x y v u h i Q p (f.same e).tracked k l n m q) λ_ _ z=>z.up e
def KY{rd:D->(D->Prop)->Prop}(n:UnR X (unaryOp op) r)(i:MI X a ta)
  (k:∀P H d v Q,Den X.K P H d v->rd d Q->r v H λe H'=>av H H'/\∃d',Den X.K P H' d' e/\Q d'):MI X (.UnaryOp op a pos) (λρ Q=>ta ρ λx=>rd x Q):=by
 intro e s f H W ρ Q I g h;refine UnaryOp_ (Mw (i e s f H W ρ _ I g h) λh i p=>?_);obtain⟨v,g,x,q,j,o,m,l⟩:=p;exact Mw (n e i f g v h _ q j (k _ g x v Q m l)) λu s2 j=>(by obtain⟨e,l,k,f,i,d,h,g⟩:=j;exact⟨e,l,d,k,f,o.trans i,h,g⟩)
def wO(ta:DE):DE:=λd Q=>ta d λx=>∃i,x=.int i/\Q (.int (-i))
def bT(d:MI X a ta):MI X (.UnaryOp .USub a pos) (wO ta) :=
 KY (rd:=λx Q=>∃i,x=.int i/\Q (.int (-i))) DR d λP H d v Q d ⟨i,e,q⟩=>by subst e;exact⟨i,d.M9,av.refl H,_,Den.int _,q⟩
def NW.of{rd:RD2}(h:QP X f r)(k:∀P H x y v u Q,Den X.K P H x v->Den X.K P H y u->rd x y Q->r v u H λd H'=>av H H'/\∃d',Den X.K P H' d' d/\Q d'):NW X f rd:=by intro d s e H W x y v u f g Q I _ i j m l q;exact Mw (h d s e H v u f g _ I i j (k _ H x y v u Q m l q)) λ_ s2 j=>(by obtain⟨e,l,k,f,i,d,h,g⟩:=j;exact⟨e,l,d,k,f,i,h,g⟩)
def VN(C:Int->Int->Prop)(g:Int->Int->D):RD2:=λx y Q=>match x,y with
 |.int i,.int j=>C i j/\Q (g i j)
 |_,_=>False
def gW(g:Int->Int->D):RD2:=λx y Q=>match x,y with
 |.int i,.int j=>Q (g i j)
 |_,_=>False
def Kp(h:VN C g x y Q):∃i j,x=.int i/\y=.int j/\C i j/\Q (g i j):=by
 unfold VN at h;split at h
 ·exact⟨_,_,rfl,rfl,h⟩
 ·exact h.elim
def pV(h:gW g x y Q):∃i j,x=.int i/\y=.int j/\Q (g i j):=by
 unfold gW at h;split at h
 ·exact⟨_,_,rfl,rfl,h⟩
 ·exact h.elim
def NW.ofI{g:Int->Int->Int}(h:QP X f (rI C λi j=>.int (g i j))):NW X f (VN C λi j=>.int (g i j)) :=
 NW.of h λP H x y v u Q e d z=>by obtain⟨i,j,h,g,f,q⟩:=Kp z;subst h g;exact⟨i,j,e.M9,d.M9,f,av.refl H,_,Den.int _,q⟩
def NW.YH{g:Int->Int->Int}(h:QP X f (Ux λi j=>.int (g i j))):NW X f (gW λi j=>.int (g i j)) :=
 NW.of h λP H x y v u Q e d z=>by obtain⟨i,j,g,f,q⟩:=pV z;subst g f;exact⟨i,j,e.M9,d.M9,av.refl H,_,Den.int _,q⟩
def NW.U6{g:Int->Int->Bool}(h:QP X f (Ux λi j=>.bl (g i j))):NW X f (gW λi j=>.bl (g i j)) :=
 NW.of h λP H x y v u Q e d z=>by obtain⟨i,j,g,f,q⟩:=pV z;subst g f;exact⟨i,j,e.M9,d.M9,av.refl H,_,Den.bl _,q⟩
def J4:NW X (binaryOp .Add) (gW λi j=>.int (i+j)):=NW.YH Ka
def bG:NW X (binaryOp .Sub) (gW λi j=>.int (i - j)):=NW.YH Kc
def cT:NW X (compareOp .Lt) (gW λi j=>.bl (decide (i<j))):=NW.U6 Lj
def vM:NW X (compareOp .LtE) (gW λi j=>.bl (decide (i<=j))):=NW.U6 Lh
def mQ:NW X (compareOp .Gt) (gW λi j=>.bl (decide (j<i))):=NW.U6 Lg
def vL:NW X (compareOp .GtE) (gW λi j=>.bl (decide (j<=i))):=NW.U6 Lf
def Bd(n:Nat)(x:Int):Prop:=x.natAbs<2 ^ n
def Bd.mono{n:Nat}(h:Bd m x)(l:m<=n):Bd n x:=Of h (Vv (by decide) l)
def Bd.mul(h:Bd m x)(h':Bd n y):Bd (m+n) (x*y):=by unfold Bd at *;rw[VB,Nat.pow_add];exact Nat.mul_lt_mul'' h h'
def Bd.add(h:Bd m x)(h':Bd m y):Bd (m+1) (x+y):=by
 unfold Bd at *;rw[RO];have:=Int.natAbs_add_le x y
 lia
def Bd.sub(h:Bd m x)(h':Bd m y):Bd (m+1) (x - y):=by
 unfold Bd at *;rw[RO];have:=Int.natAbs_sub_le x y
 lia
def Bd.neg(h:Bd m x):Bd m (-x):=by unfold Bd at *;rw[Int.natAbs_neg];exact h
def Bd.bits(h:Bd n x):Builtin.Int.intBits x<=n:=by
 unfold Bd at h;unfold Builtin.Int.intBits;split
 ·exact N9 _
 ·rename_i d;have f:x.natAbs≠0:=by
   intro e;apply d;have:x=0:=Int.natAbs_eq_zero.mp e;simp[this]
  have:=(Nat.log2_lt f).mpr h
  lia
def CM(i j:Int):Prop:=Bd 64 i∨Bd 64 j∨(Bd 100000 i/\Bd 100000 j)
def CM.ok(h:CM i j):IntMulOk i j:=by
 rcases h with h|h|⟨h,d⟩
 ·exact .of_left h.bits
 ·exact .of_right h.bits
 ·exact .of_bits (Pa h.bits (by decide)) (Pa d.bits (by decide))
def HB:QP X (binaryOp .Mult) (rI CM λi j=>.int (i*j)):=opI λ_ _ _ _ _ _ _ d q=>mul_int q d.ok
def aD:NW X (binaryOp .Mult) (VN CM λi j=>.int (i*j)):=NW.ofI HB
def CD(_:Int)(j:Int):Prop:=j≠0/\Bd 8000 j
def CD.noPy(h:CD i j):Builtin.divisionGoesByPylong i j=false:=by
 refine PyProof.noPylong_of_log2 ?_;have d:j.natAbs≠0:=λe=>h.1 (Int.natAbs_eq_zero.mp e)
 have:=(Nat.log2_lt d).mpr h.2
 lia
def Fg:QP X (binaryOp .FloorDiv) (rI CD λi j=>.int (i.fdiv j)):=opI λ_ _ _ _ _ _ _ d q=>floordiv_int d.1 q (.inl d.noPy)
def dE:NW X (binaryOp .FloorDiv) (VN CD λi j=>.int (i.fdiv j)):=NW.ofI Fg
def bU:NW X (binaryOp .Mod) (VN (λ_ j=>j≠0) λi j=>.int (i.fmod j)):=NW.ofI HA
def kC:NW X (binaryOp .Pow) (VN As λi j=>.int (i ^ j.toNat)):=NW.ofI Kb
def dB(t:DE):DT:=λd Q=>t d λx=>∃k,x=.bl k/\Q k
def dm{d:CmpOp}{r:RD2}(o:NW X (compareOp d) r)(i:MI X a ta)(e:MI X b tb)(p:behindInMarks d b=false:=by first|exact xH _ (by decide) (by decide)|rfl):MI X (.Compare a [d] [b] pos) (XD r ta tb):=by intro d s g H W ρ Q I f h;refine wpAny_Compare1 (AQ i e I f h λh i j v u x y s r e k l n m q=>?_) p;exact Mw (o d j g s W x y v u h i Q r (f.same e).tracked k l n m q) λ_ _ z=>z.up e
def aC(J:NW X (compareOp op) r)(O:MI X a ta)(N:MI X b tb)(L:behindInMarks op b=false:=by first|exact xH _ (by decide) (by decide)|rfl):Rj X (.Compare a [op] [b] pos) (dB (XD r ta tb)):=by
 intro e s f H W l Q I g h;refine wpAny_isTrue_Compare1 (Mw (O e s f H W l _ I g h) λm p ⟨v,H1,x,I1,q,j,G,C⟩=>Mw (N e p f H1 W l _ I1 (g.same j) C) λn o ⟨u,H2,y,I2,t,i,E,B⟩=>
  Mw (J e o f H2 W x y v u m n _ I2 ((g.same j).same i).tracked q t (G.same i) E B) λc s3 ⟨z,H3,d,Y,w,U,M,k,T,A⟩=>?_) L
 subst T;have d:=M.VM;subst d;cases w;exact wpAny_truthy_bool ⟨H3,Y,j.trans (i.trans U),A⟩
def bF(h:MI X e t)(j:∀d,isTrue e X.env d=(do let v←d;standAt e.pos;holding [v] (truthy v)):=by intro _;rfl):Rj X e (dB t):=by intro d s e H W f Q I g i;refine isTrue_plain (Mw (h d s e H W f _ I g i) λvv s1 h=>?_) (j _);obtain⟨v,j,x,i,d,g,f,k,e,q⟩:=h;subst e;have e:=f.VM;subst e;cases d;exact wpAny_truthy_bool ⟨j,i,g,q⟩
variable{tA Yv:DT}{rest:yai}
def IY(t u:DT):DT:=λd Q=>t d λc=>if c=true then u d Q else Q false
def dOr(t u:DT):DT:=λd Q=>t d λc=>if c=true then Q true else u d Q
def Ja(t:DT):DT:=λd Q=>t d λc=>Q (!c)
def tR(i:Rj X a tA):PU X (.BoolOp .And [a] pos) tA:=by
 intro wh d s e H W f Q I g h;refine isTrue_and (Mw (i d s e H W f Q I g h) λc s1 e=>?_);cases c with
 |true=>exact isTrue_and_nil e
 |false=>exact e
def dA(i:Rj X a tA):PU X (.BoolOp .Or [a] pos) tA:=by
 intro wh d s e H W f Q I g h;refine isTrue_or (Mw (i d s e H W f Q I g h) λc s1 e=>?_);cases c with
 |false=>exact isTrue_or_nil e
 |true=>exact e
def w6(e:Rj X a tA)(n:PU X (.BoolOp .And (b::rest) pos) Yv):PU X (.BoolOp .And (a::b::rest) pos) (IY tA Yv):=by
 intro l d s f H W g Q I i h;refine isTrue_and (Mw (e d s f H W g _ I i h) λc m o=>?_);obtain⟨k,j,e,h⟩:=o;cases c with
 |true=>exact Mw (n l d m f k W g Q j (i.same e) h) λ_ _ g=>(by obtain⟨l,i,f,d⟩:=g;exact⟨l,i,e.trans f,d⟩)
 |false=>exact⟨k,j,e,h⟩
def bO(e:Rj X a tA)(n:PU X (.BoolOp .Or (b::rest) pos) Yv):PU X (.BoolOp .Or (a::b::rest) pos) (dOr tA Yv):=by
 intro l d s f H W g Q I i h;refine isTrue_or (Mw (e d s f H W g _ I i h) λc m o=>?_);obtain⟨k,j,e,h⟩:=o;cases c with
 |true=>exact⟨k,j,e,h⟩
 |false=>exact Mw (n l d m f k W g Q j (i.same e) h) λ_ _ g=>(by obtain⟨i,h,f,d⟩:=g;exact⟨i,h,e.trans f,d⟩)
def bL(i:Rj X a tA):Rj X (.UnaryOp .Not a pos) (Ja tA):=by intro d s e H W f Q I g h;exact isTrue_not (i d s e H W f (λc=>Q (!c)) I g h)
def FX(ta tb:DE):DE:=λd Q=>ta d λx=>∃c,x=.bl c/\if c=true then tb d Q else Q (.bl false)
def F6(ta:DE):DE:=λd Q=>ta d λx=>∃c,x=.bl c/\Q (.bl (!c))
def lT{op}(h:MI X a t):MI X (.BoolOp op [a] pos) t:=λd s e H W f Q I g i=>BoolOp_one (h d s e H W f Q I g i)
def gQ(e:MI X a ta)(p:MI X (.BoolOp .And (b::rest) pos) tb):MI X (.BoolOp .And (a::b::rest) pos) (FX ta tb):=by
 intro d s f H W g Q I i h;refine BoolOp_and (Mw (e d s f H W g _ I i h) λvv l q=>?_);obtain⟨v,k,x,j,m,e,o,c,n,h⟩:=q;subst n;have n:=o.VM;subst n;cases m;refine wpAny_truthy_bool ?_;cases c with
 |true=>exact Mw (p d l f k W g Q j (i.same e) h) λ_ _ z=>z.up e
 |false=>exact⟨.bl false,k,_,j,rfl,e,Den.bl _,h⟩
def Jo(i:MI X a ta):MI X (.UnaryOp .Not a pos) (F6 ta):=by intro d s e H W f Q I g h;refine UnaryOp_ (Mw (i d s e H W f _ I g h) λvv s1 i=>?_);obtain⟨v,k,x,j,d,h,g,c,f,e⟩:=i;subst f;have f:=g.VM;subst f;cases d;exact not_of (wpAny_truthy_bool ⟨.bl (!c),k,_,j,rfl,h,Den.bl _,e⟩)
def dIf(t:DT)(ta tb:DE):DE:=λd Q=>t d λc=>if c=true then ta d Q else tb d Q
def qC(d:Rj X c tA)(o:MI X a ta)(n:MI X b tb):MI X (.IfExp c a b pos) (dIf tA ta tb):=by
 intro e s g H W i Q I j h;refine wpAny_IfExp (Mw (d e s g H W i _ I j h) λd h p=>?_);obtain⟨m,l,f,k⟩:=p;cases d with
 |true=>exact Mw (o e h g m W i Q l (j.same f) k) λ_ _ z=>z.up f
 |false=>exact Mw (n e h g m W i Q l (j.same f) k) λ_ _ z=>z.up f
def ub:RD2:=λx y Q=>match x,y with
 |.tup e,.int i=>∃d,Nx e i=some d/\Q d
 |.lst _ e,.int i=>∃d,Nx e i=some d/\Q d
 |_,_=>False
def HN(h:ub x y Q):∃ds i d,(x=.tup ds∨∃ t,x=.lst t ds)/\y=.int i/\Nx ds i=some d/\Q d:=by
 unfold ub at h;split at h
 ·obtain⟨d,h⟩:=h;exact⟨_,_,d,.inl rfl,rfl,h⟩
 ·obtain⟨d,h⟩:=h;exact⟨_,_,d,.inr ⟨_,rfl⟩,rfl,h⟩
 ·exact h.elim
def wk{K:yac}{P:yak}{H:Hp}{ds:yas}{vs:yar}{i:Int}{d:D}(h:af K P H ds vs)(e:Nx ds i=some d):∃v,Nx vs i=some v/\Den K P H d v:=by
 unfold Nx at e ⊢;rw[h.len];cases q:ixN ds.length i with
 |none=>rw[q]at e;cases e
 |some j =>
  rw[q]at e;exact h.get e
def ai(f:MI X a ta)(e:MI X b tb)(hs:zc b:=by intro _ _;rfl):MI X (.Subscript a b pos) (XD ub ta tb):=by
 intro j s C H W ρ Q I d h;refine Subscript_ (AQ f e I d h λE G H v u x y h N e I J L f q=>?_)
 replace q:=HN q
 obtain⟨ds,i,d,m,g,M,q⟩:=q;subst g;have g:=f.M9;subst g;have l:∀(f:V),Den X.K W.bad h d f->av h h/\∃g,Den X.K W.bad h g f/\Q g:=λf k=>⟨av.refl _,d,k,q⟩
 rcases m with m|⟨tg,m⟩
 ·subst m;obtain⟨p,o,t,s,k⟩:=L.Oi;subst t;obtain⟨f,x,w⟩:=wk k M;exact Mw (CI a b j H C h _ _ E G (λf d=>av h d/\∃g,Den X.K W.bad d g f/\Q g) N I J ⟨p,o,i,f,rfl,rfl,s.w,x,l f w⟩ (hs _ _))
   λ_ O z=>(by obtain⟨n,B,A,q,u,g,y,r⟩:=z;exact⟨n,B,g,A,q,e.trans u,y,r⟩)
 ·subst m;obtain⟨p,o,t,_,s,k⟩:=L.OF;subst t;obtain⟨f,x,w⟩:=wk k M;exact Mw (zI a b j H C h _ _ E G (λf d=>av h d/\∃g,Den X.K W.bad d g f/\Q g) N I J ⟨p,o,i,f,rfl,rfl,s,x,l f w⟩ (hs _ _))
   λ_ O z=>(by obtain⟨n,B,A,q,u,g,y,r⟩:=z;exact⟨n,B,g,A,q,e.trans u,y,r⟩)
end
section
variable{X:Cx}{e:Expr}{es:yai}{te:DE}{t:DA}{pos:Pos}
def AV:DA:=λ_ Q=>Q []
def rK(c:DE)(b:DA):DA:=λa Q=>c a λx=>b a λa=>Q (x::a)
def ah:Rk X [] AV:=λ_ _ _ _ H W ρ Q I _ h=>Calls.spliced_nil ⟨[],H,[],I,.nil,av.refl H,af.nil,h⟩
def aa(f:MI X e te)(k:Rk X es t)(hs:starEach (e::es) X.env=(false,eval e X.env)::starEach es X.env:=by rfl):Rk X (e::es) (rK te t):=by intro pos a s b H W c Q I d h;rw[hs];show wpAny _ _ (spliced ((false,eval e X.env)::backTo pos (starEach es X.env))) _ _ s;refine Calls.spliced_cons (Mw (f a s b H W c _ I d h) λu g l=>?_);obtain⟨v,n,x,m,h,f,j,i⟩:=l;exact Mw (k pos a g b n W c _ m (d.same f) i) λus s2 k=>(by obtain⟨d,m,c,l,g,b,a,i⟩:=k;exact⟨v::d,m,x::c,l,.cons h g,f.trans b,af.cons (j.same b) a,i⟩)
theorem av.upd{H:Hp}(h:H p=none)(n:NT o:=by exact True.intro):av H (upd H p o):=⟨λb u e _=>by rw[aw (aY e h)];exact e,λb ps e=>⟨#[],by rw[aw (aY e h),e];simp⟩,fX.upd n (.inl h)⟩
def Ji(t:DA):DE:=λa Q=>t a λa=>a.length<=sizeLine/\Q (.tup a)
def Es(t:DA):DE:=λa Q=>t a λa=>a.length<=sizeLine/\Q (.lst true a)
def bJ{x1}(h:Rk X es t):MI X (.Tuple es x1 pos) (Ji t):=by intro a s b H W c Q I d f;refine wpAny_Tuple_spliced (Mw (h pos a s b H W c _ I d f) λh a c=>?_);obtain⟨g,f,ds,b,r,i,d,z,q⟩:=c;rw[<- d.len]at z;refine⟨by rw[<- r.length];exact z,?_⟩;have c:f a.heap.objs.size=none:=b.MF.fresh (MS _);refine⟨.ref a.heap.objs.size,L2.upd f a.heap.objs.size (.tup g),_,b.laid (t':=a.toks) (λb u e=>Nd _ e) (MS _) ⟨z,h,r,⟨_,OI _ rfl,rfl,_,rfl⟩⟩,rfl,i.trans (av.upd c),Den.tup (MW.of aI) (d.same (av.upd c)),q⟩
def Inv.NA(I:Inv X pins σ H s):X.K.lookup s.heap.objs.size=none:=by
 cases e:X.K.lookup s.heap.objs.size with
 |none=>rfl
 |some o=>exact absurd (MV (I.Rw _ _ e)) (Ru _)
def dO(h:Rk X es t):MI X (.List es pos) (Es t):=by
 intro a s b H W c Q I f d;refine wpAny_List_spliced (Mw (h pos a s b H W c _ I f d) λj a c=>?_);obtain⟨i,b,ds,d,r,h,g,z,q⟩:=c;rw[<- g.len]at z;refine⟨by rw[<- r.length];exact z,?_⟩;have c:b a.heap.objs.size=none:=d.MF.fresh (MS _);exact⟨.ref a.heap.objs.size,L2.upd b a.heap.objs.size (.lst i),_,d.laid (t':=a.toks) (λb u e=>Nd _ e) (MS _) ⟨z,j,0,r,OI _ rfl⟩,rfl,h.trans (av.upd c),
  Den.lst ((f.same h).fresh c) (.new aI (Inv.NA d)) (g.same (av.upd c)),q⟩
end
abbrev DSp:=yas->(D->Prop)->(Value->Prop)->Prop
def aN(K:yac)(sp:DSp):Sp:=λd H Q E=>∃(P:Addr->Prop) (b:yas) (c:D->Prop) (e:Value->Prop),iC K H/\(∀a,P a->∃o,H a=some o)/\af K (λt a=>t=true∨P a) H b d/\sp b c e ∧
 (∀d v b,av H b->Den K (λt a=>P a∨(t=true/\∃o,H a=some o)) b d v->c d->Q v b)/\∀c a b,av H b->e c->E c a b
mutual
def aJ:D->D
 |.tup a=>.tup (bf a)
 |.lst _ a=>.lst false (bf a)
 |.obj C b a=>.obj C b (bf a)
 |.QQ=>.QQ
 |.PN b a=>.PN b (bf a)
 |.MU=>.MU|.bl b=>.bl b|.int i=>.int i|.str x=>.str x|.exc c=>.exc c
def bf:yas->yas
 |[]=>[]
 |d::a=>aJ d::bf a
end
section
variable{K:yac}{P:yak}{P':Addr->Prop}{H:Hp}
mutual
theorem Den.aJ(h:∀t a,P' a->P t a):∀(d:D) (v:V),Den K P H d v->Den K (λt a=>t=true∨P' a) H (PD.aJ d) v
 |.MU,_,q=>by simpa only[Den,PD.aJ]using q
 |.bl _,_,q=>by simpa only[Den,PD.aJ]using q
 |.int _,_,q=>by simpa only[Den,PD.aJ]using q
 |.str _,_,q=>by simpa only[Den,PD.aJ]using q
 |.exc _,_,q=>by simpa only[Den,PD.aJ]using q
 |.tup f,_,q=>by simp only[Den,PD.aJ]at q ⊢;obtain⟨a,b,e,d,c⟩:=q;exact⟨a,b,e,d,af.aJ h f b c⟩
 |.obj C ns f,_,q=>by simp only[Den,PD.aJ]at q ⊢;obtain⟨a,g,b,e,d,l,k,c⟩:=q;exact⟨a,g,b,e,d,l,k,af.aJ h f b c⟩
 |.QQ,_,q=>by simpa only[Den,PD.aJ]using q
 |.PN ks f,_,q=>by simp only[Den,PD.aJ]at q ⊢;obtain⟨a,o,g,b,e,d,l,k,c⟩:=q;exact⟨a,o,g,b,e,d,l,k,af.aJ h f b c⟩
 |.lst t f,_,q=>by simp only[Den,PD.aJ]at q ⊢;obtain⟨a,b,e,p,d,c⟩:=q;exact⟨a,b,e,λz=>z.elim (λz=>by cases z) λz=>p (h t a z),.any d.1,af.aJ h f b c⟩
theorem af.aJ(h:∀t a,P' a->P t a):∀(ds:yas) (vs:yar),af K P H ds vs->af K (λt a=>t=true∨P' a) H (PD.bf ds) vs
 |[],_,q=>by simpa only[af,PD.bf]using q
 |d::ds,_,q=>by simp only[af,PD.bf]at q ⊢;obtain⟨v,r,e,b,a⟩:=q;exact⟨v,r,e,Den.aJ h d v b,af.aJ h ds r a⟩
end
end
def Den.back{K:yac}{W:Own}{H H':Hp}{d:D}{v:V}(b:∀t a,W.bad t a->∃o,H a=some o)(h:Den K (λt a=>W.bad false a∨(t=true/\∃o,H a=some o)) H' d v):Den K W.bad H' d v :=
 h.My λt a z=>by
  cases t with
  |false=>exact .inl z
  |true=>exact .inr ⟨rfl,b true a z⟩
section
variable{X:Cx}{CX:CXT}{k:Nat}{f:Addr}{fd:FuncData}{ps:yah}{sp:DSp}{x:Str}{p pos:Pos}{e:Expr}{es:yai}{t:DA}
def vH(sp:DSp)(dds:yas)(t:DA):DE:=λa Q=>t a λa=>sp (bf a++dds) Q λ_=>False
def EC:D->V
 |.MU=>.MU|.bl b=>.bl b|.int i=>.int i|.str x=>.str x|_=>.MU
def Bu:D->Prop
 |.tup _=>False|.lst _ _=>False|.exc _=>False|.obj _ _ _=>False|.QQ=>False|.PN _ _=>False|_=>True
theorem af.x9{K:yac}{P:yak}{H:Hp}:∀{dds:yas},(∀d∈dds,Bu d)->af K P H dds (dds.map EC)
 |[],_=>af.nil
 |d::r,h=>by
  refine af.cons ?_ (af.x9 λx a=>h x (Ni _ a));have:=h d OB;cases d with
  |MU=>exact Den.MU
  |bl b=>exact Den.bl b
  |int i=>exact Den.int i
  |str x=>exact Den.str x
  |tup _=>exact this.elim
  |lst _ _=>exact this.elim
  |exc _=>exact this.elim
  |obj _ _ _=>exact this.elim
  |QQ=>exact this.elim
  |PN _ _=>exact this.elim
def Lp{dds:yas}(F:aM X.prog X.w X.K X.mg X.base CX k f fd ps (aN X.K sp))(g:cF k X.A)(i:Binds X.K fd ps dsv)(h:Vals (dds.map EC) dsv)(hs:∀d∈dds,Bu d)(c:Passes CX X E0)
 (I:Inv X pins σ H s) (a:Rel X W H σ ρ) (r:Vals vs us) (j:af X.K W.bad H ds vs)
  (q:sp (bf ds++dds) Q λ_=>False):wpAny (model X.prog X.w) X.A (call (.ref f) us) (DP X pins σ W H Q) X.xe s:=by
 refine Mw (Ks (Q:=λv b=>av H b/\∃d,Den X.K W.bad b d v/\Q d) F g i h c I r ⟨W.bad false,bf ds++dds,Q,λ_=>False,a.tab,a.tracked false,(af.aJ (λ_ _=>Own.Q0) ds vs j).append (af.x9 hs),q,λd v b e c b=>⟨e,d,Den.back a.tracked c,b⟩,λ_ _ _ _ z=>z.elim⟩)
  λu s2 h=>(by obtain⟨v,j,i,a,g,d,c,b⟩:=h;exact⟨v,j,d,i,a,g,c,b⟩)
def Ew{dds:yas}(F:aM X.prog X.w X.K X.mg X.base CX k f fd ps (aN X.K sp))(i:cF k X.A)(m:Gl X x)(j:X.mg x=some (.ref f))(l:PySem.W.keepIn X.K (.ref f)=true)(u:Binds X.K fd ps dsv)(o:Vals (dds.map EC) dsv)(hs:∀d∈dds,Bu d)(g:Passes CX X E0)
  (q:Rk X (e::es) t) (r:(x==("__debug__" : Str))=false:=by decide) (n:starEach (e::es) X.env=(false,eval e X.env)::starEach es X.env:=by rfl) (w:(backTo pos (starEach es X.env)).any (·.1)=false:=by rfl) :
  MI X (.Call (.Name x p) (e::es) [] pos) (vH sp dds t):=by
 intro a s c H W d Q I b h;refine Vx (Hf I m j ?_ r);refine PySem.W.callWith_K (h₀:=X.base) I.ok.mod.Yt l (Mw (q pos a s c H W d _ I b h) λus s1 ⟨vs,H1,ds,c,r,a,d,q⟩=>⟨c.Rw,?_⟩) n w;exact Mw (Lp F i u o hs g c (b.same a) r d q) λ_ _ z=>z.up a
def dCB(r:yas->(D->Prop)->Prop)(t:DA):DE:=λa Q=>t a λa=>r a Q
def eB(X:Cx)(f:Value)(r:yas->(D->Prop)->Prop):Prop :=
 ∀ (b:yab) (s:Shared) (c:St) (H:Hp) (W:Own) (h:yas) (d:yar) (g:yad) (Q:D->Prop),Inv X b c H s->(∀t a,W.bad t a->∃o,H a=some o)->Vals d g->af X.K W.bad H h d->r h Q →
  wpAny (model X.prog X.w) X.A (call f g) (DP X b c W H Q) X.xe s
def eB.of{f:Value}{rd:yas->(D->Prop)->Prop}(h:mr X f r)(k:∀P H ds vs Q,(∀t a,P t a->∃o,H a=some o)->af X.K P H ds vs->rd ds Q->r vs H λb H'=>av H H'/\∃d',Den X.K P H' d' b/\Q d'):eB X f rd:=by intro a s c H W ds vs d Q I g r b q;exact Mw (h a s c H vs d _ I r (k _ H ds vs Q g b q)) λ_ s2 i=>(by obtain⟨a,l,j,c,h,d,b,g⟩:=i;exact⟨a,l,d,j,c,h,b,g⟩)
variable{id T:String}{r:yas->(D->Prop)->Prop}
def aF (m:eB X (.builtin id) r) (l:Gl X x) (j:X.mg x=none) (g:bootBuiltins x=some (.builtin id)) (n:Rk X (e::es) t) (i:x ≠ "__name__" := by decide) (o:(x==("__debug__" : Str))=false:=by decide)
  (u:starEach (e::es) X.env=(false,eval e X.env)::starEach es X.env:=by rfl) (w:(backTo pos (starEach es X.env)).any (·.1)=false:=by rfl) :
  MI X (.Call (.Name x p) (e::es) [] pos) (dCB r t):=by
 intro a s b H W d Q I c h;refine Vx (dD I l j g ?_ i o);exact PyProof.Rows.callWith_builtin1 (Mw (n pos a s b H W d _ I c h) λh i o=>(by obtain⟨g,y,n,s,j,d,l,q⟩:=o;exact Mw (m a i b y W n g h Q s (c.same d).tracked j l q) λ_ _ z=>z.up d)) u w
end
mutual
noncomputable def NX:D->PyData
 |.MU=>.none
 |.bl b=>.bool b
 |.int i=>.int i
 |.str x=>.str x
 |.tup a=>.tuple (cL a)
 |.lst _ a=>.list (cL a)
 |.exc _=>.none
 |.obj _ _ _=>.none
 |.PN _ _=>.none
 |.QQ=>.none
noncomputable def cL:yas->List PyData
 |[]=>[]
 |d::a=>NX d::cL a
end
mutual
def RB:D->Bool
 |.tup a=>oN a
 |.lst _ a=>oN a
 |.exc _=>false
 |.obj _ _ _=>false
 |.PN _ _=>false
 |.QQ=>false
 |_=>true
def oN:yas->Bool
 |[]=>true
 |d::a=>RB d && oN a
end
def eqD(x y:D):Bool:=PyData.eqv (NX x) (NX y)
def okD(x:D):Prop:=RB x=true/\SeqAt.shaped (NX x)=true
section
variable{X:Cx}{pins:yab}{σ:St}{H:Hp}{s:Shared}{P:yak}
mutual
theorem eR(I:Inv X pins σ H s):∀(d:D) (v:V) (u:Value),Den X.K P H d v->RelV v u->RB d=true->∃c,Reads s.heap u (NX d) c
 |.MU,_,_,h,r,_=>by have e:=h.U3;subst e;cases r;rw[NX];exact⟨_,.none⟩
 |.bl b,_,_,h,r,_=>by have e:=h.VM;subst e;cases r;rw[NX];exact⟨_,.bool b⟩
 |.int i,_,_,h,r,_=>by have e:=h.M9;subst e;obtain⟨t,rfl⟩:=r;rw[NX];exact⟨_,.int i t⟩
 |.str x,_,_,h,r,_=>by have e:=h.U4;subst e;obtain⟨t,rfl⟩:=r;rw[NX];exact⟨_,.str x t⟩
 |.tup m,_,_,h,r,b=>by rw[RB]at b;obtain⟨a,d,e,g,i⟩:=h.Oi;subst e;cases r;obtain⟨p,f,⟨o,l,k,n,j⟩,_⟩:=I.tuple g.w;obtain⟨c,q⟩:=mE I m d p i f b;rw[NX];exact⟨c,reads_tuple_at l k j (by simpa using q)⟩
 |.lst _ m,_,_,h,r,b=>by rw[RB]at b;obtain⟨a,d,e,_,g,i⟩:=h.OF;subst e;cases r;obtain⟨p,f,⟨o,n,l,k,_,j⟩,_⟩:=I.list g;obtain⟨c,q⟩:=mE I m d p i f b;rw[NX];exact⟨_,reads_list_at l k j (by simpa using q)⟩
 |.exc _,_,_,_,_,b=>by rw[RB]at b;cases b
 |.obj _ _ _,_,_,_,_,b=>by rw[RB]at b;cases b
 |.PN _ _,_,_,_,_,b=>by rw[RB]at b;cases b
 |.QQ,_,_,_,_,b=>by rw[RB]at b;cases b
theorem mE(I:Inv X pins σ H s):∀(ds:yas) (vs:yar) (a:yad),af X.K P H ds vs->Vals vs a->oN ds=true->∃b,ReadsAll s.heap a (cL ds) b
 |[],_,_,h,r,_=>by simp only[af]at h;subst h;cases r;rw[cL];exact⟨_,.nil⟩
 |d::ds,_,_,h,r,a=>by
  rw[oN,Ut]at a;simp only[af]at h;obtain⟨v,r',rfl,g,f⟩:=h;cases r with
  |cons e c =>
   obtain⟨b,q⟩:=eR I d v _ g e a.1;obtain⟨bs,b⟩:=mE I ds _ _ f c a.2;rw[cL];exact⟨_,.cons q b⟩
end
def Ko:RD2:=λx y Q=>okD x/\okD y/\Q (.bl (eqD x y))
def Kq:RD2:=λx y Q=>okD x/\okD y/\Q (.bl (!eqD x y))
def mP(j:X.A.units+64<cLine):NW X (compareOp .Eq) Ko:=by intro pins s σ H W x y v u c d Q I _ e f i h q;obtain⟨b,a,q⟩:=q;obtain⟨as,g⟩:=eR I x v c i e b.1;obtain⟨bs,c⟩:=eR I y u d h f a.1;exact eq_dataH g c b.2 a.2 j ⟨.bl _,H,_,I,rfl,av.refl H,Den.bl _,q⟩
def vN(j:X.A.units+64<cLine):NW X (compareOp .NotEq) Kq:=by intro pins s σ H W x y v u c d Q I _ e f i h q;obtain⟨b,a,q⟩:=q;obtain⟨as,g⟩:=eR I x v c i e b.1;obtain⟨bs,c⟩:=eR I y u d h f a.1;exact ne_dataH g c b.2 a.2 j ⟨.bl _,H,_,I,rfl,av.refl H,Den.bl _,q⟩
def cf:NW X (compareOp .Eq) (gW λi j=>.bl (decide (i=j))):=NW.of Le λP H x y v u Q d c z=>by obtain⟨i,j,f,e,q⟩:=pV z;subst f e;have a:=d.M9;have b:=c.M9;subst a b;refine⟨rfl,av.refl H,_,Den.bl _,?_⟩;rw[show decide (V.int i=V.int j)=decide (i=j)from by rw[pH];rfl];exact q
def fO:NW X (compareOp .NotEq) (gW λi j=>.bl (!decide (i=j))):=NW.of Lk λP H x y v u Q d c z=>by obtain⟨i,j,f,e,q⟩:=pV z;subst f e;have a:=d.M9;have b:=c.M9;subst a b;refine⟨rfl,av.refl H,_,Den.bl _,?_⟩;rw[show decide (V.int i=V.int j)=decide (i=j)from by rw[pH];rfl];exact q
def i6:D->Bool
 |.MU=>true
 |_=>false
def Ci{K:yac}{d:D}{v:V}(h:Den K P H d v):decide (v=.MU)=i6 d:=by
 cases d with
 |MU=>have:=h.U3;subst this;rfl
 |bl b=>have:=h.VM;subst this;rfl
 |int b=>have:=h.M9;subst this;rfl
 |str b=>have:=h.U4;subst this;rfl
 |tup d=>obtain⟨a,b,e,_⟩:=h.Oi;subst e;rfl
 |lst _ d=>obtain⟨a,b,e,_⟩:=h.OF;subst e;rfl
 |exc c=>obtain⟨a,e,_⟩:=h.Ww;subst e;rfl
 |obj C ns d=>obtain⟨a,dx,b,e,_⟩:=h.Wv;subst e;rfl
 |QQ=>obtain⟨a,e,_⟩:=h.YG;subst e;rfl
 |PN ks d=>obtain⟨a,_,_,b,e,_⟩:=h.U5;subst e;rfl
def zP:NW X (compareOp .IsNot) (λx y Q=>y=.MU/\Q (.bl (!i6 x))):=NW.of HC λP H x y v u Q b a ⟨e,q⟩=>by subst e;refine⟨a.U3,av.refl H,_,Den.bl _,?_⟩;rw[Ci b];exact q
end
section
variable{X:Cx}
def n9:eB X (.builtin "abs") (λds Q=>∃i:Int,ds=[.int i]/\Q (.int (i.natAbs:Int))):=eB.of El λP H ds a Q _ b ⟨i,e,q⟩=>by
 subst e;obtain⟨v,r,rfl,d,c⟩:∃v r,a=v::r/\Den X.K P H (.int i) v/\af X.K P H [] r:=by simpa only[af]using b
 have b:=d.M9;have a:r=[]:=by simpa only[af]using c
 subst b a;refine⟨i,rfl,av.refl H,_,Den.int _,?_⟩;have:(if i<0 then -i else i)=(i.natAbs:Int):=by split<;>omega
 rw[this];exact q
def pJ{K:yac}{P:yak}{H:Hp}{x y:D}{vs:yar}(h:af K P H [x,y] vs):∃v u,vs=[v,u]/\Den K P H x v/\Den K P H y u:=by simp only[af]at h;obtain⟨v,r,e,c,u,r',d,b,a⟩:=h;subst d a e;exact⟨v,u,rfl,c,b⟩
def pI{K:yac}{P:yak}{H:Hp}{x:D}{vs:yar}(h:af K P H [x] vs):∃v,vs=[v]/\Den K P H x v:=by simp only[af]at h;obtain⟨v,r,e,a,b⟩:=h;subst b e;exact⟨v,rfl,a⟩
def IS (b:X.calm=true):eB X (.builtin "min") (λds Q=>∃i j:Int,ds=[.int i,.int j]/\Q (.int (min i j))):=eB.of (B3 b) λP H ds vs Q _ a ⟨i,j,e,q⟩=>by
 subst e;obtain⟨v,u,rfl,d,c⟩:=pJ a;have g:=d.M9;have f:=c.M9;subst g f;refine⟨i,j,rfl,av.refl H,_,Den.int _,?_⟩;have:(if j<i then j else i)=min i j:=by split<;>lia
 rw[this];exact q
def IQ (b:X.calm=true):eB X (.builtin "max") (λds Q=>∃i j:Int,ds=[.int i,.int j]/\Q (.int (max i j))):=eB.of (B2 b) λP H ds vs Q _ a ⟨i,j,e,q⟩=>by
 subst e;obtain⟨v,u,rfl,d,c⟩:=pJ a;have g:=d.M9;have f:=c.M9;subst g f;refine⟨i,j,rfl,av.refl H,_,Den.int _,?_⟩;have:(if j > i then j else i)=max i j:=by split<;>lia
 rw[this];exact q
def aV:eB X (.builtin "len") (λds Q=>∃xs,((∃t,ds=[.lst t xs])∨ds=[.tup xs])/\Q (.int (xs.length:Int))):=eB.of wt λP H ds vs Q _ g ⟨xs,e,q⟩=>by
 rcases e with⟨tg,e⟩| e
 ·subst e;obtain⟨v,rfl,f⟩:=pI g;obtain⟨a,b,e,_,d,c⟩:=f.OF;subst e;refine⟨a,b,rfl,.inl d,av.refl H,_,Den.int _,?_⟩;rw[c.len];exact q
 ·subst e;obtain⟨v,rfl,f⟩:=pI g;obtain⟨a,b,e,d,c⟩:=f.Oi;subst e;refine⟨a,b,rfl,.inr d.w,av.refl H,_,Den.int _,?_⟩;rw[c.len];exact q
noncomputable def S7:D->String
 |.MU => "NoneType" | .bl _ => "bool" | .int _ => "int" | .str _ => "str" | .tup _ => "tuple" | .lst _ _ => "list" | .exc _ => "object" | .obj _ _ _ => "object" | .QQ => "dict" | .PN _ _ => "dict"
def Ws:D->Value
 |.exc c=>.ref c
 |.obj C _ _=>.ref C
 |d=>.type (S7 d)
variable{e:Expr}{te:DE}{p p' pos:Pos}{T:String}{x:Str}
def G8(x:bN P w H h a (.ins C dx fs)):∃b,PySem.W.InstAt h a (PySem.W.instObj C dx) C (some b):=by obtain⟨d,z,c,a,mA,n,r,q⟩:=x;obtain⟨b,d,_⟩:=D9.look ⟨a,n,c⟩;exact⟨b,d⟩
def ER{Q:yaa}{b:Bool}(I:Inv X pins σ H s)(h:Den X.K P H d v)(r:RelV v u)
  (e:PySem.W.kitOne X.K (Ws d) c=some b) (q:∀a,Q (.bool b) {s with toks:=a}):wpAny (model X.prog X.w) A (call (.builtin "isinstance") [u,c]) Q E s:=by
 cases d with
 |MU=>have z:=h.U3;subst z;cases r;exact PySem.W.kia_one PySem.W.kitx_none I.Rw True.intro e (λz=>nomatch z) q
 |bl y=>have z:=h.VM;subst z;cases r;exact PySem.W.kia_one PySem.W.kitx_bool I.Rw True.intro e (λz=>nomatch z) q
 |int i=>have z:=h.M9;subst z;obtain⟨t,rfl⟩:=r;exact PySem.W.kia_one PySem.W.kitx_int I.Rw True.intro e (λz=>nomatch z) q
 |str y=>have z:=h.U4;subst z;obtain⟨t,rfl⟩:=r;exact PySem.W.kia_one PySem.W.kitx_str I.Rw True.intro e (λz=>nomatch z) q
 |tup g =>
  obtain⟨a,c,z,b,_⟩:=h.Oi;subst z;cases r;obtain⟨k,i,⟨o,f,d,n,j⟩,_⟩:=I.tuple b.w;exact PySem.W.kia_one PySem.W.kitx_tuple I.Rw ⟨o,f,d⟩ e (λz=>nomatch z) q
 |lst _ g =>
  obtain⟨a,c,z,_,b,_⟩:=h.OF;subst z;cases r;obtain⟨k,i,⟨o,n,f,d,_,j⟩,_⟩:=I.list b;exact PySem.W.kia_one PySem.W.kitx_list I.Rw ⟨o,f,d⟩ e (λz=>nomatch z) q
 |exc c' =>
  obtain⟨a,z,b,k⟩:=h.Ww;subst z;cases r;exact PySem.W.kia_one (EU k) I.Rw (I.MF a _ b).1 e (λz=>nomatch z) q
 |obj C ns g =>
  obtain⟨a,dx,c,z,b,_,k,_⟩:=h.Wv;subst z;cases r;obtain⟨od,d⟩:=G8 (I.MF a _ b);exact PySem.W.kia_one (PySem.W.kitx_own k.pg k.hd k.at_ k.get k.takes k.obj) I.Rw d e (λz=>nomatch z) q
 |QQ =>
  obtain⟨a,z,b⟩:=h.YG;subst z;cases r;exact PySem.W.kia_one PySem.W.kitx_dict I.Rw (I.MF a _ b).1 e (λz=>nomatch z) q
 |PN ks g =>
  obtain⟨a,o,kws,c,z,b,_⟩:=h.U5;subst z;cases r;obtain⟨_,_,_,_,_,c,_,_,f,d,_⟩:=I.MF a _ b;exact PySem.W.kia_one PySem.W.kitx_dict I.Rw ⟨c,f,d.1⟩ e (λz=>nomatch z) q
def yI(K:yac)(S T:String):PySem.W.kitOne K (.type S) (.type T)=if S=T then some true else if PySem.W.kitMeta T=true then(fastBuiltinMro S).map (·.contains (.type T))else none:=by
 unfold PySem.W.kitOne PySem.W.kitCls PySem.W.subIn;by_cases h:S=T
 ·subst h;simp
 ·have:(Value.type S==Value.type T)=false:=by
   rw[beq_eq_false_iff_ne];intro e;injection e with e;exact h e
  rw[this,Mj QB,Mj h]
def TV (T:String) (d:D):Bool:=S7 d==T || (S7 d == "bool" && T == "int")
def kit_ans (K:yac) (d:D) (b:∀c,d=.exc c->k8 K c) (g:∀C ns ds,d=.obj C ns ds->AG K C) (a:T = "int" ∨ T = "bool" ∨ T = "tuple" ∨ T = "list" ∨ T = "str"):PySem.W.kitOne K (Ws d) (.type T)=some (TV T d):=by
 by_cases f:∃c,d=.exc c
 ·obtain⟨c,rfl⟩:=f;show PySem.W.kitOne K (.ref c) (.type T)=_;rw[(b c rfl).not T a];show _=some ("object" == T || ("object" == "bool" && T == "int"));rcases a with e|e|e|e|e<;>subst e<;>decide +kernel
 by_cases b:∃C ns ds,d=.obj C ns ds
 ·obtain⟨C,ns,ds,rfl⟩:=b;show PySem.W.kitOne K (.ref C) (.type T)=_;rw[(g C ns ds rfl).not T a];show _=some ("object" == T || ("object" == "bool" && T == "int"));rcases a with e|e|e|e|e<;>subst e<;>decide +kernel
 have c:Ws d=.type (S7 d):=by cases d<;>first|rfl|exact absurd ⟨_,rfl⟩ f|exact absurd ⟨_,_,_,rfl⟩ b
 rw[c,yI];unfold TV;have c:S7 d = "NoneType" ∨ S7 d = "bool" ∨ S7 d = "int" ∨ S7 d = "str" ∨ S7 d = "tuple" ∨ S7 d = "list" ∨ S7 d = "dict" := by cases d<;>first|exact absurd ⟨_,rfl⟩ f|exact absurd ⟨_,_,_,rfl⟩ b|simp[S7]
 generalize S7 d=S at c ⊢;rcases a with e|e|e|e|e<;>subst e<;>rcases c with e|e|e|e|e|e|e<;>subst e<;>decide +kernel
def dIs(T:String)(te:DE):DE:=λa Q=>te a λd=>Q (.bl (TV T d))
def cG (o:Gl X "isinstance") (n:X.mg "isinstance" = none) (g:Gl X x) (f:X.mg x=none) (l:bootBuiltins x=some (.type T)) (r:T = "int" ∨ T = "bool" ∨ T = "tuple" ∨ T = "list" ∨ T = "str") (q:MI X e te)
  (m:x ≠ "__name__" := by decide) (u:(x==("__debug__" : Str))=false:=by decide)
  (j:starEach [e,.Name x p'] X.env=(false,eval e X.env)::starEach [.Name x p'] X.env:=by rfl) (t:starEach [.Name x p'] X.env=(false,eval (.Name x p') X.env)::starEach [] X.env:=by rfl) (c:(backTo pos (starEach [.Name x p'] X.env)).any (·.1)=false:=by rfl) :
  MI X (.Call (.Name "isinstance" p) [e,.Name x p'] [] pos) (dIs T te):=by
 intro b s i H W k Q I a h;have d:PA X [e,.Name x p'] (BC (Gg X te) (BC (tC (.ty T)) KH)):=j9 q.pe (j9 (HE g f l rfl m u) oM t) j;refine Vx (dD I o n boot_isinstance ?_ (by decide) (by decide));refine PyProof.Rows.callWith_builtin1 (Mw (d pos b s i H (λi f=>∃v d,i=[v,.ty T]/\av H f/\Den X.K W.bad f d v/\Q (.bl (TV T d))) I ⟨W,k,_,a,h,λv f d h b g=>⟨v,d,rfl,h,b,g⟩⟩) λus s1 k=>?_) j c;obtain⟨i,f,i,c,v,d,j,h,b,g⟩:=k;subst j;cases c with
 |cons j a =>
  cases a with
  |cons c a =>
   cases a;cases(show _=Value.type T from c);exact ER i b j (kit_ans X.K d (λc z=>by subst z;exact b.Ww.choose_spec.2.2) (λC ns ds z=>by subst z;obtain⟨_,_,_,_,_,_,k,_⟩:=b.Wv;exact k) r) λa=>⟨.bl _,f,_,i.tok a,rfl,h,Den.bl _,g⟩
end
section
variable{X:Cx}{pos:Pos}
def SG.up(g:ML W0 H0 W H)(h:SG X pins W H E f s'):SG X pins W0 H0 E f s':=by obtain⟨b,c,d,I,a,q⟩:=h;exact⟨b,c,d,I,g.trans a,q⟩
variable{st:Stmt}{rest:yal}{t u:DS}{e:Expr}{te:DE}
def F5:DS:=λE a=>E.nx a
def Et(t u:DS):DS:=λE a=>t {E with nx:=u E} a
def aG:cP X [] F5:=λ_ _ a H W b E I r h=>wpAny_execs_nil ⟨W,a,H,I,ML.refl W H,b,r,h⟩
def aj(d:OJ X st t)(j:cP X rest u):cP X (st::rest) (Et t u):=by
 intro a s b H W c E I r h;refine Xp (Mw (d a s b H W c {E with nx:=u E} I r h) λf i k=>?_);obtain⟨c,d,h,g,b,q⟩:=k;cases f with
 |next =>
  obtain⟨k,f,q⟩:=q;exact Mw (j a i d h c k E g f q) λ_ _ z=>z.up b
 |ret v=>exact⟨c,d,h,g,b,q⟩
 |brk=>exact⟨c,d,h,g,b,q⟩
 |cont=>exact⟨c,d,h,g,b,q⟩
def ao(d:OJ X st t):cP X [st] t:=by
 intro a s b H W c E I r h;refine Xp (Mw (d a s b H W c E I r h) λf s1 q=>?_);cases f with
 |next=>exact wpAny_execs_nil q
 |ret v=>exact q
 |brk=>exact q
 |cont=>exact q
def Jd(te:DE):DS:=λE a=>te a E.rt
def ay(d:MI X e te):OJ X (.Return (some e) pos) (Jd te):=by intro a s b H W c E I r h;exact wpAny_Return_some (Mw (d a s b H W c _ I r h) λu s1 h=>(by obtain⟨v,j,d,i,a,g,f,c⟩:=h;exact⟨W,b,j,i,ML.same g,v,d,a,f,c⟩))
def IZ(c:DT)(t u:DS):DS:=λE a=>c a λb=>if b=true then t E a else u E a
def aP(d:Rj X c tc)(l:cP X a t)(k:cP X b u):OJ X (.If c a b pos) (IZ tc t u):=by
 intro a s c H W f E I r h;refine wpAny_If (Mw (d a s c H W f _ I r h) λd g m=>?_);obtain⟨j,i,b,h⟩:=m;cases d with
 |true=>exact Mw (l a g c j W f E i (r.same b) h) λ_ _ z=>z.up (ML.same b)
 |false=>exact Mw (k a g c j W f E i (r.same b) h) λ_ _ z=>z.up (ML.same b)
def Rel.put{X:Cx}{i:Nat}(r:Rel X W H σ ρ)(f:i<σ.length)(c:Den X.K W.bad H d v):Rel X (W.drop i) H (σ.set i (some v)) (ρ.set i (some (.val d))) where
 val:=λj x h=>by
  by_cases b:j=i
  ·subst b;refine⟨v,by simp[f],?_⟩;by_cases a:j<ρ.length
   ·rw[O9 a]at h;cases h;exact c.My λ_ _=>Own.Na
   ·rw[Sr (by simpa using a)]at h;cases h
  ·rw[Ov (Ne.symm b)]at h;obtain⟨w,c,d⟩:=r.val j x h;exact⟨w,by rw[Ov (Ne.symm b)];exact c,d.My λ_ _=>Own.Na⟩
 own:=λj x h=>by
  by_cases b:j=i
  ·subst b;by_cases a:j<ρ.length
   ·rw[O9 a]at h;cases h
   ·rw[Sr (by simpa using a)]at h;cases h
  ·rw[Ov (Ne.symm b)]at h;obtain⟨a,g,c,d,l,k⟩:=r.own j x h;exact⟨a,g,by show(if j=i then none else W.O j)=_;rw[Mj b];exact c,by rw[Ov (Ne.symm b)];exact d,l,by rw[Su];exact k.My (λ_ _=>Own.Na) (Own.Qh f)⟩
 inj:=λj k a c d=>by
  have b:(if j=i then none else W.O j)=some a:=c;have f:(if k=i then none else W.O k)=some a:=d;by_cases d:j=i
  ·rw[Ml d]at b;cases b
  ·by_cases g:k=i
   ·rw[Ml g]at f;cases f
   ·rw[Mj d]at b;rw[Mj g]at f;exact r.inj j k a b f
 kn:=λj a c=>by
  have b:(if j=i then none else W.O j)=some a:=c;by_cases d:j=i
  ·rw[Ml d]at b;cases b
  ·rw[Mj d]at b;exact r.kn j a b
 ke:=λj a c=>by
  have b:(if j=i then none else W.O j)=some a:=c;by_cases d:j=i
  ·rw[Ml d]at b;cases b
  ·rw[Mj d]at b;exact r.ke j a b
 bt:=r.bt
 st:=r.st
 ent:=r.ent
 tab:=r.tab
theorem ML.drop(W:Own)(H:Hp)(i:Nat):ML W H (W.drop i) H:=⟨rfl,rfl,λ_ _ _ h _=>h,λj a h=>by
 have b:(if j=i then none else W.O j)=some a:=h;by_cases a:j=i
 ·rw[Ml a]at b;cases b
 ·rw[Mj a]at b;exact .inl ⟨j,b⟩,λ_ ps h=>⟨#[],by rw[h];simp⟩,id⟩
def Inv.S8{i:Nat}{x:Str}(I:Inv X pins σ H s)(a:X.N[i]?=some x):i<σ.length:=by rw[I.len];exact(Nk.mp a).1
def AY(i:Nat)(te:DE):DS:=λE a=>te a λd=>E.nx (a.set i (some (.val d)))
def aE{x:Str}(i:Nat)(l:X.N.Nodup)(f:MI X e te)(b:X.N[i]?=some x:=by rfl)(j:Loc X.env.scope x:=by first|exact Or.inl rfl|exact Or.inr rfl)(hs:swapsWith e (some (.Name x pos')) pos.line X.env=pure false:=by rfl)
  (k:X.fn x=true∨X.env.scope.names.lookup x=some .local:=by first|exact .inl rfl|exact .inr rfl|assumption):OJ X (.Assign [.Name x pos'] e pos) (AY i te):=by
 intro a s c H W d E I r h;refine wpAny_Assign_Name (Mw (f a s c H W d _ I r h) λu s1 m=>?_) hs;obtain⟨v,f,d,c,d,a,h,g⟩:=m;exact fe c l b j d (λs2 d=>⟨W.drop i,_,f,d,(ML.same a).trans (ML.drop W f i),_,(r.same a).put (Inv.S8 c b) h,g⟩) k
def OJ.of{t:DS}(h:PS X st ts)(k:∀f H W ρ E,Rel X W H f ρ->f.length=X.N.length->t E ρ->ts ⟨(λc H'=>∃a b,ML W H a H'/\Rel X a H' c b/\E.nx b),(λv H'=>∃a d,ML W H a H'/\Den X.K a.bad H' d v/\E.rt d),
   (λc H'=>∃a b,ML W H a H'/\Rel X a H' c b/\E.bk b),(λc H'=>∃a b,ML W H a H'/\Rel X a H' c b/\E.ct b)⟩ f H):OJ X st t:=by
 intro g s f H W ρ E I r i;refine Mw (h g s f H _ I (k f H W ρ E r I.len i)) λf s1 q=>?_
 cases f with
 |next=>obtain⟨c,H',g,a,b,f,h,q⟩:=q;exact⟨a,c,H',g,f,b,h,q⟩
 |brk=>obtain⟨c,H',g,a,b,f,h,q⟩:=q;exact⟨a,c,H',g,f,b,h,q⟩
 |cont=>obtain⟨c,H',g,a,b,f,h,q⟩:=q;exact⟨a,c,H',g,f,b,h,q⟩
 |ret u=>obtain⟨v,c,H',g,b,a,d,f,h,q⟩:=q;exact⟨a,c,H',g,f,v,d,b,h,q⟩
def Jl(c:DT)(d:DS):DS:=λE a=>∃W:Nat->Ro->Prop,(∃m,W m a)/\∀m a,W m a->c a λb=>if b=true then d {E with nx:=λc=>∃b,b<m/\W b c,ct:=λc=>∃b,b<m/\W b c,bk:=E.nx} a else E.nx a
def mF(i:PassesOwn (model X.prog X.w) X.A X.env X.xe)(p:Rj X c tc)(y:cP X body tb):OJ X (.While c body [] pos) (Jl tc tb):=by
 intro a s j H W k E I r h;obtain⟨o,⟨m,l⟩,b⟩:=h;refine wpAny_While (codeAny_whileLoop (λn h=>∃d g c f,Inv X a g c h/\ML W H d c/\Rel X d c g f/\o n f) ?_ m ⟨W,j,H,k,I,ML.refl W H,r,l⟩);rintro n d ⟨g,r,k,j,h,f,o,c⟩;refine Wg i (Mw (p a d r k g j _ h o (b n j c)) λb h c=>?_);obtain⟨x,w,q,d⟩:=c;have c:=f.trans (ML.same (W:=g) q);cases b with
 |true =>
  rw[Ml rfl]at d;rw[Ml rfl];refine Wg i (Mw (y a h r x g j _ w (o.same q) d) λf s3 a=>?_);obtain⟨b,i,l,k,h,a⟩:=a;cases f with
  |next =>
   obtain⟨s,m,n,p,f⟩:=a;exact⟨n,p,b,i,l,s,k,c.trans h,m,f⟩
  |cont =>
   obtain⟨s,m,n,p,f⟩:=a;exact⟨n,p,b,i,l,s,k,c.trans h,m,f⟩
  |brk=>exact⟨b,i,l,k,c.trans h,a⟩
  |ret v=>exact⟨b,i,l,k,c.trans h,a⟩
 |false =>
  rw[Mj QB]at d;rw[Mj QB];exact wpAny_execs_nil ⟨g,r,x,w,c,j,o.same q,d⟩
def JH{X:Cx}(r:Rel X W H σ ρ)(f:ML W H W' H')(a:Addr)(o:HO)(n:Tt o)(q:H a=some o):H' a=some o :=
 f.kp a _ (λi z=>by obtain⟨_,_,o',b,m⟩:=r.kn i a z;rw[q]at b;cases b;exact m.sol n) q n.nt
def JG{X:Cx}(r:Rel X W H σ ρ)(f:ML W H W' H')(a:Addr)(vs:yar)(q:MW X.K H a vs):MW X.K H' a vs:=by
 exact f.keep a _ (λi e=>by obtain⟨_,_,o',c,m⟩:=r.kn i a e;have b:H a=some (.tup vs):=q;rw[c]at b;cases b;exact m) q
def JF{X:Cx}(d:Rel X W' H' MH Mr)(f:ML W H W' H')(t:Bool)(a:Addr)(vs:yar)(p:¬W.bad t a)(q:Oh X.K H t a vs):¬W'.bad t a/\Oh X.K H' t a vs:=by
 have c:∀i,W.O i≠some a:=λi e=>p (.inr (.inl ⟨i,e⟩))
 refine⟨λb=>?_,?_,λz=>⟨f.keep a _ c (q.2 z).1,(q.2 z).2⟩⟩
 ·rcases b with b|⟨i,b⟩| ⟨e,b⟩
  ·rw[f.B]at b;exact p (.inl b)
  ·rcases f.new i a b with⟨j,z⟩| z
   ·exact c j z
   ·rcases q.1 with(q|⟨o,q⟩)|⟨o,Mp,n,q,_⟩
    ·rw[z]at q;cases q
    ·rw[z]at q;cases q
    ·rw[(d.kn i a b).1]at q;cases q
  ·rw[f.S]at b;exact p (.inr (.inr ⟨e,b⟩))
 ·rcases q.1 with(q|⟨o,q⟩)|q
  ·exact .inl (.inl (f.keep a _ c q))
  ·exact .inl (.inr ⟨o,f.keep a _ c q⟩)
  ·exact .inr q
def Den.fwd{X:Cx}(r:Rel X W H σ ρ)(a:Rel X W' H' MH Mr)(f:ML W H W' H')(h:Den X.K W.bad H d v):Den X.K W'.bad H' d v :=
 Den.map (JG r f) (JF a f) (JH r f) d v h
abbrev DG:=D->Ro->(Ro->Prop)->Prop
def UA(X:Cx)(a:Expr)(g:DG):Prop :=
 ∀ (b:yab) (s:Shared) (c:St) (H:Hp) (W:Own) (f:Ro) (d:D) (v:V) (u:Value) (Q:Ro->Prop),Inv X b c H s->Rel X W H c f->RelV v u->Den X.K W.bad H d v->g d f Q →
  wpAny (model X.prog X.w) X.A (assign a X.env u) (λ_ g=>∃c f a d,Inv X b f a g/\ML W H c a/\Rel X c a f d/\Q d) X.xe s
abbrev UB:=yas->Ro->(Ro->Prop)->Prop
def tN(X:Cx)(ts:yai)(t:UB):Prop :=
 ∀ (a:yab) (s:Shared) (b:St) (H:Hp) (W:Own) (c:Ro) (g:yas) (d:yar) (f:yad) (Q:Ro->Prop),Inv X a b H s->Rel X W H b c->Vals d f->af X.K W.bad H g d->t g c Q →
  wpAny (model X.prog X.w) X.A (assignInOrder ((assignEach ts X.env).map (·.2)) f) (λ_ g=>∃c f b d,Inv X a f b g/\ML W H c b/\Rel X c b f d/\Q d) X.xe s
theorem af.fwd{X:Cx}(r:Rel X W H σ ρ)(a:Rel X W' H' MH Mr)(f:ML W H W' H'):∀{ds:yas} {vs:yar},af X.K W.bad H ds vs->af X.K W'.bad H' ds vs
 |[],_,h=>by simpa only[af]using h
 |d::ds,_,h=>by simp only[af]at h ⊢;obtain⟨v,q,e,c,b⟩:=h;exact⟨v,q,e,Den.fwd r a f c,af.fwd r a f b⟩
def kx(i:Nat):DG:=λd a Q=>Q (a.set i (some (.val d)))
def aS{x:Str}(i:Nat)(g:X.N.Nodup)(a:X.N[i]?=some x:=by rfl)(c:Loc X.env.scope x:=by first|exact Or.inl rfl|exact Or.inr rfl)
  (f:X.fn x=true∨X.env.scope.names.lookup x=some .local:=by first|exact .inl rfl|exact .inr rfl|assumption):UA X (.Name x pos) (kx i):=by
 intro pins s σ H W ρ d v u Q I r b d h;exact Yg (fe I g a c b (λs' b=>⟨W.drop i,_,H,_,b,ML.drop W H i,r.put (Inv.S8 I a) d,h⟩) f)
def rV:UB:=λb a Q=>b=[]/\Q a
def lX(g:DG)(u:UB):UB:=λb a Q=>∃d r,b=d::r/\g d a λa=>u r a Q
def iJ:tN X [] rV:=by intro pins s b H W c ds vs us Q I r d a h;obtain⟨e,h⟩:=h;subst e;simp only[af]at a;subst a;cases d;exact assignInOrder_nil ⟨W,b,H,c,I,ML.refl W H,r,h⟩
def cC{e:Expr}{u:UB}(l:UA X e g)(k:tN X es u)(hs:(assignEach (e::es) X.env).map (·.2)=assign e X.env::(assignEach es X.env).map (·.2):=by rfl):tN X (e::es) (lX g u):=by
 intro a s f H W g ds vs us Q I r j c h;obtain⟨d,n,b,h⟩:=h;subst b;simp only[af]at c;obtain⟨v,i,m,o,b⟩:=c;subst m;cases j with
 |cons c j =>
  rw[hs];refine assignInOrder_cons (Mw (l a s f H W g d v _ _ I r c o h) λ_ f o=>?_);obtain⟨l,h,q,m,p,d,c,g⟩:=o;exact Mw (k a f h q l m n i _ Q p c j (af.fwd r c d b) g) λ_ s2 i=>(by obtain⟨f,g,k,h,j,c,a,b⟩:=i;exact⟨f,g,k,h,j,d.trans c,a,b⟩)
def xu{h:Heap}(b:h.IsList l items)(hs:Heap.SameBut it h h')(c:l≠it):h'.IsList l items:=by obtain⟨o,a,r⟩:=b;exact⟨o,(hs.2 l c).trans a,r⟩
theorem uR{b l:Addr}(g:l≠b):∀(n i:Nat) (s:Shared) (Q:yad->Shared->Prop),s.heap.IsListIter b l i->s.heap.IsList l items->i+n<=items.size →
  (∀h',h'.IsListIter b l (i+n)->Heap.SameBut b s.heap h'->Q ((items.toList.drop i).take n) {s with heap:=h'})->wpAny (model prog w) A (draw (.ref b) n) Q E s
 |0,i,s,Q,a,_,_,c=>by show wpAny _ _ (pure []) Q E s;exact Mt (by simpa using c s.heap a (Heap.SameBut.refl ..))
 |n+1,i,s,Q,a,d,hle,c=>by
  have f:i<items.size:=by omega
  show wpAny _ _ (pyNext (.ref b) >>= _) Q E s;refine Mh (wpAny_pyNext_list_item a d (x:=items[i]) (by simp[f]) λNv b a=>?_);refine Mh (Qv (uR g n (i+1) _ _ b (xu d a g) (by omega) λh g d=>Mt ?_));have b:items.toList.drop i=items[i]::items.toList.drop (i+1):=by simp[UK,f]
  have:=c h (by rw[show i+(n+1)=i+1+n by omega];exact g) (a.trans d);rw[b,List.take_succ_cons]at this;exact this
def ro{A:Around}{s:Shared}{Q:yad->Shared->Prop}(f:A.handled=none)(b:s.heap.IsList l items)
  (g:∀h',Heap.ExtBut s.heap.objs.size s.heap h'->Q items.toList {s with heap:=h'}):wpAny (model prog w) A (unpackItems (.ref l) items.size none) Q E s:=by
 have d:l≠s.heap.objs.size:=by obtain⟨o,c,_⟩:=b;exact NG (MV c)
 unfold unpackItems;refine Mh ?_
 ·unfold notIterableAtAll;refine Mh (Xv b.typeIs F.slot_list_iter.lookup ?_);refine Mt ?_;simp only[Pf,if_false];refine Mh (Qv (wpAny_pyIter_list b ?_));have a:(s.heap.push {cls:=.type "list_iterator", data:=.fields #[.ref l,rawInt 0]}).IsList l items:=by
   obtain⟨o,c,r⟩:=b;exact⟨o,Nd _ c,r⟩
  refine Mh (Qv (uR d items.size 0 _ _ ⟨_,OI _ rfl,rfl,rfl⟩ a (by lia) λi h c=>?_));have b:List.take items.size (List.drop 0 items.toList)=items.toList:=by rw[List.drop_zero];exact UN (by simp)
  rw[b];rw[Mj (by simp)];have b:i.IsList l items:=xu a c d;refine Mh (Qv (wpAny_pyNext_list_end f h b (by simp) λa d=>?_));simp only[Option.isSome_none,Pf,if_false];refine Mt (g a λb o a e=>d b o a (c.extBut b o a (Nd _ e)))
def rW(n:Nat)(t:UB):DG:=λd b Q=>∃a,(d=.tup a∨∃ t,d=.lst t a)/\a.length=n/\t a b Q
def je{t:UB}{n:Nat}(C:X.calm=true)(h:tN X es t)(z:(assignEach es X.env).length=n:=by rfl)(G:(assignEach es X.env).findIdx? (·.1)=none:=by rfl):UA X (.Tuple es k pos) (rW n t):=by
 intro c s i H W x d v u Q I r y B j;obtain⟨E,d,A,j⟩:=j;rcases d with d|⟨tg,d⟩
 ·subst d;obtain⟨a,k,q,n,g⟩:=B.Oi;subst q;cases y;obtain⟨J,f,m,L⟩:=I.tuple n.w;refine assign_Tuple_tuple (I.ok.hd C) m (by simp[z,<- A,<- f.length,g.len]) G λp l=>?_
  have w:Inv X c i H {s with heap:=p}:=I.kept (t':=s.toks) λb o e=>l b o (NG (MV e)) e
  exact h c _ i H W x E k _ Q w r (by simpa using f) g j
 ·subst d;obtain⟨a,k,q,_,n,g⟩:=B.OF;subst q;cases y;obtain⟨J,f,m,L⟩:=I.list n;rw[assign_Tuple];refine Mh (Wi ?_);unfold unpack;rw[G,show(assignEach es X.env).length=J.toArray.size by simp[z,<- A,<- f.length,g.len]];refine Mh (Qv (ro (I.ok.hd C) m.isList λp l=>?_));have w:Inv X c i H {s with heap:=p}:=I.kept (t':=s.toks) λb o e=>l b o (NG (MV e)) e
  exact h c _ i H W x E k _ Q w r (by simpa using f) g j
def YD(K:yac)(W:Own)(H:Hp)(J:It)(ds:yas):Prop:=∀(f:yak) (b:Hp),(∀a c,MW K H a c->MW K b a c)->(∀t a c,¬W.bad t a->Oh K H t a c->¬f t a/\Oh K b t a c)->(∀a o,Tt o->H a=some o->b a=some o)->∀i,(i<ds.length->J.go i b)/\(∀x a,J.yld i b x a->i<ds.length->av b a/\∃d,ds[i]?=some d/\Den K f a d x)/\(ds.length<=i->J.stop i b)
def QR(X:Cx)(i b:Expr)(wi:DA):Prop :=
 ∀ (a:yab) (s:Shared) (d:St) (H:Hp) (W:Own) (c:Ro) (R:yas->Prop),Inv X a d H s->Rel X W H d c->wi c R →
  wpAny (model X.prog X.w) X.A (eval b X.env) (λv j=>wpAny (model X.prog X.w) X.A (pyIter v) (λk b=>∃(f:Addr) (g:yae) (tn:Nat->Heap->Prop) (J:It) (c:Hp) (h:yas),k=.ref f/\Inv X a d c b/\av H c ∧
   Turn X.prog X.w X.K i J g f tn/\tn 0 b.heap/\(∀b∈g,dY X a c b)/\YD X.K W c J h/\R h) X.xe j) X.xe s
def QR.of{b:DA}(h:PI X tg iter wi)(k:∀a H W ρ R,Rel X W H a ρ->b ρ R->wi a H λJ H'=>av H H'/\∃ds,YD X.K W H' J ds/\R ds):QR X tg iter b:=by
 intro b s a H W ρ R I r c;refine Mw (h b s a H _ I (k a H W ρ R r c)) λv s1 a=>Mw a λRz s2 b=>?_
 obtain⟨a,c,tn,J,H',e,g,T,st,d,f,ds,y,q⟩:=b;exact⟨a,c,tn,J,H',ds,e,g,f,T,st,d,y,q⟩
def F3(b:DE):DA:=λa R=>b a λd=>∃t a,d=.lst t a/\R a
def bq(h:MI X iter ti):QR X tg iter (F3 ti):=by
 refine QR.of (HG h.pe) λσ H W a R r b=>⟨W,a,_,r,b,λv H1 d h c q=>?_⟩
 obtain⟨tg',j,rfl,q⟩:=q;obtain⟨a,b,rfl,k,g,f⟩:=c.OT;refine⟨a,rfl,⟨b,g.1⟩,h,j,?_,q⟩;intro P' n m h l i;have c:SqL X.K n a b:=(h _ a b k g).2.1;have hl:=f.len;refine⟨λa=>?_,λx H3 y a=>?_,λa=>⟨b,c,by lia⟩⟩
 ·obtain⟨v,g,_⟩:=f.get (i:=i) (d:=j[i]) (by simp[a]);exact⟨b,v,c,g⟩
 ·obtain⟨a,y⟩:=y;subst a;obtain⟨d,g,a⟩:=f.bA (y b c);exact⟨av.refl _,d,g,Den.map m h l d _ a⟩
noncomputable def jE(lo step:Int)(n:Nat):yas:=(List.range n).map λ(i:Nat)=>D.int (lo+i*step)
def Fx(lo step:Int)(n:Nat):(jE lo step n).length=n:=by simp[jE]
def Fw{lo step:Int}{n i:Nat}(h:i<n):(jE lo step n)[i]?=some (D.int (lo+i*step)):=by simp[jE,h]
def IG(lo c:Int)(n:Nat):It:=⟨λi _=>i<n,λi H x a=>a=H/\x=.int (lo+i*c),λi _=>n<=i⟩
def FQ(K:yac)(W:Own)(H:Hp)(lo c:Int)(n:Nat):YD K W H (IG lo c n) (jE lo c n):=λP' H' _ _ _ i=>by rw[Fx];refine⟨λh=>h,λx H3 y a=>?_,λh=>h⟩;obtain⟨e,b⟩:=y;subst e b;exact⟨av.refl _,_,Fw a,Den.int _⟩
def y6{P:Program}{w:World}{K:yac}{a:Expr}(d:Addr)(lo c:Int)(n:Nat):Turn P w K a (IG lo c n) [d] d (λi h=>IsRangeIter h d (lo+(i:Nat)*c) ((n:Int) - (i:Nat)) c) where
 mem:=by simp
 obj:=λi h st b f=>by
  have e:b=d:=by simpa using f
  subst e;exact⟨_,st,λv z=>by have a:Data.fields _=Data.cell v:=z;cases a⟩
 keep:=λi h j st k=>k d (by simp) _ st
 item:=by
  intro X p k q m i a s B H E I g st l;subst p k q;obtain⟨A,z,J,y,x,r⟩:=g d (by simp);have W:=Walks.range (prog:=X.prog) (w:=X.w) (I.ok.hd m) d lo c n;refine W.item i s _ _ l st λv j w o C G=>?_
  obtain⟨t,rfl⟩:=o;have L:Inv X a B H {s with heap:=j,toks:=w}:=I.turned (λb o f e=>G b o (by simpa using f) e) A z y x r;exact⟨_,rfl,A6 (s:={s with heap:=j,toks:=w}) (n := "range_iterator") C rfl rfl (by decide) ⟨.int (lo+i*c),H,L,⟨t,rfl⟩,⟨rfl,rfl⟩,C,λb f=>(g b f).1⟩⟩
 done:=by intro X p k q m i a s B H E I g st l;subst p k q;obtain⟨A,z,J,y,x,r⟩:=g d (by simp);exact wpAny_pyNext_range_end (I.ok.hd m) st (by have:n<=i:=l;lia) λj a=>⟨rfl,I.turned (t':=s.toks) (λb o f e=>a b o f e) A z y x r⟩
 self:=λ_ _ _ _ _ st h=>wpAny_pyIter_rangeiter st h
def kE(lo a c:Int):Nat:=(Builtin.Range.rangeSize lo a c).toNat
def Dw{a b c:Int}(ha:-(2 ^ 40)<=a)(Va:a<2 ^ 40)(hb:-(2 ^ 40)<=b)(Vb:b<2 ^ 40)(d:0<c)(Ry:c<2 ^ 20):Builtin.Range.small a b c=true/\0<=Builtin.Range.rangeSize a b c:=by
 have i:a<b->0<=(b - a - 1) / c/\(b - a - 1) / c<=b - a - 1:=λh=>⟨Int.ediv_nonneg (by lia) (by lia),Int.ediv_le_self _ (by lia)⟩
 have g:a<b->(b - a - 1) / c*c<=b - a - 1:=λh=>Int.ediv_mul_le _ (by lia)
 unfold Builtin.Range.small Builtin.Range.rangeSize;rw[Ml (show c > 0 from d)];by_cases h:a<b
 ·obtain⟨f,j⟩:=i h;have i:=g h;rw[Ml h];generalize (b - a - 1) / c=q at f j i ⊢;have h4:0<=q*c:=OA f (by lia);simp only[Builtin.Range.rangeFitsLong,Ut,Bool.or_eq_true,decide_eq_true_eq,beq_iff_eq];have e:(q+1 - 1)*c=q*c:=by rw[Int.add_sub_cancel]
  have e':(q+1)*c=q*c+c:=by rw[Int.add_mul,QN]
  constructor
  ·rw[Ml (show c > 0 from d)];simp only[Ut,decide_eq_true_eq]
   lia
  ·lia
 ·rw[Mj h];simp only[Builtin.Range.rangeFitsLong,Ut,Bool.or_eq_true,decide_eq_true_eq,beq_iff_eq];constructor
  ·simp;lia
  ·exact PR _
def ve{R:yas->Prop}{lo a c:Int}{t u:Tok}{d:Nat}(I:Inv X pins σ H s)(n:-(2 ^ 40)<=lo)(m:lo<2 ^ 40)(l:-(2 ^ 40)<=a)(k:a<2 ^ 40)(j:0<c)(i:c<2 ^ 20)
  (q:R (jE lo c (kE lo a c))):wpAny (model X.prog X.w) X.A (pyIter (.ref s.heap.objs.size)) (λo f=>∃(g:Addr) (h:yae) (tn:Nat->Heap->Prop) (J:It) (H':Hp) (ds:yas),o=.ref g/\Inv X pins σ H' f/\av H H' ∧
   Turn X.prog X.w X.K tg J h g tn/\tn 0 f.heap/\(∀b∈h,dY X pins H' b)/\YD X.K W H' J ds/\R ds) E {s with heap:=s.heap.push {cls:=.type "range", data:=.fields #[.int lo t,.int a u,.int c v]},toks:=d}:=by
 obtain⟨f,nn⟩:=Dw n m l k j i;refine wpAny_pyIter_range (IsRange.new ..) f ?_;have f:Inv X pins σ H {s with heap:=s.heap.push {cls:=.type "range", data:=.fields #[.int lo t,.int a u,.int c v]},toks:=d}:=I.kept λb o e=>Nd _ e
 refine⟨(s.heap.push {cls:=.type "range", data:=.fields #[.int lo t,.int a u,.int c v]}).objs.size,[(s.heap.push {cls:=.type "range", data:=.fields #[.int lo t,.int a u,.int c v]}).objs.size],_,_,H,_,rfl,
  f.kept (t':=d) λb o e=>Nd _ e,av.refl H,y6 _ lo c (kE lo a c),?_,λb d=>?_,FQ _ _ _ _ _ _,q⟩
 ·have h:lo+((0:Nat):Int)*c=lo:=by simp
  have g:((kE lo a c:Nat):Int) - ((0:Nat):Int)=Builtin.Range.rangeSize lo a c:=by unfold kE;lia
  show IsRangeIter _ _ (lo+((0:Nat):Int)*c) (((kE lo a c:Nat):Int) - ((0:Nat):Int)) c;rw[h,g];exact OI _ rfl
 ·have e:b=(s.heap.push {cls:=.type "range", data:=.fields #[.int lo t,.int a u,.int c v]}).objs.size:=by simpa using d
  subst e;exact f.TQ (MS _) (f.MF.fresh (MS _))
def CR3(i:Int):Prop:=-(2 ^ 40)<=i/\i<2 ^ 40
def AX(b:DA):DA:=λa R=>b a λa=>∃i j:Int,a=[.int i,.int j]/\CR3 i/\CR3 j/\R (jE i 1 (kE i j 1))
def F8(b:DA):DA:=λa R=>b a λa=>∃j:Int,a=[.int j]/\CR3 j/\R (jE 0 1 (kE 0 j 1))
def uX {a b:Expr} {p pos:Pos} (M:Gl X "range") (L:X.mg "range" = none) (O:Rk X [a,b] ta) (hs:starEach [a,b] X.env=(false,eval a X.env)::starEach [b] X.env:=by rfl) (TY:(backTo pos (starEach [b] X.env)).any (·.1)=false:=by rfl) :
  QR X tg (.Call (.Name "range" p) [a,b] [] pos) (AX ta):=by
 intro c s g H W k R I r h;refine Call_ (dD I M L boot_range (PyProof.Rows.callWith_type1 (Mw (O pos c s g H W k _ I r h) λus s1 Mx=>?_) hs TY));obtain⟨vs,H1,f,I1,C,T,N,E⟩:=Mx;obtain⟨i,j,e,⟨a1,a2⟩,⟨b1,b2⟩,q⟩:=E;subst e;obtain⟨v1,u1,rfl,Y,U⟩:=pJ N;have j:=Y.M9;have i:=U.M9;subst j i;cases C with
 |cons B d =>
  cases d with
  |cons A d =>
   cases d;obtain⟨t,rfl⟩:=B;obtain⟨t',rfl⟩:=A;refine call_range_2 ?_;exact Mw (ve (W:=W) (R:=R) I1 a1 a2 b1 b2 (by decide) (by decide) q) λRz s2 MX=>(by obtain⟨G,Q,tn,J,H',f,z,y,x,w,o,n,m,l⟩:=MX;exact⟨G,Q,tn,J,H',f,z,y,T.trans x,w,o,n,m,l⟩)
def cn {a:Expr} {p pos:Pos} (f:Gl X "range") (d:X.mg "range" = none) (g:Rk X [a] ta) (hs:starEach [a] X.env=(false,eval a X.env)::starEach [] X.env:=by rfl) (i:(backTo pos (starEach [] X.env)).any (·.1)=false:=by rfl) :
  QR X tg (.Call (.Name "range" p) [a] [] pos) (F8 ta):=by
 intro a s b H W c R I r h;refine Call_ (dD I f d boot_range (PyProof.Rows.callWith_type1 (Mw (g pos a s b H W c _ I r h) λus s1 f=>?_) hs i));obtain⟨vs,H1,a,i,c,m,d,b⟩:=f;obtain⟨j,e,⟨h,g⟩,q⟩:=b;subst e;obtain⟨v1,rfl,f⟩:=pI d;have b:=f.M9;subst b;cases c with
 |cons c b =>
  cases b;obtain⟨t,rfl⟩:=c;refine call_range_1 ?_;exact Mw (ve (W:=W) (R:=R) i (by decide) (by decide) h g (by decide) (by decide) q) λRz s2 n=>(by obtain⟨k,l,tn,J,o,a,j,i,h,g,f,d,c,b⟩:=n;exact⟨k,l,tn,J,o,a,j,i,m.trans h,g,f,d,c,b⟩)
def AU(wi:DA)(g:DG)(c:DS):DS:=λE a=>wi a λb=>∃Pv:Nat->Ro->Prop,Pv 0 a ∧
 (∀j x a,b[j]?=some x->Pv j a->g x a λd=>c {E with nx:=Pv (j+1),ct:=Pv (j+1),bk:=E.nx} d)/\∀a,Pv b.length a->E.nx a
def bK(q:PassesOwn (model X.prog X.w) X.A X.env X.xe)(hc:X.calm=true)(b:QR X tg iter wi)(Y:UA X tg g)(j:cP X body tb)
  (hs:∀x,foldedSetIterable iter X.env x=pure x:=by intro _;rfl):OJ X (.For tg iter body [] pos) (AU wi g tb):=by
 intro a s g H W k E I r h;refine wpAny_For (Mw (b a s g H W k _ I r h) λv s1 b=>Mw b λRz s2 b=>?_) hs;obtain⟨it,B,tn,J,A,h,e,C,M,T,w,m,p,Pv,s,f,pd⟩:=b;subst e;have d:=r.same M;have O:∀{c:Hp},(∀b∈B,c b=none)->∀b∈B,dY X a c b:=λi b j=>⟨i b j,(m b j).2⟩
 refine codeAny_forLoop_any (λn l=>∃i o z c y,n=h.length - i/\i<=h.length/\Inv X a z c l/\tn i l.heap/\(∀b∈B,c b=none)/\ML W A o c/\Rel X o c z y/\Pv i y) ?_ h.length ⟨0,W,g,A,k,by simp,N9 _,C,w,λb j=>(m b j).1,ML.refl W A,d,s⟩;rintro n s3 ⟨i,Q,E,I,G,en,hle,I3,YO,YQ,s,J,p3⟩;obtain⟨g,k,ys⟩:=p Q.bad I (JG d s) (JF J s) (JH d s) i;by_cases U:i<h.length
 ·refine Wg q (Mw (T.item X rfl rfl rfl hc i a s3 E I X.xe I3 (O YQ) YO (g U)) λrr s4 ⟨u,L,d⟩=>?_);subst L;refine Wg q (Mw d λ_ r w=>?_);obtain⟨x,l,I5,C,p,N,g⟩:=w;obtain⟨m,d,hd,Oa⟩:=k x l p U;have k:=I5.pinned (O g) (T.obj _ _ N);have g:=J.same m;refine Wg q (Mw (Y _ r E l Q G d x u _ k g C Oa (f i d G hd p3)) λ_ f w=>?_);obtain⟨r,p,C,l,x,f6,g,k⟩:=w;refine Wg q (Mw (j _ f p C r l _ x g k) λf Y g=>?_);obtain⟨l,C,p,x,k,g⟩:=g;have r:ML W A l p:=s.trans ((ML.same m).trans (f6.trans k));have YT:ML W H l p:=(ML.same M).trans r;have again:∀{k:Ro},Rel X l p C k->Pv (i+1) k->∃m,m<n/\∃i o z c y,m=h.length - i/\i<=h.length/\Inv X a z c Y/\tn i Y.heap/\(∀b∈B,c b=none)/\ML W A o c/\Rel X o c z y/\Pv i y:=fun {k} c m=>by
   refine⟨h.length - (i+1),by lia,i+1,l,C,p,k,rfl,U,x.OE,T.keep _ _ _ N λb j o e=>(x.pin (b,o) (P4 _ (P4 _ (jT j e)))).1,λb j=>?_,r,c,m⟩;obtain⟨o,e,d⟩:=T.obj _ _ N b j;exact(x.pin (b,o) (P4 _ (P4 _ (jT j e)))).2.1
  cases f with
  |next=>obtain⟨k,c,b⟩:=g;exact again c b
  |cont=>obtain⟨k,c,b⟩:=g;exact again c b
  |brk=>obtain⟨k,c,g⟩:=g;exact⟨l,C,p,x.OE,YT,k,c,g⟩
  |ret v=>obtain⟨b,f,c,d,g⟩:=g;exact⟨l,C,p,x.OE,YT,b,f,c,d,g⟩
 ·have e:i=h.length:=by lia
  refine Wg q (Mw (T.done X rfl rfl rfl hc i a s3 E I X.xe I3 (O YQ) YO (ys (by lia))) λrr s4 w=>?_);obtain⟨L,a⟩:=w;subst L;subst e;exact wpAny_execs_nil ⟨Q,E,I,a,(ML.same M).trans s,G,J,pd G p3⟩
def Jc(i j:Nat)(b:DA):DS:=λE a=>b a λb=>∃d e,b=[d,e]/\E.nx ((a.set i (some (.val d))).set j (some (.val e)))
def Js{x y:Str}{a b:Expr}{kt k2 Wo}(i j:Nat)(B:X.calm=true)(C:X.N.Nodup)(E:i≠j)(p:Rk X [a,b] ta)(o:X.N[i]?=some x:=by rfl)(n:X.N[j]?=some y:=by rfl)
  (z:X.env.scope.names.lookup x=some .local:=by rfl) (w:X.env.scope.names.lookup y=some .local:=by rfl)
  (A:swappedStores [.Tuple [.Name x px,.Name y py] kt pt] (.Tuple [a,b] k2 Wo) X.env=pure (some [x,y]):=by rfl)
  (hs:swapsWithSole [.Tuple [.Name x px,.Name y py] kt pt] (.Tuple [a,b] k2 Wo) pos.line X.env=pure false:=by rfl) :
  OJ X (.Assign [.Tuple [.Name x px,.Name y py] kt pt] (.Tuple [a,b] k2 Wo) pos) (Jc i j ta):=by
 have l:PA X [a,b] (λb H Q=>∃W c h,Rel X W H b c/\ta c h/\∀d a g,av H a->af X.K W.bad a g d->h g->Q d a):=by intro pos f s b H Q I q;obtain⟨W,c,h,r,m,k⟩:=q;exact Mw (p pos f s b H W c h I r m) λus s1 s=>(by obtain⟨d,a,g,x,h,f,m,p⟩:=s;exact⟨d,a,x,h,k d a g f m p⟩)
 refine OJ.of (Km B C o n E z w l A hs) λb H W c E r k h=>?_
 refine⟨W,c,_,r,h,λd a g f m q=>?_⟩;obtain⟨d,e,rfl,q⟩:=q;obtain⟨v,u,rfl,g,d⟩:=pJ m;have h:i<b.length:=by rw[k];exact(Nk.mp o).1
 have c:j<(b.set i (some v)).length:=by rw[Su,k];exact(Nk.mp n).1
 have b:=(r.same f).put h g;exact⟨v,u,rfl,_,_,(ML.same f).trans ((ML.drop W a i).trans (ML.drop _ a j)),b.put c (d.My λ_ _=>Own.Na),q⟩
end
def c8(N:yah)(ds:yas):Ro:=ds.map (λd=>some (.val d))++List.replicate (N.length - ds.length) none
theorem Rel.start{X:Cx}{P:Addr->Prop}{H:Hp}(k:∀a,P a->∃o,H a=some o)(h:af X.K (λt a=>t=true∨P a) H ds vs)(l:X.MR=H)(g:iC X.K H):Rel X ⟨P,λ_=>none,λa=>∃o,H a=some o⟩ H (start N vs) (c8 N ds) where
 val:=λi d e=>by
  unfold c8 at e;have f:=h.len;by_cases b:i<ds.length
  ·rw[RK (by simpa using b),Nj]at e;cases q:ds[i]? with
   |none=>rw[q]at e;cases e
   |some c =>
    rw[q]at e;have j:c=d:=by simpa using e
    subst j;obtain⟨v,m,j⟩:=h.get q;refine⟨v,?_,j.My λtg a z=>?_⟩
    ·unfold L2.start;rw[RK (by simpa [f]using b),Nj,m];rfl
    ·rcases z with z|⟨j,z⟩| ⟨z,_⟩
     ·exact .inr z
     ·cases z
     ·exact .inl z
  ·rw[RI (by simpa using b),Xe]at e;split at e<;>cases e
 own:=λi d e=>by
  unfold c8 at e;by_cases b:i<ds.length
  ·rw[RK (by simpa using b),Nj]at e;cases q:ds[i]? with
   |none=>rw[q]at e;cases e
   |some c=>rw[q]at e;cases e
  ·rw[RI (by simpa using b),Xe]at e;split at e<;>cases e
 inj:=λi j a h _=>by cases h
 kn:=λi a h=>by cases h
 ke:=λi a h=>by cases h
 bt:=k
 st:=λ_ z=>z
 ent:=by rw[l];exact av.refl H
 tab:=g
def bN.there(x:bN P w H h a o):∃u,h.get? a=some u:=by
 cases o with
 |lst a=>obtain⟨_,_,_,_,e⟩:=x;exact⟨_,e⟩
 |tup a=>obtain⟨_,_,_,a,e,_⟩:=x;exact⟨a,e⟩
 |dK b=>obtain⟨_,_,_,_,a,_,_,e,_⟩:=x;exact⟨a,e⟩
 |dT b=>obtain⟨_,_,_,_,a,_,_,e,_⟩:=x;exact⟨a,e⟩
 |set S n=>obtain⟨a,_,_,_,e,_⟩:=x;exact⟨a,e⟩
 |ins C dx b=>obtain⟨_,_,_,e,_⟩:=x;exact⟨_,e⟩
 |own y=>exact x
 |xd b=>obtain⟨_,⟨a,_,_,e,_⟩,_⟩:=x;exact⟨a,e⟩
 |rng lo hi=>obtain⟨_,_,_,e⟩:=x;exact⟨_,e⟩
 |frz a u=>obtain⟨e,_⟩:=x;exact⟨a,e⟩
 |Rh ps=>exact⟨_,x⟩
 |met f y=>exact⟨_,x⟩
 |ext φ=>obtain⟨_,e,_⟩:=x;exact e
def Ox.YU {h' : Heap} (x : Ox P w H h) (k : ∀ b u, (∃ o, H b = some o) -> h.get? b = some u -> h'.get? b = some u) : Ox P w H h' := λa o e =>
 (x a o e).Qf (λb u a q => k b u (by
  rcases a with z | z
  ·subst z; exact ⟨o, e⟩
  ·exact ⟨_, z⟩) q) (λ_ q => q) λ_ _ q => q
structure Fl(P:Program)(w:World)(l:List Env)(h₀:Heap)(MR H:Hp)(B h:Heap):Prop where
 un:Un (Qw l) [] MR H h₀ h
 MF:Ox P w H h
 fr:∀b∈Qw l,MR b=none/\∃o,h₀.get? b=some o/\∀vs,o.data ≠ .fields vs
 XF:∀b o,h.get? b=some o->((∃u,H b=some u)∨∃ o',h₀.get? b=some o')->b∉Qw l->B.get? b=some o
section
variable{P:Program}{w:World}{l:List Env}{h₀:Heap}{MR H:Hp}{B h h':Heap}
theorem Fl.free(F:Fl P w l h₀ MR H B h){b:Addr}(a:b∈Qw l):H b=none:=by obtain⟨n,o,e,_⟩:=F.fr b a;exact F.un.free b o e n (by simp)
def Fl.step(F:Fl P w l h₀ MR H B h)(st:B.StaysIn h')(i:h.UpToSlots h'):Fl P w l h₀ MR H B h':=by
 have g:∀b o,b∈Qw l->h₀.get? b=some o->∃a,h'.get? b=some {o with slots:=a}:=λb o a e=>by obtain⟨n,d,c,j⟩:=F.fr b a;rw[e]at c;cases c;obtain⟨s1,f⟩:=F.un.slot b o e n a (by simp);obtain⟨m,k⟩:=i b _ f j;exact⟨m,k⟩
 have i:∀b o,h.get? b=some o->((∃u,H b=some u)∨∃ d,h₀.get? b=some d)->b∉Qw l->h'.get? b=some o:=λb o e c n=>st b o (F.XF b o e c n)
 refine⟨⟨λb o e n a j=>i b o (F.un.keep b o e n a j) (.inr ⟨o,e⟩) a,λb o e n a j=>g b o a e,F.un.free,λb o e j=>?_,F.un.QY,F.un.QC,F.un.QZ⟩,PD.Ox.YU F.MF (λb u p e=>i b u e (.inl p) λz=>?_),F.fr,λb o e c n=>?_⟩
 ·by_cases a:b∈Qw l
  ·obtain⟨m,k⟩:=g b o a e;exact⟨_,k⟩
  ·obtain⟨d,f⟩:=F.un.there b o e j;exact⟨d,i b d f (.inr ⟨o,e⟩) a⟩
 ·obtain⟨o,q⟩:=p;rw[F.free z]at q;cases q
 ·have:∃a,h.get? b=some a:=by
   rcases c with⟨u,c⟩| ⟨d,c⟩
   ·exact PD.bN.there (F.MF b u c)
   ·exact F.un.there b d c (by simp)
  obtain⟨a,f⟩:=this;have q:=i b a f c n;rw[e]at q;cases q;exact F.XF b o f c n
end
def CX1(P:Program)(w:World):CXT:=λa H s E e b=>∃(d c:Addr) (f:Hp) (B:Heap) (g:Value),e=.ref d/\b.os=s.os/\AllBare b.gens/\Fl P w a s.heap H f B b.heap/\av H f/\f d=none/\s.heap.get? d=none ∧
 Heap.FlyingW B a d (.ref c) g b.heap/\E (.ref c) none f
def Ll:Passes (CX1 P w) X E0:=λ_ _ _ _ _ _ _ h=>by obtain⟨_,_,_,_,_,_,_,_,_,_,_,_,_,z⟩:=h;exact z.elim
def MadeX(X:Cx)(Ed:Value->Prop):Prop:=∀(a:yab) (b:St) (H:Hp) (W:Own) (f:Ro) (s:Shared) (e c:Addr) (g:yad) (d:Heap),Inv X a b H s->Rel X W H b f->Heap.MadeExcOf s.heap d e (.ref c) g->Ed (.ref c)->X.xe (.ref e) {s with heap:=d}
def cR(X:Cx)(Ed:Value->Prop):Prop:=∀(a:yab) (b:St) (H:Hp) (W:Own) (c:Ro) (s:Shared) (e:Value) (d:Shared),Inv X a b H s->Rel X W H b c->CX1 X.prog X.w X.stack H s (λc _ _=>Ed c) e d->X.xe e d
section
variable{P:Program}{w:World}{K:yac}{mg:yam}{base:Heap}{N:yah}{qual:Str}{sc:Scope}{f:Addr}{cd:Value}{A:Around}{outer:List Env}{ME:Shared}{MR:Hp}{E:XK}
def wz{B:Heap}(I:Inv (dI (CX1 P w) P w K mg base N qual sc f cd A outer ME MR E) pins σ H s)(k:av MR H)(j:H e=none)(m:ME.heap.get? e=none)
  (p:∀b o,s.heap.get? b=some o->((∃u,H b=some u)∨∃ a,ME.heap.get? b=some a)->b∉Qw (envOfC qual sc ME.heap.objs.size f cd::outer)->B.get? b=some o)
  (g:Heap.FlyingW B outer e (.ref c) a0 h') (h:s.heap.UpToSlots h') (l:E (.ref c) none H):CX1 P w outer MR ME E (.ref e) {s with heap:=h'}:=by
 have i:∀b,((∃u,H b=some u)∨∃ a,ME.heap.get? b=some a)->b∉Qw outer->b∉Qw (envOfC qual sc ME.heap.objs.size f cd::outer):=λb c n z=>by
  rcases c with⟨u,c⟩| ⟨a,c⟩
  ·have:=I.P7 b z;rw[c]at this;cases this
  ·rcases MD.mp (I.Pq b z)with q|q
   ·have d:=MV c;have a:ME.heap.objs.size<=b:=by rw[q];exact I.ok.above
    exact absurd (Of d a) (Ru _)
   ·exact n q
 have F:Fl P w outer ME.heap MR H B s.heap:=⟨I.base,I.MF,λb a=>⟨I.ok.Wl b a,by obtain⟨_,o,e,d⟩:=I.ok.PT.mem a;exact⟨o,e,d⟩⟩,λb o e c n=>p b o e c (i b c n)⟩
 exact⟨e,c,H,B,a0,rfl,I.os,I.bare,F.step g.1 h,k,j,m,g,l⟩
def Ld{Ed:Value->Prop}(l:∀c a H',av MR H'->Ed c->E c a H'):MadeX (dI (CX1 P w) P w K mg base N qual sc f cd A outer ME MR E) Ed:=by
 intro pins σ H W ρ s e c vs h' I r a j;show wpAny (model P w) (A.deeper (envOfC qual sc ME.heap.objs.size f cd)) (leaving (envOfC qual sc ME.heap.objs.size f cd) (.ref e)) _ _ _;refine wpAny_leaves_madeW (base:=PySem.W.hideAll s.heap (Qw (envOfC qual sc ME.heap.objs.size f cd::outer))) (h:=s.heap) (outer:=outer) I.ok.frames rfl (λb o q=>PySem.W.of_hideAll _ q)
  (PySem.W.funFrames_hide I.stack λc d b g=>Ye.mpr ⟨c,d,g⟩) a λm t h _ _ g=>?_
 have i:∀{c:Heap},(∀b o,c.get? b=some o->∃d,s.heap.get? b=some d)->c.get? e=none:=fun {c} k=>by
  cases q:c.get? e with
  |none=>rfl
  |some o =>
   obtain⟨d,c⟩:=k e o q;rw[a.new]at c;cases c
 refine wz (s:=s) (h':=m) I r.ent ?_ (i λb o q=>I.base.there b o q (by intro z;cases z)) (λb o q _ n=>PySem.W.hideAll_get _ q n) h (λb o q d=>?_) (l _ _ _ r.ent j)
 ·cases q:H e with
  |none=>rfl
  |some u =>
   obtain⟨o,z⟩:=PD.bN.there (I.MF e u q);rw[a.new]at z;cases z
 ·exact g b o (a.keeps b o q) d
def HD{Ed:Value->Prop}(k:∀c a H',av MR H'->Ed c->E c a H'):cR (dI (CX1 P w) P w K mg base N qual sc f cd A outer ME MR E) Ed:=by
 intro pins σ H W ρ s e h I r b;obtain⟨d,c,H',B,a0,rfl,os,a,F,c,i,l,e,j⟩:=b;show wpAny (model P w) (A.deeper (envOfC qual sc ME.heap.objs.size f cd)) (leaving (envOfC qual sc ME.heap.objs.size f cd) (.ref d)) _ _ _;refine wpAny_leaves_onW (outer:=outer) I.ok.frames rfl e λm g e=>?_
 have n:=I.TP os F.un F.MF a (by intro b z;cases z);refine wz (s:=h) (h':=m) n (r.ent.trans c) i ?_ (λb o q z n=>F.XF b o q (z.elim .inl λh=>(by obtain⟨a,z⟩:=h;exact .inr (I.base.there b a z (by intro q;cases q)))) n) g e (k _ _ _ (r.ent.trans c) j);cases q:ME.heap.get? d with
 |none=>rfl
 |some o =>
  obtain⟨a,a⟩:=I.base.there d o q (by intro z;cases z);rw[l]at a;cases a
end
section
variable{X:Cx}{pos:Pos}
def qE{st:Stmt}:OJ X st (λ_ _=>False):=λ_ _ _ _ _ _ _ _ _ h=>h.elim
theorem Rel.wish(r:Rel X W H σ ρ)(E:yaa):Rel (X.wish E) W H σ ρ:=⟨r.val,r.own,r.inj,r.kn,r.ke,r.bt,r.st,r.ent,r.tab⟩
def Rel.NZ(r:Rel (X.wish E) W H σ ρ):Rel X W H σ ρ:=⟨r.val,r.own,r.inj,r.kn,r.ke,r.bt,r.st,r.ent,r.tab⟩
theorem SG.NZ(h:SG (X.wish XE) pins W H E f s'):SG X pins W H E f s':=by
 obtain⟨b,c,d,I,a,q⟩:=h;refine⟨b,c,d,I.NZ,a,?_⟩;cases f with
 |next=>obtain⟨a,r,q⟩:=q;exact⟨a,r.NZ,q⟩
 |brk=>obtain⟨a,r,q⟩:=q;exact⟨a,r.NZ,q⟩
 |cont=>obtain⟨a,r,q⟩:=q;exact⟨a,r.NZ,q⟩
 |ret u=>exact q
theorem cP.VJ{st:yal}{t:DS}(h:cP X.VJ st t):cP X st t:=λa s b H W c E I r d =>
 P6 (h a s b H W c E (I.wish _) (r.wish _) d) (λ_ _ q=>q.NZ) λ_ _ z=>False.elim z
end
def Ar(base:Heap)(l:List Env)(e:Addr)(cls a0:Value)(h:Heap):Prop:=base.StaysIn h/\base.get? e=none/\h.FunFrames base l/\∃a,h.TracedAtW base e cls a0 a
section
variable{M:Model}{A:Around}{E:yaa}{s:Shared}{base:Heap}{l outer:List Env}{env:Env}{e L:Addr}{cls a0:Value}
def Hl{Q:Unit->Shared->Prop}(i:A.frames=some (env::outer))(j:env.frame=some L)(R:Ar base (env::outer) e cls a0 s.heap)
  (h:∀h',Ar base (env::outer) e cls a0 h'->s.heap.UpToSlots h'->Q () {s with heap:=h'}):wpAny M A (noteFrame (.ref e) env) Q E s:=by
 obtain⟨y,p,x,q,u,c,T,w,n,m,o,g3,k,t,r,f,d,b⟩:=id R;by_cases a:(q==rawInt L)=true
 ·have g:q=rawInt L:=by simpa using a
  subst g;exact wpAny_noteFrame_againW (base:=base) (cls:=cls) (a0:=a0) j ⟨u,c,T,w,n,m,o,g3,k,t,r,f,d,b⟩ (h _ R (Heap.UpToSlots.refl _))
 ·obtain⟨g,w⟩:=o;subst g;unfold noteFrame;simp only[j];refine Mh (Qe m g3 k ?_);rw[Ml (by simp)];refine Mh (Qe f d b ?_);rw[Mj a];refine Mh (Xx f d (Vs.mp b).1 ?_);have g:∀b,b≠T->(s.heap.update T (Obj.mapFields (·.setIfInBounds 3 Value.none))).get? b=s.heap.get? b:=λb a=>Ti _ _ (Ne.symm a)
  have u:∀b o,s.heap.get? b=some o->(∀c,o.data ≠ .fields c)->b≠T:=λb o a c q=>by rw[q,f]at a;cases a;exact c n d
  refine wpAny_entryW (base:=base) i (x.of_keeps λb o a c=>⟨o,(g b (u b o a c)).trans a,rfl⟩) j ((g e (Ne.symm r)).trans m) (λb o a=>(g b λq=>by rw[q,t]at a;cases a).trans (y b o a)) p g3 (Vs.mp k).1 w λh' k=>?_
  obtain⟨j,i,f,d⟩:=k;exact h h' ⟨j,p,i,_,f⟩ λb o a c=>d b o ((g b (u b o a c)).trans a) c
def EW{Q:Unit->Shared->Prop}(a:A.frames=some (env::outer))(b:env.frame=some L)(R:Ar base (env::outer) e cls a0 s.heap)
  (h:∀h',Heap.FlyingW base outer e cls a0 h'->s.heap.UpToSlots h'->Q () {s with heap:=h'}):wpAny M A (leaving env (.ref e)) Q E s:=by
 unfold leaving;refine Mh (Hl a b R λh1 f b=>?_);obtain⟨d,g,c,fl,a⟩:=f;refine wpAny_setFlight_noneW (base:=base) d c a λi f a d c=>?_
 obtain⟨_,_,a⟩:=a;exact h i ⟨f,g,a,d⟩ (b.trans λb o d a=>⟨o.slots,c b o d a⟩)
end
def AD(X:Cx)(Ed:Value->Prop):Prop:=∀(b:yab) (f:St) (H:Hp) (W:Own) (g:Ro) (s a:Shared) (d c:Addr) (e:Hp) (B:Heap) (h:Value),Inv X b f H s->Rel X W H f g->a.os=s.os->AllBare a.gens->Fl X.prog X.w X.stack s.heap H e B a.heap->av H e->e d=none->s.heap.get? d=none →
 Ar B X.stack d (.ref c) h a.heap->Ed (.ref c)->X.xe (.ref d) a
section
variable{P:Program}{w:World}{K:yac}{mg:yam}{base:Heap}{N:yah}{qual:Str}{sc:Scope}{f:Addr}{cd:Value}{A:Around}{outer:List Env}{ME:Shared}{MR:Hp}{E:XK}
def K5{Ed:Value->Prop}(k:∀c a H',av MR H'->Ed c->E c a H'):AD (dI (CX1 P w) P w K mg base N qual sc f cd A outer ME MR E) Ed:=by
 intro pins σ H W ρ s h d c H' B a0 I r os a F c i l R j;show wpAny (model P w) (A.deeper (envOfC qual sc ME.heap.objs.size f cd)) (leaving (envOfC qual sc ME.heap.objs.size f cd) (.ref d)) _ _ _;refine EW (outer:=outer) I.ok.frames rfl R λm g e=>?_
 have n:=I.TP os F.un F.MF a (by intro b z;cases z);refine wz (s:=h) (h':=m) n (r.ent.trans c) i ?_ (λb o q z n=>F.XF b o q (z.elim .inl λh=>(by obtain⟨a,z⟩:=h;exact .inr (I.base.there b a z (by intro q;cases q)))) n) g e (k _ _ _ (r.ent.trans c) j);cases q:ME.heap.get? d with
 |none=>rfl
 |some o =>
  obtain⟨a,a⟩:=I.base.there d o q (by intro z;cases z);rw[l]at a;cases a
end
section
variable{P:Program}{w:World}{K:yac}{mg:yam}{base:Heap}
structure az(K:yac)(x qual:Str)(st:Stmt)(f:Addr)(fd:FuncData):Prop where
 ex:∃(oc:Value) (od:Option Addr) (dV kV doc pm:Value) (an:Option Addr) (NV ct:Value) (Uy:Array (yan)),
  fd=PySem.W.fnOf x qual (fi st) (cN st) (ar st) dV kV doc pm an NV ct/\K.lookup f=some ⟨oc,od,.func fd,Uy⟩/\PySem.W.codeIn K NV qual=true
 kp:PySem.W.keepIn K (.ref f)=true
def az.okC{x a:Str}{st:Stmt}{f:Addr}{d:FuncData}{N ps:yah}{k:Nat}{sp:DSp}(F:az K x a st f d)(S:aB N ps (ar st))(c:∀ds Q E,sp ds Q E->ds.length=ps.length)
  (n:∀(b:Value),d.code=b->∀(A:Around) (outer:List Env) (s:Shared) (H:Hp) (E:XK) (Ed:Value->Prop),cF k (A.deeper (envOfC a (ar st) s.heap.objs.size f b))->MadeX (dI (CX1 P w) P w K mg base N a (ar st) f b A outer s H E) Ed->cR (dI (CX1 P w) P w K mg base N a (ar st) f b A outer s H E) Ed->AD (dI (CX1 P w) P w K mg base N a (ar st) f b A outer s H E) Ed →
   ∃ t,cP (dI (CX1 P w) P w K mg base N a (ar st) f b A outer s H E) (cN st) t/\∀ds Q,sp ds Q Ed->t {nx:=λ_=>Q .MU,rt:=Q} (c8 N ds)):aM P w K mg base (CX1 P w) (k+1) f d ps (aN K sp):=by
 obtain⟨oc,od,dV,kV,doc,pm,an,b,ct,Uy,rfl,lk,a⟩:=F.ex;refine Gd lk a S (λa H Q E h=>?_) λA outer s H a Q E i h=>?_
 ·obtain⟨_,ds,_,_,_,_,e,d,_⟩:=h;rw[e.len];exact c ds _ _ d
 ·obtain⟨o,ds,m,Ed,j,l,e,d,g,a⟩:=h;obtain⟨t,c,k⟩:=n b rfl A outer s H E Ed i (Ld a) (HD a) (K5 a);refine⟨_,c.ps,⟨o,λ_=>none,λa=>∃o,H a=some o⟩,_,_,Rel.start l e rfl j,k ds m d,λb MH c Mr f r q=>?_,λb c v d f h q=>?_,λ_ _ _ _ _ _ q=>q,λ_ _ _ _ _ _ q=>q⟩
  ·exact g .MU .MU c ⟨λb o e n=>f.kp b o (λi z=>by cases z) e n,f.tb,f.ok⟩ Den.MU q
  ·refine g d v c ⟨λb o e n=>f.kp b o (λi z=>by cases z) e n,f.tb,f.ok⟩ (h.My λt a z=>?_) q;rcases z with z|z
   ·exact .inl (by rw[f.B];exact z)
   ·exact .inr (.inr ⟨z.1,by rw[f.S];exact z.2⟩)
def az.okX{x a:Str}{st:Stmt}{f:Addr}{d:FuncData}{N ps:yah}{k:Nat}{sp:DSp}(F:az K x a st f d)(S:aB N ps (ar st))(c:∀ds Q E,sp ds Q E->ds.length=ps.length)
  (e:∀(b:Value) (A:Around) (outer:List Env) (s:Shared) (H:Hp) (E:XK) (Ed:Value->Prop),cF k (A.deeper (envOfC a (ar st) s.heap.objs.size f b))->MadeX (dI (CX1 P w) P w K mg base N a (ar st) f b A outer s H E) Ed->cR (dI (CX1 P w) P w K mg base N a (ar st) f b A outer s H E) Ed->AD (dI (CX1 P w) P w K mg base N a (ar st) f b A outer s H E) Ed →
   ∃ t,cP (dI (CX1 P w) P w K mg base N a (ar st) f b A outer s H E) (cN st) t/\∀ds Q,sp ds Q Ed->t {nx:=λ_=>Q .MU,rt:=Q} (c8 N ds)):aM P w K mg base (CX1 P w) (k+1) f d ps (aN K sp):=az.okC F S c λb _=>e b
def az.okN{x a:Str}{st:Stmt}{f:Addr}{d:FuncData}{N ps:yah}{k:Nat}{sp:DSp}(F:az K x a st f d)(S:aB N ps (ar st))(c:∀ds Q E,sp ds Q E->ds.length=ps.length)
  (e:∀(b:Value) (A:Around) (outer:List Env) (s:Shared) (H:Hp) (E:XK),cF k (A.deeper (envOfC a (ar st) s.heap.objs.size f b)) →
   ∃ t,cP (dI (CX1 P w) P w K mg base N a (ar st) f b A outer s H E).VJ (cN st) t/\∀ds Q Ed,sp ds Q Ed->t {nx:=λ_=>Q .MU,rt:=Q} (c8 N ds)):aM P w K mg base (CX1 P w) (k+1) f d ps (aN K sp) :=
 az.okX F S c λb A outer s H E Ed c _ _ _=>by obtain⟨t,a,k⟩:=e b A outer s H E c;exact⟨t,a.VJ,λds Q h=>k ds Q Ed h⟩
def zF{x a:Str}{st:Stmt}{f:Addr}{m:Value}{j i:Option Addr}{n:Array (yan)}{g kV b e d h:Value}(l:K.lookup f=some ⟨m,j,.func (PySem.W.fnOf x a (fi st) (cN st) (ar st) g kV b e i d h),n⟩)
  (c:PySem.W.codeIn K d a=true) (k:PySem.W.keepIn K (.ref f)=true):az K x a st f (PySem.W.fnOf x a (fi st) (cN st) (ar st) g kV b e i d h):=⟨⟨m,j,g,kV,b,e,i,d,h,n,rfl,l,c⟩,k⟩
end
open PySem PySem.Spec PyProof.Rows L2
def Nw(P:Program)(w:World)(K:yac)(a:yam)(base:Heap)(x:Str)(k:Nat)(ps:yah)(sp:DSp):Prop :=
 ∃ f b,aM P w K a base (CX1 P w) k f b ps (aN K sp)/\a x=some (.ref f)/\PySem.W.keepIn K (.ref f)=true/\Binds K b ps []
section
variable{X:Cx}{k:Nat}{ps:yah}{sp:DSp}{x:Str}{p pos:Pos}{e:Expr}{es:yai}{t:DA}
def GO (h:Nw X.prog X.w X.K X.mg X.base x k ps sp) (a:cF k X.A) (i:Rk X (e::es) t) (d:Gl X x:=by rfl) (j:(x==("__debug__" : Str))=false:=by decide)
  (g:starEach (e::es) X.env=(false,eval e X.env)::starEach es X.env:=by rfl) (l:(backTo pos (starEach es X.env)).any (·.1)=false:=by rfl):MI X (.Call (.Name x p) (e::es) [] pos) (vH sp [] t):=by
 obtain⟨f,fd,F,b,c,f⟩:=h;exact Ew (dds:=[]) (dsv:=[]) F a d b c f .nil (by simp) Ll i j g l
def au (h:Nw X.prog X.w X.K X.mg X.base x k ps sp) (a:cF n X.A) (f:Rk X (e::es) t) (b:k<=n:=by decide) (c:Gl X x:=by rfl) (g:(x==("__debug__" : Str))=false:=by decide)
  (d:starEach (e::es) X.env=(false,eval e X.env)::starEach es X.env:=by rfl) (i:(backTo pos (starEach es X.env)).any (·.1)=false:=by rfl):MI X (.Call (.Name x p) (e::es) [] pos) (vH sp [] t):=GO h (a.mono b) f c g d i
end
def sp1(R:D->(D->Prop)->Prop):DSp:=λb Q _=>∃a,b=[a]/\R a Q
def sU:DSp:=λb Q _=>∃a:yaf,b=[.lst false (a.map .int)]/\a.length<=63/\Q (.bl true)
theorem uP{K:yac}{P:yak}{H:Hp}:∀ns:yaf,af K P H (ns.map D.int) (ns.map V.int)
 |[]=>af.nil
 |n::r=>af.cons (Den.int n) (uP r)
def J0{K:yac}{H:Hp}{a:Addr}{ns:yaf}(b:ns.length<=63)(e:SqL K H a (ns.map V.int))(c:iC K H):aN K sU [.ref a] H (λv _=>v=.bl true) λ_ _ _=>False :=
 ⟨λ_=>False,[.lst false (ns.map D.int)],λd=>d=.bl true,λ_=>False,c,λ_ z=>z.elim,af.one (Den.lst (λz=>z.elim (λz=>by cases z) id) (.any e) (uP ns)),⟨ns,rfl,b,rfl⟩,λd v H' _ a e=>by subst e;exact a.VM,λ_ _ _ _ z=>z.elim⟩
def walk{l:PySem.W.OpenLaw}{q:Program}{a:yah}{n:(yam)->Heap->Prop}{g:World->Heap->Prop}{d:DefRec}{K:Params->yac}{k:Nat}{x:Str}(j:l.most=some 63)(o:d.params.defaults=[])(i:cF k callerA)
  (m:∀(w:World) (h:Heap),g w h->(K w.params).In h) (p:∀w:World,tabOf (K w.params)=none)
  (F:∀(w:World) (b:yam) (e:Addr) (h:Heap),(K w.params).In h->h.Ns mainGlobals b->b d.name=some (.ref e) →
   ∃ c:FuncData,(∀(s:Shared) (u:Value),BindsTo s c ⟨[u],[]⟩ [(x,u)])/\∀base:Heap,(K w.params).In base->base.Ns mainGlobals b->aM l.prog w (K w.params) b base (CX1 l.prog w) k e c [x] (aN (K w.params) sU)) :
  PySem.W.WalkO q a n g l.row.toRowW d [] (λf vs=>PySem.call f vs) :=
 L2.Iv (n:=63) (k:=k) (x:=x) (CX:=λw=>CX1 l.prog w) (sp:=λw=>aN (K w.params) sU) j (by decide) o i m F (λw _ a ns a c b=>J0 a b ⟨λP ps e=>(by rcases c P with z|⟨o,xs,z⟩<;>rw[z]at e<;>cases e),λP e=>(by rw[p w]at e;cases e)⟩) λ_ _ _ _ _ z=>by obtain⟨_,_,_,_,_,_,_,_,_,_,_,_,_,q⟩:=z;exact q.elim
def WC{b:Type}(a:b)(r:List b):Nx (a::r) 0=some a:=bg (j:=0) rfl
def Rm{c:Type}(a b:c)(r:List c):Nx (a::b::r) 1=some b:=bg (j:=1) rfl
def at2{d:Type}(a b c:d)(r:List d):Nx (a::b::c::r) 2=some c:=bg (j:=2) rfl
def at3{e:Type}(a b c d:e)(r:List e):Nx (a::b::c::d::r) 3=some d:=bg (j:=3) rfl
theorem qU(ds:yas)(i:Int)(Q:D->Prop):ub (.tup ds) (.int i) Q=∃d,Nx ds i=some d/\Q d:=rfl
theorem qS(t:Bool)(ds:yas)(i:Int)(Q:D->Prop):ub (.lst t ds) (.int i) Q=∃d,Nx ds i=some d/\Q d:=rfl
theorem cH(i:Int):aJ (.int i)=.int i:=rfl
theorem FK(b:Bool):aJ (.bl b)=.bl b:=rfl
theorem DU:aJ .MU=.MU:=rfl
theorem jv(x:Str):aJ (.str x)=.str x:=rfl
theorem cq(ds:yas):aJ (.tup ds)=.tup (bf ds):=rfl
theorem bE(t:Bool)(ds:yas):aJ (.lst t ds)=.lst false (bf ds):=rfl
theorem bH:bf []=[]:=rfl
theorem br(d:D)(ds:yas):bf (d::ds)=aJ d::bf ds:=rfl
theorem cE{a:Type}(f:a->D)(h:∀x,aJ (f x)=f x):∀xs:List a,bf (xs.map f)=xs.map f
 |[]=>by rw[Sv,bf]
 |x::r=>by rw[MN,bf,h,cE f h r]
def fW(ns:yaf):bf (ns.map D.int)=ns.map D.int:=cE _ cH ns
theorem zW(C:Int->Int->Prop)(g:Int->Int->D)(i j:Int)(Q:D->Prop):VN C g (.int i) (.int j) Q=(C i j/\Q (g i j)):=rfl
theorem eW(g:Int->Int->D)(i j:Int)(Q:D->Prop):gW g (.int i) (.int j) Q=Q (g i j):=rfl
theorem Jj(d:D)(r:Ro)(Q:D->Prop):lB 0 (some (.val d)::r) Q=Q d:=rfl
theorem Jk(n:Nat)(x:Option Sl)(r:Ro)(Q:D->Prop):lB (n+1) (x::r) Q=lB n r Q:=rfl
theorem Lu(x y:Option Sl)(r:Ro):List.set (x::r) 0 y=y::r:=rfl
theorem Lv(n:Nat)(x y:Option Sl)(r:Ro):List.set (x::r) (n+1) y=x::List.set r n y:=rfl
def K3(k:Bool)(R:Bool->Prop):(∃c,(D.bl k)=.bl c/\R c)=R k:=by
 apply propext;constructor
 ·rintro⟨c,e,q⟩;cases e;exact q
 ·intro q;exact⟨k,rfl,q⟩
def Jz(k:Int)(R:Int->Prop):(∃c,(D.int k)=.int c/\R c)=R k:=by
 apply propext;constructor
 ·rintro⟨c,e,q⟩;cases e;exact q
 ·intro q;exact⟨k,rfl,q⟩
def GX{a:Type}(k:a)(R:a->Prop):(∃c,some k=some c/\R c)=R k:=by
 apply propext;constructor
 ·rintro⟨c,e,q⟩;cases e;exact q
 ·intro q;exact⟨k,rfl,q⟩
def S9(a b c:D):([a,b,c]:yas).length<=sizeLine:=by rw[sizeLine_eq];show 3<=16777216;decide
def Ta(a b:D):([a,b]:yas).length<=sizeLine:=by rw[sizeLine_eq];show 2<=16777216;decide
def XG(a:D):([a]:yas).length<=sizeLine:=by rw[sizeLine_eq];show 1<=16777216;decide
def sz4(a b c d:D):([a,b,c,d]:yas).length<=sizeLine:=by rw[sizeLine_eq];show 4<=16777216;decide
def Hg(t:Bool)(xs:yas)(R:yas->Prop):(∃ys,((∃t',[D.lst t xs]=[.lst t' ys]) ∨ [D.lst t xs]=[.tup ys])/\R ys)=R xs:=by
 apply propext;constructor
 ·rintro⟨c,e,q⟩;rcases e with⟨_,e⟩| e
  ·cases e;exact q
  ·cases e
 ·intro q;exact⟨xs,.inl ⟨t,rfl⟩,q⟩
def Hh(xs:yas)(R:yas->Prop):(∃ys,((∃t',[D.tup xs]=[.lst t' ys]) ∨ [D.tup xs]=[.tup ys])/\R ys)=R xs:=by
 apply propext;constructor
 ·rintro⟨c,e,q⟩;rcases e with⟨_,e⟩| e
  ·cases e
  ·cases e;exact q
 ·intro q;exact⟨xs,.inr rfl,q⟩
def Ke(a b:D)(R:D->D->Prop):(∃d e,[a,b]=[d,e]/\R d e)=R a b:=by
 apply propext;constructor
 ·rintro⟨_,_,e,q⟩;cases e;exact q
 ·intro q;exact⟨a,b,rfl,q⟩
def Hc (ds:yas):TV "tuple" (.tup ds)=true:=by
 show(("tuple" : String) == "tuple" || (("tuple" : String) == "bool" && ("tuple" : String) == "int"))=true;decide
def Hb (t:Bool) (ds:yas):TV "list" (.lst t ds)=true:=by
 show(("list" : String) == "list" || (("list" : String) == "bool" && ("list" : String) == "int"))=true;decide
def CG (ds:yas):TV "list" (.tup ds)=false:=by
 show(("tuple" : String) == "list" || (("tuple" : String) == "bool" && ("list" : String) == "int"))=false;decide
def Ha (i:Int):TV "int" (.int i)=true:=by
 show(("int" : String) == "int" || (("int" : String) == "bool" && ("int" : String) == "int"))=true;decide
def A9 (i:Int):TV "bool" (.int i)=false:=by
 show(("int" : String) == "bool" || (("int" : String) == "bool" && ("bool" : String) == "int"))=false;decide
theorem CC:i6 .MU=true:=rfl
theorem CF(ds:yas):i6 (.tup ds)=false:=rfl
theorem CA(t:Bool)(ds:yas):i6 (.lst t ds)=false:=rfl
theorem Cz(i:Int):i6 (.int i)=false:=rfl
def Hr(i:Int):okD (.int i):=by unfold okD;rw[NX,RB]<;>first|exact⟨rfl,rfl⟩| (intros;contradiction)
def Hs:okD .MU:=by unfold okD;rw[NX,RB]<;>first|exact⟨rfl,rfl⟩| (intros;contradiction)
def Co(a b c x y z:Int):eqD (.tup [.int a,.int b,.int c]) (.tup [.int x,.int y,.int z])=(decide (a=x) && (decide (b=y) && decide (c=z))):=by unfold eqD;simp only[NX,cL,PyData.eqv,PyData.eqvAll,Bool.and_true];rfl
noncomputable abbrev T3(a b c:Int):D:=.tup [.int a,.int b,.int c]
def CD.lit{n:Int}(h:n≠0/\n.natAbs<2 ^ 64:=by decide):CD i n:=⟨h.1,Of h.2 (Vv (by decide) (by decide))⟩
def HW(a b:Int)(R:Int->Int->Prop):(∃i j:Int,[D.int a,D.int b]=[.int i,.int j]/\R i j)=R a b:=by
 apply propext;constructor
 ·rintro⟨_,_,e,q⟩;cases e;exact q
 ·intro q;exact⟨a,b,rfl,q⟩
def HV(a:Int)(R:Int->Prop):(∃i:Int,[D.int a]=[.int i]/\R i)=R a:=by
 apply propext;constructor
 ·rintro⟨_,e,q⟩;cases e;exact q
 ·intro q;exact⟨a,rfl,q⟩
def Eg{ns:yaf}{k:Int}(h0:0<=k)(h1:k<ns.length):Nx (ns.map D.int) k=some (.int (ns.getD k.toNat 0)):=by
 have e:k=((k.toNat:Nat):Int):=by lia
 have a:k.toNat<ns.length:=by lia
 have q:Nx (ns.map D.int) ((k.toNat:Nat):Int)=some (.int (ns.getD k.toNat 0)):=bg (by simp[Nj,M5 a,Nz]);rw[<- e]at q;exact q
def yK{xs ys:yaf}(h:xs.map D.int=ys.map D.int):xs=ys:=by
 induction xs generalizing ys with
 |nil=>cases ys with
  |nil=>rfl
  |cons y r=>simp at h
 |cons x r ih=>cases ys with
  |nil=>simp at h
  |cons y q =>
   simp only[MN,SQ,D.int.injEq]at h;rw[h.1,ih h.2]
def JI(n:Nat)(t:UB)(ds:yas)(h:ds.length=n)(ρ:Ro)(Q:Ro->Prop):rW n t (.tup ds) ρ Q=t ds ρ Q:=by
 apply propext;unfold rW;constructor
 ·rintro⟨RQ,e,_,h⟩;rcases e with e|⟨_,e⟩
  ·cases e;exact h
  ·cases e
 ·intro q;exact⟨ds,.inl rfl,h,q⟩
def gdc(g:DG)(u:UB)(x:D)(r:yas)(ρ:Ro)(Q:Ro->Prop):lX g u (x::r) ρ Q=g x ρ λa=>u r a Q:=by
 apply propext;unfold lX;constructor
 ·rintro⟨d,r',e,h⟩;cases e;exact h
 ·intro h;exact⟨x,r,rfl,h⟩
def gdn(ρ:Ro)(Q:Ro->Prop):rV [] ρ Q=Q ρ:=by apply propext;unfold rV;simp
def LL(d c:DG)(a b:D)(ρ:Ro)(Q:Ro->Prop):rW 2 (lX d (lX c rV)) (.tup [a,b]) ρ Q=d a ρ λe=>c b e Q:=by
 (first|rw[JI 2 _ _ rfl]|rw[JI 4 _ _ rfl]);simp only[gdc,gdn]
section
variable{X:Cx}{pos:Pos}
def Rel.YX{i:Nat}{o:HO}(r:Rel X W H σ ρ)(E:i<σ.length)(c:av H H')(g:H p=none)(C:X.K.lookup p=none)(h':H' p=some o)(G:di X.K (λt b=>W.bad t b∨b=p) H' (W.sub σ.length i) x o) :
  Rel X ((W.drop i).put i p) H' (σ.set i (some (.ref p))) (ρ.set i (some (.ob x)))/\ML W H ((W.drop i).put i p) H':=by
 have m:∀j a,((W.drop i).put i p).O j=some a->(j=i/\a=p)∨(j≠i/\W.O j=some a):=λj a h=>by
  have f:(if j=i then some p else(if j=i then none else W.O j))=some a:=h;by_cases e:j=i
  ·rw[Ml e]at f;cases f;exact .inl ⟨e,rfl⟩
  ·rw[Mj e,Mj e]at f;exact .inr ⟨e,f⟩
 have A:((W.drop i).put i p).O i=some p:=by show(if i=i then some p else _)=_;rw[Ml rfl]
 have s:∀j,j≠i->((W.drop i).put i p).O j=W.O j:=λj n=>by show(if j=i then some p else(if j=i then none else W.O j))=_;rw[Mj n,Mj n]
 have I:∀j k b,W.sub σ.length j k=some b->((W.drop i).put i p).sub σ.length j k=some b:=λj k b e=>(s _ (iu E)).trans e
 have B:∀t a,((W.drop i).put i p).bad t a->W.bad t a∨a=p:=λt a z=>by
  rcases z with z|⟨j,z⟩| z
  ·exact .inl (.inl z)
  ·rcases m j a z with⟨_,q⟩| ⟨_,q⟩
   ·exact .inr q
   ·exact .inl (.inr (.inl ⟨j,q⟩))
  ·exact .inl (.inr (.inr z))
 have u:∀{t:Bool} {a:Addr} {e:yar},Oh X.K H t a e->a≠p:=fun {t a e} q z=>by
  subst z;rcases q.1 with(q|⟨o,q⟩)|⟨o,Mp,n,q,_⟩
  ·rw[g]at q;cases q
  ·rw[g]at q;cases q
  ·rw[C]at q;cases q
 have J:∀(d:D) (v:V),Den X.K W.bad H d v->Den X.K ((W.drop i).put i p).bad H' d v:=Den.map (λ_ _ q=>MW.same c q) (λt a e n q=>⟨λz=>(B t a z).elim n (u q),q.same c⟩) (λa _ n q=>c.kp a _ q n.nt);have y:∀(w:yas) (l:yar),af X.K W.bad H w l->af X.K ((W.drop i).put i p).bad H' w l:=af.map (λ_ _ q=>MW.same c q) (λt a e n q=>⟨λz=>(B t a z).elim n (u q),q.same c⟩) (λa _ n q=>c.kp a _ q n.nt);refine⟨⟨λj d h=>?_,λj x h=>?_,λj k a f u=>?_,λj a f=>?_,λj a f=>?_,λa h=>let ⟨_,q⟩:=r.bt a h;c.ex q,λa h=>let ⟨_,q⟩:=r.st a h;c.ex q,r.ent.trans c,r.tab.same c⟩,rfl,rfl,λb o _ q n=>c.kp b o q n,λj a h=>?_,c.tb,c.ok⟩
 ·by_cases l:j=i
  ·subst l;rw[List.getElem?_set]at h;split at h
   ·split at h<;>cases h
   ·lia
  ·rw[Ov (Ne.symm l)]at h;obtain⟨w,f,u⟩:=r.val j d h;exact⟨w,by rw[Ov (Ne.symm l)];exact f,J d w u⟩
 ·by_cases l:j=i
  ·subst l;rw[List.getElem?_set]at h;split at h
   ·split at h
    ·cases h;exact⟨p,_,A,by simp[E],h',by rw[Su];exact G.My (λt a z=>B t a z) (I _)⟩
    ·cases h
   ·lia
  ·rw[Ov (Ne.symm l)]at h;obtain⟨a,e,f,u,i,d⟩:=r.own j x h;exact⟨a,e,(s j l).trans f,by rw[Ov (Ne.symm l)];exact u,c.kp _ _ i d.S6.nt,by rw[Su];exact d.map y λk b q=>⟨I j k b q,λ_ z=>c _ _ z⟩⟩
 ·rcases m j a f with⟨d,b⟩| ⟨d,b⟩<;>rcases m k a u with⟨l,i⟩| ⟨l,i⟩
  ·rw[d,l]
  ·subst b;obtain⟨_,_,e,q,_⟩:=r.kn k _ i;rw[g]at q;cases q
  ·subst i;obtain⟨_,_,e,q,_⟩:=r.kn j _ b;rw[g]at q;cases q
  ·exact r.inj j k a b i
 ·rcases m j a f with⟨d,b⟩| ⟨d,b⟩
  ·subst b;exact⟨C,⟨λz=>(by obtain⟨o,q⟩:=r.bt _ z;rw[g]at q;cases q),λz=>(by obtain⟨o,q⟩:=r.st _ z;rw[g]at q;cases q)⟩,_,h',G.S6⟩
  ·obtain⟨n,l,e,k,i⟩:=r.kn j a b;exact⟨n,l,e,c.kp _ _ k i.nt,i⟩
 ·rcases m j a f with⟨d,b⟩| ⟨d,b⟩
  ·subst b;exact r.ent.free g
  ·exact r.ke j a b
 ·rcases m j a h with⟨d,b⟩| ⟨d,b⟩
  ·subst b;exact .inr g
  ·exact .inl ⟨j,b⟩
def Rel.Vc{i:Nat}(r:Rel X W H σ ρ)(e:i<σ.length)(a:av H H')(c:H p=none)(d:X.K.lookup p=none)(h':H' p=some (.lst vs))(f:af X.K (λt b=>W.bad t b∨b=p) H' ds vs) :
  Rel X ((W.drop i).put i p) H' (σ.set i (some (.ref p))) (ρ.set i (some (.own ds)))/\ML W H ((W.drop i).put i p) H':=r.YX e a c d h' (.lst f)
def af.apart{K:yac}{H:Hp}(n:H a=none)(k:K.lookup a=none)(h:af K P H ds d)(c:NT o:=by exact True.intro):af K (λt b=>P t b∨b=a) (L2.upd H a o) ds d :=
 af.map (λ_ _ q=>MW.same (av.upd n c) q) (λt b ws p q=>⟨(λz=>z.elim p λz=>by
  subst z;rcases q.1 with(q|⟨o,q⟩)|⟨o,Mp,m,q,_⟩
  ·rw[n]at q;cases q
  ·rw[n]at q;cases q
  ·rw[k]at q;cases q),q.same (av.upd n c)⟩) (λb _ m q=>(av.upd n c).kp b _ q m.nt) ds d h
def Rel.YY{i:Nat}{a:Addr}{o:HO}(r:Rel X W H σ ρ)(d:ρ[i]?=some (some (.ob x)))(f:W.O i=some a)(B:σ[i]?=some (some (.ref a)))(m:H a=some o)(g:jx o)(l:di X.K W.bad H (W.sub σ.length i) x' o') :
  Rel X W (L2.upd H a o') σ (ρ.set i (some (.ob x')))/\ML W H W (L2.upd H a o'):=by
 have h:∀t,W.bad t a:=λ_=>.inr (.inl ⟨i,f⟩)
 have A:∀b c,MW X.K H b c->MW X.K (L2.upd H a o') b c:=λb c q=>by show L2.upd _ _ _ _=_;rw[aw (gT q m (by intro z;subst z;exact g))];exact q
 have x:∀t b c,¬W.bad t b->Oh X.K H t b c->¬W.bad t b/\Oh X.K (L2.upd H a o') t b c:=λt b c n q=>by
  have s:b≠a:=λe=>n (e ▸ h t)
  refine⟨n,?_,λz=>⟨by rw[aw s];exact(q.2 z).1,(q.2 z).2⟩⟩;rcases q.1 with(q|⟨u,q⟩)|q
  ·exact .inl (.inl (by rw[aw s];exact q))
  ·exact .inl (.inr ⟨u,by rw[aw s];exact q⟩)
  ·exact .inr q
 have t:∀b u,Tt u->H b=some u->L2.upd H a o' b=some u:=λb u n q=>by rw[aw (gT q m (by intro z;subst z;exact g.sol n))];exact q
 have C:i<ρ.length:=(Nk.mp d).1;have h:i<σ.length:=(Nk.mp B).1;have n:∀j k b,W.sub σ.length j k=some b->W.sub σ.length j k=some b/\∀d,H b=some (.lst d)->L2.upd H a o' b=some (.lst d):=λj k b q=>⟨q,λd z=>by rw[aw (λe=>iu h (r.inj _ _ a (by rw[<- e];exact q) f))];exact z⟩
 have w:∀b u,H b=some u->∃d,L2.upd H a o' b=some d:=λb u q=>by
  by_cases p:b=a
  ·subst p;exact⟨_,aI⟩
  ·exact⟨u,by rw[aw p];exact q⟩
 refine⟨⟨λj d h=>?_,λj y h=>?_,r.inj,λj b k=>?_,r.ke,λb k=>let ⟨u,q⟩:=r.bt b k;w b u q,λb k=>let ⟨u,q⟩:=r.st b k;w b u q,r.ent.ins (r.ke i a f) m g l.S6.nt,r.tab.upd l.S6.nt (.inr ⟨o,m,g.ne,g.nt⟩)⟩,ML.upd f m g l.S6.nt⟩
 ·by_cases g:j=i
  ·subst g;rw[O9 C]at h;cases h
  ·rw[Ov (Ne.symm g)]at h;obtain⟨w,m,o⟩:=r.val j d h;exact⟨w,m,Den.map A x t d w o⟩
 ·by_cases g:j=i
  ·subst g;rw[O9 C]at h;cases h;exact⟨a,o',f,B,aI,l.map (af.map A x t) (n _)⟩
  ·rw[Ov (Ne.symm g)]at h;obtain⟨b,c,m,o,q,d⟩:=r.own j y h;have s:b≠a:=λe=>g (r.inj j i a (by rw[<- e];exact m) f)
   exact⟨b,c,m,o,by rw[aw s];exact q,d.map (af.map A x t) (n _)⟩
 ·obtain⟨g,f,c,e,d⟩:=r.kn j b k;refine⟨g,f,?_⟩;by_cases p:b=a
  ·subst p;exact⟨_,aI,l.S6⟩
  ·exact⟨c,by rw[aw p];exact e,d⟩
def Rel.S6{i:Nat}{a:Addr}(r:Rel X W H σ ρ)(f:ρ[i]?=some (some (.own ds)))(c:W.O i=some a)(b:σ[i]?=some (some (.ref a)))(e:H a=some (.lst vs))(d:af X.K W.bad H RQ vs') :
  Rel X W (L2.upd H a (.lst vs')) σ (ρ.set i (some (.own RQ)))/\ML W H W (L2.upd H a (.lst vs')):=r.YY f c b e True.intro (.lst d)
variable{es:yai}{t:DA}
def Jb(i:Nat)(t:DA):DS:=λE a=>t a λb=>b.length<=sizeLine/\E.nx (a.set i (some (.own b)))
def lU{x:Str}(i:Nat)(n:X.N.Nodup)(h:Rk X es t)(j:X.N[i]?=some x:=by rfl)(l:Loc X.env.scope x:=by first|exact Or.inl rfl|exact Or.inr rfl)
  (hs:swapsWith (.List es Vd) (some (.Name x pos')) pos.line X.env=pure false:=by rfl) (m:X.fn x=true∨X.env.scope.names.lookup x=some .local:=by first|exact .inl rfl|exact .inr rfl|assumption) :
  OJ X (.Assign [.Name x pos'] (.List es Vd) pos) (Jb i t):=by
 intro a s b H W c E I r d;refine wpAny_Assign_Name (wpAny_List_spliced (Mw (h Vd a s b H W c _ I r d) λk c b=>?_)) hs;obtain⟨f,e,ds,a,g,i,h,z,q⟩:=b;rw[<- h.len]at z;refine⟨by rw[<- g.length];exact z,?_⟩;have d:e c.heap.objs.size=none:=a.MF.fresh (MS _);have p:=a.laid (o:=.lst f) (t':=c.toks) (λb u e=>Nd _ e) (MS _) ⟨z,k,0,g,OI _ rfl⟩;have b:=(r.same i).Vc (Inv.S8 a j) (av.upd (o:=.lst f) d) d (Inv.NA a) aI (af.apart d (Inv.NA a) h);exact fe (v:=.ref c.heap.objs.size) p n j l rfl (λs2 a=>⟨_,_,_,a,(ML.same i).trans b.2,_,b.1,q⟩) m
def zj(i:Nat)(te:DE):DS:=λE a=>∃b,a[i]?=some (some (.own b))/\te a λd=>b.length<sizeLine/\E.nx (a.set i (some (.own (b++[d]))))
def jd{x:Str}{a:Pos}(i:Nat)(f:MI X e te)(d:X.N[i]?=some x:=by rfl)(c:S1 X.env.scope x:=by first|exact Or.inl rfl|exact Or.inr (Or.inl rfl)|exact Or.inr (Or.inr rfl))
  (g:(x==("__debug__" : Str))=false:=by decide) (j:(x==("__classdict__" : Str))=false:=by decide)
  (m:attributeBase (.Name x px) "append" X.env (eval (.Name x px) X.env)=eval (.Name x px) X.env:=by rfl)
  (h:((backTo cpos (starEach [e] X.env)).all (λx=>!x.1) && (backToKw cpos (keywordEach [] X.env)).all (λx=>x.1.isSome) && decide ([e].length+([]:List Keyword).length+(if([]:List Keyword).isEmpty then 0 else 1)<30))=true:=by rfl)
  (l:(a.endLine==cpos.line)=true:=by rfl) (b:starEach [e] X.env=(false,eval e X.env)::starEach [] X.env:=by rfl) (k:(backTo cpos (starEach [] X.env)).any (·.1)=false:=by rfl)
  (hs:swapsWith (.Call (.Attribute (.Name x px) "append" a) [e] [] cpos) none pos.line X.env=pure false:=by rfl) :
  OJ X (.Expr (.Call (.Attribute (.Name x px) "append" a) [e] [] cpos) pos) (zj i te):=by
 have a:=l9 (pos:=pos) (Bp PySem.F.plainAttrs_list PySem.F.slot_list_append PySem.F.type_list_append oH (gU d c g j) (j9 f.pe oM b) m h l b k) hs;refine OJ.of a λσ H W b E r hl h=>?_
 obtain⟨d,g,h⟩:=h;obtain⟨a,c,j,e,f,l⟩:=r.eV i d g;refine⟨.ref a,e,.inl ⟨rfl,_,SqL.of f⟩,W,b,_,r,h,λv H' d b k q=>?_⟩;obtain⟨z,q⟩:=q;have d:=b _ _ f;have h:=r.same b;have f:=l.same b;refine⟨a,c,v,rfl,rfl,d,by rw[f.len];exact z,?_⟩;obtain⟨a,i⟩:=h.S6 (vs':=c++[v]) g j e d (f.append (af.one k));exact⟨W,_,(ML.same b).trans i,a,q⟩
def Rel.freeze{X:Cx}{i:Nat}(r:Rel X W H σ ρ)(e:ρ[i]?=some (some (.own ds))):Rel X (W.drop i) H σ (ρ.set i (some (.val (.lst true ds)))):=by
 obtain⟨a,vs,c,f,h,k⟩:=r.eV i ds e;have l:i<σ.length:=(Nk.mp f).1;have g:i<ρ.length:=(Nk.mp e).1;have e:¬(W.drop i).bad true a:=λz=>by
  rcases z with z|⟨j,z⟩| ⟨_,z⟩
  rotate_right
  ·exact(r.kn i a c).2.1.2 z
  ·exact(r.kn i a c).2.1.1 z
  ·have b:(if j=i then none else W.O j)=some a:=z;by_cases d:j=i
   ·rw[Ml d]at b;cases b
   ·rw[Mj d]at b;exact d (r.inj j i a b c)
 have m:Den X.K (W.drop i).bad H (.lst true ds) (.ref a):=Den.lst e (.new h (r.kn i a c).1) (k.My λ_ _=>Own.Na);refine⟨λj x h=>?_,λj x h=>?_,λj k b c e=>?_,λj b c=>?_,λj b c=>?_,r.bt,r.st,r.ent,r.tab⟩
 ·by_cases d:j=i
  ·subst d;rw[O9 g]at h;cases h;exact⟨.ref a,f,m⟩
  ·rw[Ov (Ne.symm d)]at h;obtain⟨w,c,e⟩:=r.val j x h;exact⟨w,c,e.My λ_ _=>Own.Na⟩
 ·by_cases d:j=i
  ·subst d;rw[O9 g]at h;cases h
  ·rw[Ov (Ne.symm d)]at h;obtain⟨b,a,c,e,g,f⟩:=r.own j x h;exact⟨b,a,by show(if j=i then none else W.O j)=_;rw[Mj d];exact c,e,g,f.My (λ_ _=>Own.Na) (Own.Qh l)⟩
 ·have a:(if j=i then none else W.O j)=some b:=c;have f:(if k=i then none else W.O k)=some b:=e;by_cases d:j=i
  ·rw[Ml d]at a;cases a
  ·by_cases e:k=i
   ·rw[Ml e]at f;cases f
   ·rw[Mj d]at a;rw[Mj e]at f;exact r.inj j k b a f
 ·have a:(if j=i then none else W.O j)=some b:=c;by_cases d:j=i
  ·rw[Ml d]at a;cases a
  ·rw[Mj d]at a;exact r.kn j b a
 ·have a:(if j=i then none else W.O j)=some b:=c;by_cases d:j=i
  ·rw[Ml d]at a;cases a
  ·rw[Mj d]at a;exact r.ke j b a
def zq(i:Nat)(t:DS):DS:=λE a=>∃b,a[i]?=some (some (.own b))/\t E (a.set i (some (.val (.lst true b))))
def fk{t:DS}(i:Nat)(h:cP X YZ t):cP X YZ (zq i t):=by intro a s c H W ρ E I r b;obtain⟨ds,e,b⟩:=b;exact Mw (h a s c H (W.drop i) _ E I (r.freeze e) b) λ_ _ z=>z.up (ML.drop W H i)
end
noncomputable def bR(env:Env)(ns:yah):List (Str×Addr):=ns.filterMap λn=>(env.cells.lookup n).map λc=>(n,c)
theorem iG:∀{ns:yah} {x:Str} {c:Addr},(bR env ns).lookup x=some c->env.cells.lookup x=some c
 |[],_,_,h=>by cases h
 |n::r,x,c,h=>by
  unfold bR at h;rw[Yc]at h;cases e:env.cells.lookup n with
  |none =>
   rw[e]at h;exact iG (ns:=r) h
  |some b =>
   rw[e]at h;have a:List.lookup x ((n,b)::bR env r)=some c:=h;rw[QU]at a;cases q:x==n with
   |true =>
    rw[q]at a;have b:x=n:=by simpa using q
    subst b;rw[e];exact a
   |false =>
    rw[q]at a;exact iG (ns:=r) a
theorem ko{env:Env}:∀{ns:yah} {x:Str} {c:Addr},x∈ns->env.cells.lookup x=some c->(bR env ns).lookup x=some c
 |[],_,_,h,_=>by cases h
 |n::r,x,c,h,e=>by
  unfold bR;rw[Yc];by_cases a:x=n
  ·subst a;rw[e];show List.lookup x ((x,c)::_)=some c;simp[QU]
  ·have b:x∈r:=by
    rcases MD.mp h with z|z
    ·exact absurd z a
    ·exact z
   have ih:=ko (ns:=r) b e;cases q:env.cells.lookup n with
   |none=>exact ih
   |some b =>
    show List.lookup x ((n,b)::bR env r)=some c;rw[QU];have:(x==n)=false:=by simpa using a
    rw[this];exact ih
structure CSc(osc sc:Scope)(xs ns:yah):Prop where
 kind:sc.kind=.function
 Sb:∀y∈sc.names,y.2 ≠ .cell
 names:∀y∈sc.names,y.2=.local->sc.names.lookup y.1=some .local
 Y0:∀x∈xs,sc.names.lookup x=some .local
 free:∀y∈sc.names,y.2=.free->y.1∈ns/\osc.names.lookup y.1=some .cell
 cells:∀n∈ns,sc.names.lookup n=some .free/\osc.names.lookup n=some .cell
 nd:(xs++ns).Nodup
def aZ(X:Cx)(a:Scope)(ns xs:yah)(C:Addr)(e:Shared)(d:Hp)(b:yae)(c:yaa):Cx :=
 {X with N:=xs++ns,ME:=e,MR:=d,env:=compEnvC a (bR X.env ns) C X.env,outer:=X.stack,stack:=X.stack,ex:=b,fn:=λ_=>false,pn:=[],xe:=c}
theorem iM{env:Env}(b:env.scope.kind=.function):∀{a:List (Str×NameKind)} {n:Str},a.lookup n=some .free->env.kindOf n=some .cell →
  (a.map λ(n,k)=>if(k==NameKind.free && env.scope.kind==.function && env.kindOf n==some .cell)then(n,NameKind.cell)else(n,k)).lookup n=some .cell
 |[],_,h,_=>by simp at h
 |(m,k)::r,n,h,a=>by
  have ih:=@iM env b r n;show List.lookup n ((if(k==NameKind.free && env.scope.kind==.function && env.kindOf m==some .cell)=true then(m,NameKind.cell)else(m,k))::_)=_;cases hx:n==m with
  |true =>
   simp only[QU,hx]at h;cases h;have e:n=m:=by simpa using hx
   subst e;rw[b,a];simp[QU]
  |false =>
   simp only[QU,hx]at h;by_cases b:(k==NameKind.free && env.scope.kind==.function && env.kindOf m==some .cell)=true
   ·rw[Ml b];simp only[QU,hx];exact ih h a
   ·rw[Mj b];simp only[QU,hx];exact ih h a
theorem i7{env:Env}:∀{a:List (Str×NameKind)} {n:Str} {k:NameKind},
  (a.map λ(n,k)=>if(k==NameKind.free && env.scope.kind==.function && env.kindOf n==some .cell)then(n,NameKind.cell)else(n,k)).lookup n=some k->(k=.cell∨k=.free) →
  (∃y∈a,y.1=n/\y.2=.free)∨∃ y∈a,y.1=n/\y.2=.cell
 |[],_,_,h,_=>by simp at h
 |(m,j)::r,n,k,h,b=>by
  have a:List.lookup n ((if(j==NameKind.free && env.scope.kind==.function && env.kindOf m==some .cell)=true then(m,NameKind.cell)else(m,j))::(r.map λ(n,k)=>if(k==NameKind.free && env.scope.kind==.function && env.kindOf n==some .cell)then(n,NameKind.cell)else(n,k)))=some k:=h;have d:((∃y∈r,y.1=n/\y.2=.free)∨∃ y∈r,y.1=n/\y.2=.cell)->((∃y∈(m,j)::r,y.1=n/\y.2=.free)∨∃ y∈(m,j)::r,y.1=n/\y.2=.cell):=λz=>by
   rcases z with⟨y,c,q⟩| ⟨y,c,q⟩
   ·exact .inl ⟨y,Ni _ c,q⟩
   ·exact .inr ⟨y,Ni _ c,q⟩
  cases hx:n==m with
  |true =>
   have e:n=m:=by simpa using hx
   subst e;by_cases c:(j==NameKind.free && env.scope.kind==.function && env.kindOf n==some .cell)=true
   ·have:j=.free:=by
     simp only[Ut]at c;exact beq_iff_eq.mp c.1.1
    exact .inl ⟨(n,j),OB,rfl,this⟩
   ·rw[Mj c]at a;simp only[QU,hx]at a;cases a;rcases b with b|b
    ·exact .inr ⟨(n,j),OB,rfl,b⟩
    ·exact .inl ⟨(n,j),OB,rfl,b⟩
  |false =>
   by_cases c:(j==NameKind.free && env.scope.kind==.function && env.kindOf m==some .cell)=true
   ·rw[Ml c]at a;simp only[QU,hx]at a;exact d (i7 a b)
   ·rw[Mj c]at a;simp only[QU,hx]at a;exact d (i7 a b)
def bA(ρ:Ro)(j:Nat):Option Sl:=match ρ[j]? with
 |some (some (.val d))=>some (.val d)
 |_=>none
def eS(a:St)(j:Nat):Option V:=match a[j]? with
 |some (some v)=>some v
 |_=>none
section
variable{X:Cx}{pins:yab}{σ:St}{H:Hp}{s:Shared}{sc:Scope}{ns:yah}{js:yag}{xs:yah}{fp:yae}
def Inv.comp{a:Shared}{c:Hp}{C:Addr}(I:Inv X pins σ H s)(S:CSc X.env.scope sc xs ns)(t:js.length=ns.length/\∀(i:Nat) (j:Nat) (n:Str),js[i]?=some j->ns[i]?=some n->X.N[j]?=some n)(m:∀b∈fp,dY X pins H b)(E:∀b∈fp,∃o,s.heap.get? b=some o)(q:s.heap.objs.size<=C)
  (p:a.os=s.os) (k:AllBare a.gens) (l:∀b o,s.heap.get? b=some o->a.heap.get? b=some o) (G:a.heap.Ns C λ_=>none) (B:c C=none) (hs:av H c) (w:∀b o,s.heap.get? b=some o->H b=none->c b=none) (J:Ox X.prog X.w c a.heap) :
  Inv (aZ X sc ns xs C s H fp XE) [] (List.replicate xs.length none++js.map (eS σ)) c a:=by
 have A:X.env.scope.kind=.function:=I.ok.kind;have r:∀y c,(bR X.env ns).lookup y=some c->X.env.cells.lookup y=some c:=λy c e=>iG e
 have x:∀y c,(bR X.env ns).lookup y=some c->∃v,s.heap.IsCell c v:=λy c e=>I.cell y c (r y c e)
 refine⟨⟨I.ok.mod,S.kind,I.ok.glob,I.ok.blt,q,λy z c d a=>I.ok.inj y z c (r y c d) (r z c a),λy f=>?_,λy c h _=>(by cases h),I.ok.hd,I.ok.frames,.inl rfl,λb g=>?_,I.bs,Pa I.ok.VG I.sz,λb o e g=>?_,λb g z=>?_,I.stack,I.P7⟩,
  p,k,⟨λb o e n _ _=>l b o e,λb o e n _ _=>⟨o.slots,l b o e⟩,λb o e n _=>w b o e n,λb o e _=>⟨o,l b o e⟩,λb xs e=>hs b _ e,λb o u e=>hs b _ e,λb h e=>hs.tb b h e⟩,⟨_,G,λi y v d a h3=>?_⟩,λy c e=>?_,B,λy c e=>?_,λp h=>absurd (show p∈([]:yab)from h) (by simp),J,?_⟩
 ·-- Y1 cell of the block is one of the WG
  have h:∃k,((relabel sc X.env).names.lookup y=some k)/\(k=.cell∨k=.free):=by
   rcases f with f|f
   ·exact⟨_,f,.inl rfl⟩
   ·exact⟨_,f,.inr rfl⟩
  obtain⟨k,d,a⟩:=h;rcases i7 (env:=X.env) d a with⟨z,f,k,h⟩| ⟨z,f,k,h⟩
  ·obtain⟨p,n⟩:=S.free z f h;subst k;obtain⟨c,B⟩:=I.ok.has z.1 (.inl n);exact⟨c,ko p B⟩
  ·exact absurd h (S.Sb z f)
 ·refine⟨λz=>?_,λy c e z=>?_⟩
  ·have n:b=C:=z;obtain⟨o,f⟩:=E b g;have h:=MV f;rw[n]at h;exact absurd (Of h q) (Ru _)
  ·exact(m b g).2.2.2.2.1 y c (r y c e) z
 ·obtain⟨C,p,n,h,B,q⟩:=m b g;rcases h with h|h
  ·exact I.ok.R5 b o e h
  ·exact absurd (Of (MV (I.ok.bs b o e).1) h) (Ru _)
 ·obtain⟨C,p,n,h,B,q⟩:=m b g;rcases MD.mp (I.Pq b z)with e|e
  ·exact p e
  ·exact n e
 ·by_cases g:i<xs.length
  ·rw[RK (by simpa using g),Xe,Ml g]at a;cases a
  ·have h:ns[i - xs.length]?=some y:=by
    have d:(xs++ns)[i]?=some y:=d;rw[RI (by lia)]at d;exact d
   have b:(js.map (eS σ))[i - xs.length]?=some (some v):=by rw[RI (by simpa using g)]at a;simpa using a
   generalize i - xs.length=i at h b;rw[Nj]at b;cases e:js[i]? with
   |none=>rw[e]at b;cases b
   |some j =>
    rw[e]at b;have a:eS σ j=some v:=Pp b;have p:σ[j]?=some (some v):=by
     unfold eS at a;split at a
     ·rename_i u q;cases a;exact q
     ·cases a
    have n:=t.2 i j y e h;have a:y∈ns:=NF h;obtain⟨i,d⟩:=S.cells y a;obtain⟨m,hm,g⟩:=I.loc;obtain⟨u,b,lk⟩:=g j y v n p (.inr (.inl d));refine⟨u,b,?_⟩;rcases lk with⟨h,_⟩| ⟨_,c,k,o,f,b⟩
    ·have g:X.env.scope.names.lookup y=some .local:=h;rw[d]at g;cases g
    ·exact .inr ⟨.inl (iM A i d),c,ko a k,o,l c o f,b⟩
 ·obtain⟨v,z⟩:=x y c e;obtain⟨o,f,b⟩:=z;exact⟨v,o,l c o f,b⟩
 ·obtain⟨v,o,f,b⟩:=x y c e;exact w c o f (I.OD y c (r y c e))
 ·show(List.replicate xs.length none++js.map (eS σ)).length=(xs++ns).length;simp[t.1]
def Tv(X:Cx)(a:yai)(t:DT):Prop :=
 ∀ (pins:yab) (s:Shared) (σ:St) (H:Hp) (W:Own) (b:Ro) (Q:Bool->Prop),Inv X pins σ H s->Rel X W H σ b->t b Q →
  wpAny (model X.prog X.w) X.A (forIn a true λc r=>if r=true then do let ok←isTrue c X.env (eval c X.env);pure (ForInStep.yield ok)else pure (ForInStep.yield r)) (DTP X pins σ H Q) X.xe s
def qA:DT:=λ_ Q=>Q true
def bW{X:Cx}:Tv X [] qA:=λ_ s σ H W ρ Q I r h=>wpAny_tests_nil ⟨H,I,av.refl H,h⟩
def DK{X:Cx}(h:Rj X c t):Tv X [c] t:=λpins s σ H W a Q I r q=>wpAny_tests_one (h pins s σ H W a Q I r q)
def iA(n:Nat)(b ρ:Ro):Prop:=∃a:Ro,a.length=n/\ρ=a++b
def B7{s:Shared}{R:Result->Shared->Prop}{a:Expr}{b:Value}(I:Nat->Shared->Prop)
  (f:∀n s,I n s->wpAny (model prog w) A (pyNext it) (λr k=>match r with
   |none=>R (.ok .next) k
   |some v=>wpAny (model prog w) A (letOwnedTupleGo target it v) (λ_ d=>wpAny (model prog w) A (assign target env v) (λ_ o =>
     wpAny (model prog w) A (forIn ifs true λc r=>if r=true then do let i←isTrue c env (eval c env);pure (ForInStep.yield i)else pure (ForInStep.yield r)) (λi j=>if i=true then wpAny (model prog w) A (eval elt env) (λx l =>
       wpAny (model prog w) A (call (.builtin "list.append") [b,x]) (λ_ g=>∃m,m<n/\I m g) (notedBy (model prog w) A env λe z=>R (.error e) z) l) (notedBy (model prog w) A env λe z=>R (.error e) z) j
      else∃m,m<n/\I m j) (notedBy (model prog w) A env λe z=>R (.error e) z) o) (notedBy (model prog w) A env λe z=>R (.error e) z) d) (notedBy (model prog w) A env λe z=>R (.error e) z) k) (notedBy (model prog w) A env λe z=>R (.error e) z) s)
  (n:Nat) (h:I n s):codeAny (model prog w) A (.compLoop (.ListComp elt [⟨target,a,ifs,0⟩] scope pos) 0 it b env) R s:=by
 refine codeAny_loop rfl I (λm z c=>?_) n h;show wpAny _ A ((compTurn (.ListComp elt [⟨target,a,ifs,0⟩] scope pos) 0 it b env).onRaise (λe=>do noteFrame e env;theTreesLotGoes e)) _ _ z;refine wpAny_noted ?_;rw[compTurn_list];refine Mh (Wi (Mh (P6 (f m z c) (λr z1 a=>?_) λ_ _ q=>q)));cases r with
 |none=>exact Mt a
 |some v =>
  refine Mh (P6 a (λ_ z2 a=>?_) λ_ _ q=>q);refine Mh (P6 a (λ_ z3 g3=>Mh (P6 g3 (λi z4 a=>?_) λ_ _ q=>q)) λ_ _ q=>q);cases i with
  |false=>exact Mt ⟨rfl,a⟩
  |true=>exact Mh (Mh (P6 a (λy z5 a=>Mh (P6 a (λ_ z6 a=>Mt (Mt ⟨rfl,a⟩)) λ_ _ q=>q)) λ_ _ q=>q))
def Rel.mutB{X:Cx}{H:Hp}{σ:St}(r:Rel X W H σ ρ)(g:W.B a)(f:H a=some (.lst vs))(h0:X.MR a=none) :
  Rel X W (L2.upd H a (.lst vs')) σ ρ/\∀ds i,af X.K W.bad H ds i->af X.K W.bad (L2.upd H a (.lst vs')) ds i:=by
 have m:∀b c,MW X.K H b c->MW X.K (L2.upd H a (.lst vs')) b c:=λb c q=>by show L2.upd _ _ _ _=_;rw[aw (gT q f (by intro z;cases z))];exact q
 have l:∀t b c,¬W.bad t b->Oh X.K H t b c->¬W.bad t b/\Oh X.K (L2.upd H a (.lst vs')) t b c:=λt b c n q=>by
  have c:b≠a:=λe=>n (.inl (e ▸ g))
  refine⟨n,?_,λz=>⟨by rw[aw c];exact(q.2 z).1,(q.2 z).2⟩⟩;rcases q.1 with(q|⟨o,q⟩)|q
  ·exact .inl (.inl (by rw[aw c];exact q))
  ·exact .inl (.inr ⟨o,by rw[aw c];exact q⟩)
  ·exact .inr q
 have k:∀b u,Tt u->H b=some u->L2.upd H a (.lst vs') b=some u:=λb u n q=>by rw[aw (gT q f (by intro z;subst z;exact n))];exact q
 have c:∀b o,H b=some o->∃d,L2.upd H a (.lst vs') b=some d:=λb o q=>by
  by_cases d:b=a
  ·subst d;exact⟨_,aI⟩
  ·exact⟨o,by rw[aw d];exact q⟩
 refine⟨⟨λj d h=>?_,λj y h=>?_,r.inj,λj b a=>?_,r.ke,λb a=>let ⟨o,q⟩:=r.bt b a;c b o q,λb a=>let ⟨o,q⟩:=r.st b a;c b o q,r.ent.ins h0 f True.intro True.intro,r.tab.upd True.intro (.inr ⟨_,f,(λ_ z=>by cases z),True.intro⟩)⟩,af.map m l k⟩
 ·obtain⟨v,c,f⟩:=r.val j d h;exact⟨v,c,Den.map m l k d v f⟩
 ·obtain⟨b,o,c,f,n,d⟩:=r.own j y h;exact⟨b,o,c,f,by rw[aw (λe=>(r.kn j b c).2.1.1 (by rw[e];exact g))];exact n,d.map (af.map m l k) λk c q=>⟨q,λi z=>by rw[aw (λe=>(r.kn _ c q).2.1.1 (by rw[e];exact g))];exact z⟩⟩
 ·obtain⟨h,c,o,f,d⟩:=r.kn j b a;exact⟨h,c,o,by rw[aw (λe=>c.1 (by rw[e];exact g))];exact f,d⟩
def Bg(X:Cx)(sc:Scope)(ns:yah)(RR:Value->Addr->Result->Shared->Prop)(D C:Addr):yaa:=notedBy (model X.prog X.w) X.A (compEnvC sc (bR X.env ns) C X.env) λe a=>RR (.ref D) C (.error e) a
def cR.no{X:Cx}:cR X λ_=>False:=λ_ _ _ _ _ _ _ _ _ _ h=>by obtain⟨_,_,_,_,_,_,_,_,_,_,_,_,_,z⟩:=h;exact z.elim
end
abbrev DM:=Ro->(LI->Prop)->Prop
def LC(K:yac)(P:yak)(H H':Hp):LI->V->Prop
 |.own d,v=>∃a c,v=.ref a/\H a=none/\K.lookup a=none/\H' a=some (.lst c)/\af K (λt b=>P t b∨b=a) H' d c
 |.val d,v=>Den K P H' d v
def XH(X:Cx)(e:Expr)(t:DM):Prop :=
 ∀ (a:yab) (s:Shared) (b:St) (H:Hp) (W:Own) (c:Ro) (Q:LI->Prop),Inv X a b H s->Rel X W H b c->t c Q →
  wpAny (model X.prog X.w) X.A (eval e X.env) (λu e=>∃v c d,Inv X a b c e/\RelV v u/\av H c/\LC X.K W.bad H c d v/\Q d) X.xe s
structure gL(K:yac)(H:Hp)(D:Addr)(n:Nat)(bs:yaj):Prop where
 ok:∀k b,bs k=some b->k<n/\H b=none/\K.lookup b=none/\b≠D
 inj:∀k l b,bs k=some b->bs l=some b->k=l
def gL.nil{K:yac}{H:Hp}{D:Addr}{n:Nat}:gL K H D n λ_=>none:=⟨λ_ _ h=>(by cases h),λ_ _ _ h=>(by cases h)⟩
def gL.up{K:yac}{H:Hp}{D:Addr}{n m:Nat}{a:yaj}(h:gL K H D n a)(l:n<=m):gL K H D m a:=⟨λk b q=>let ⟨a,r⟩:=h.ok k b q;⟨Of a l,r⟩,h.inj⟩
def gL.put{K:yac}{H:Hp}{D a:Addr}{c:List LI}{x:LI}{b:yaj}(h:gL K H D c.length b)(n:H a=none)(k:K.lookup a=none)(d:a≠D)(f:∀k,b k=some a->False) :
  gL K H D (c++[x]).length λk=>if k=c.length then some a else b k:=⟨λl b q=>by
  rw[Od,Vu];by_cases e:l=c.length
  ·rw[Ml e]at q;cases q;exact⟨by lia,n,k,d⟩
  ·rw[Mj e]at q;obtain⟨a1,a⟩:=h.ok l b q;exact⟨by lia,a⟩,λl m b d a=>by
  by_cases g:l=c.length
  ·by_cases e:m=c.length
   ·rw[g,e]
   ·rw[Ml g]at d;rw[Mj e]at a;cases d;exact(f m a).elim
  ·by_cases e:m=c.length
   ·rw[Mj g]at d;rw[Ml e]at a;cases a;exact(f l d).elim
   ·rw[Mj g]at d;rw[Mj e]at a;exact h.inj l m b d a⟩
section
variable{K:yac}{P:yak}{H:Hp}{B:yaj}
theorem aA.Qi(f:Den K P H d v):∀{k:Nat} {xs:List LI} {vs:yar},aA K P H B k xs vs->aA K P H B k (xs++[.val d]) (vs++[v])
 |k,[],_,h=>by simp only[aA]at h;subst h;simp only[QV,aA];exact⟨v,[],rfl,f,rfl⟩
 |k,.own ds::r,_,h=>by simp only[aA]at h;obtain⟨b,d,u,rfl,c,a,g,e⟩:=h;simp only[PQ,aA];exact⟨b,d,_,rfl,c,a,g,aA.Qi f e⟩
 |k,.val e::r,_,h=>by simp only[aA]at h;obtain⟨w,u,rfl,c,a⟩:=h;simp only[PQ,aA];exact⟨w,_,rfl,c,aA.Qi f a⟩
theorem aA.Qj{a:Addr}:∀{k:Nat} {xs:List LI} {vs:yar},aA K P H B k xs vs->B (k+xs.length)=some a->H a=some (.lst ws)->af K P H ds ws->aA K P H B k (xs++[.own ds]) (vs++[.ref a])
 |k,[],_,h,d,f,c=>by simp only[aA]at h;subst h;simp only[QV,aA];exact⟨a,ws,[],rfl,by simpa using d,f,c,rfl⟩
 |k,.own es::r,_,h,d,f,c=>by simp only[aA]at h;obtain⟨b,e,u,rfl,g,a,j,i⟩:=h;simp only[PQ,aA];exact⟨b,e,_,rfl,g,a,j,aA.Qj i (by rw[<- d];congr 1;simp;lia) f c⟩
 |k,.val e::r,_,h,d,f,c=>by simp only[aA]at h;obtain⟨w,u,rfl,g,a⟩:=h;simp only[PQ,aA];exact⟨w,_,rfl,g,aA.Qj a (by rw[<- d];congr 1;simp;lia) f c⟩
end
section
variable{X:Cx}
def Rel.ban{o:HO}(r:Rel X W H σ ρ)(c:av H H')(i:H p=none)(d:X.K.lookup p=none)(h':H' p=some o) :
  Rel X ⟨λb=>W.B b∨b=p,W.O,W.S⟩ H' σ ρ/\∀ds vs,af X.K W.bad H ds vs->af X.K (Own.bad ⟨λb=>W.B b∨b=p,W.O,W.S⟩) H' ds vs:=by
 have j:∀t a,Own.bad ⟨λb=>W.B b∨b=p,W.O,W.S⟩ t a->W.bad t a∨a=p:=λt a z=>by
  rcases z with(z|z)|z|z
  ·exact .inl (.inl z)
  ·exact .inr z
  ·exact .inl (.inr (.inl z))
  ·exact .inl (.inr (.inr z))
 have h:∀{t:Bool} {a:Addr} {f:yar},Oh X.K H t a f->a≠p:=fun {t a f} q z=>by
  subst z;rcases q.1 with(q|⟨o,q⟩)|⟨o,Mp,n,q,_⟩
  ·rw[i]at q;cases q
  ·rw[i]at q;cases q
  ·rw[d]at q;cases q
 have l:∀(d:D) (v:V),Den X.K W.bad H d v->Den X.K (Own.bad ⟨λb=>W.B b∨b=p,W.O,W.S⟩) H' d v:=Den.map (λ_ _ q=>MW.same c q) (λt a f n q=>⟨λz=>(j t a z).elim n (h q),q.same c⟩) (λa _ n q=>c.kp a _ q n.nt);have g:∀(ds:yas) (e:yar),af X.K W.bad H ds e->af X.K (Own.bad ⟨λb=>W.B b∨b=p,W.O,W.S⟩) H' ds e:=af.map (λ_ _ q=>MW.same c q) (λt a f n q=>⟨λz=>(j t a z).elim n (h q),q.same c⟩) (λa _ n q=>c.kp a _ q n.nt);refine⟨⟨λj d h=>?_,λj x h=>?_,r.inj,λj a e=>?_,r.ke,λa h=>?_,λa h=>let ⟨_,q⟩:=r.st a h;c.ex q,r.ent.trans c,r.tab.same c⟩,g⟩
 ·obtain⟨w,e,k⟩:=r.val j d h;exact⟨w,e,l d w k⟩
 ·obtain⟨a,f,e,k,l,d⟩:=r.own j x h;exact⟨a,f,e,k,c.kp _ _ l d.S6.nt,d.map g λl b q=>⟨q,λ_ z=>c _ _ z⟩⟩
 ·obtain⟨l,⟨k,g⟩,f,b,d⟩:=r.kn j a e;exact⟨l,⟨λz=>z.elim k λe=>(by subst e;rw[i]at b;cases b),g⟩,f,c.kp _ _ b d.nt,d⟩
 ·rcases h with h|h
  ·obtain⟨_,q⟩:=r.bt a h;exact c.ex q
  ·exact⟨o,h ▸ h'⟩
end
section
variable{X:Cx}{pins:yab}{σ:St}{H:Hp}{s:Shared}{sc:Scope}{ns:yah}{js:yag}{xs:yah}{fp:yae}
def SH(X:Cx)(sc:Scope)(ns xs:yah)(cl:List (Str×Addr))(fn:Str->Bool)(C:Addr)(c:Shared)(b:Hp)(fp:yae)(a:yaa):Cx :=
 {X with N:=xs++ns,ME:=c,MR:=b,env:=compEnvC sc cl C X.env,outer:=X.stack,stack:=X.stack,ex:=fp,fn:=fn,pn:=[],xe:=a}
def eE(X:Cx)(sc:Scope)(cl:List (Str×Addr))(RR:Value->Addr->Result->Shared->Prop)(D C:Addr):yaa:=notedBy (model X.prog X.w) X.A (compEnvC sc cl C X.env) λe a=>RR (.ref D) C (.error e) a
set_option tactic.hygienic true in
def uN{M:Expr}{Nv:Heap}(hc:X.calm=true)
  (he:XH (SH X sc ns xs cl fn C s H fp (eE X sc cl RR w C)) elt te) (ht:Tv (SH X sc ns xs cl fn C s H fp (eE X sc cl RR w C)) ifs tc) (hg:UA (SH X sc ns xs cl fn C s H fp (eE X sc cl RR w C)) tg g) (I:Inv X pins σ H s) (r:Rel X W H σ ρ) (T:Turn X.prog X.w X.K tg J fp it tn) (st:tn 0 s.heap) (RT:∀b∈fp,dY X pins H b) (yd:YD X.K W H J ds) (hz:ds.length<=sizeLine)
  (Pv:Nat->List LI->Prop) (p0:Pv 0 []) (step:∀j d f a,ds[j]?=some d->Pv j f->iA xs.length (js.map (bA ρ)) a->g d a λL=>iA xs.length (js.map (bA ρ)) L/\tc L λb=>if b=true then te L (λe=>Pv (j+1) (f++[e]))else Pv (j+1) f)
  (Y2:∀(O:Shared) (H':Hp) (h:yam) (f:List LI) (A:yaj),Inv X pins σ H' O->av H H'->O.heap.Ns C h->H' C=none->C≠X.env.locals->X.ME.heap.objs.size<=C->(∀y c,X.env.cells.lookup y=some c->c≠C)->(∀p∈X.pn++pins,p.1≠C) →
   (H w=none/\X.K.lookup w=none/\∃vs,H' w=some (.lst vs)/\gL X.K H w f.length A/\(∀k b,A k=some b->∃B,H' b=some (.lst B))/\aA X.K (λt b=>W.bad t b∨b=w∨∃ k,A k=some b) H' A 0 f vs)->Pv ds.length f->RR (.ref w) C (.ok .next) O)
  (Q:H w=none) (XI:X.K.lookup w=none) (Ve:s.heap.objs.size<=w) (Pw:s.heap.objs.size<=C) (old:∀b o,s.heap.get? b=some o->Nv.get? b=some o) (U:∀y c,cl.lookup y=some c->X.env.cells.lookup y=some c∨s.heap.objs.size<=c)
  (I1:Inv (SH X sc ns xs cl fn C s H fp (eE X sc cl RR w C)) [] (List.replicate xs.length none++js.map (eS σ)) (L2.upd H w (.lst [])) {s with heap:=Nv,toks:=s.toks+([]:List (Str×Value)).length}) :
  codeAny (model X.prog X.w) X.A (.compStart (.ListComp elt [⟨tg,M,ifs,0⟩] sc pos) 0 (.ref it) (.ref w) (compEnvC sc cl C X.env)) (RR (.ref w) C) {s with heap:=Nv,toks:=s.toks+([]:List (Str×Value)).length}:=by
 have T1:∀b∈fp,∃o,s.heap.get? b=some o:=λb g=>let ⟨o,e,_⟩:=T.obj 0 s.heap st b g;⟨o,e⟩
 have h:∀{a:Addr} {ws:yar},SqL X.K H a ws->a≠w:=fun {a ws} q z=>by
  subst z;rcases q with(q|⟨o,q⟩)|⟨o,Mp,n,q,_⟩
  ·rw[Q]at q;cases q
  ·rw[Q]at q;cases q
  ·rw[XI]at q;cases q
 let E:Own:=⟨λa=>W.bad false a∨a=w,λ_=>none,W.S⟩
 have Pu:∀t a,E.bad t a↔(W.bad t a∨a=w):=λt a=>⟨λz=>by
  rcases z with(z|z)|⟨_,q⟩| ⟨z1,z2⟩
  ·exact .inl (Own.Q0 z)
  ·exact .inr z
  ·cases q
  ·exact .inl (.inr (.inr ⟨z1,z2⟩)),λz=>by
  rcases z with z|z
  ·rcases z with z|z|z
   ·exact .inl (.inl (.inl z))
   ·exact .inl (.inl (.inr (.inl z)))
   ·exact .inr (.inr z)
  ·exact .inl (.inr z)⟩
 have hT:∀{H':Hp},av H H'->∀a vs,MW X.K H a vs->MW X.K H' a vs:=λl a vs q=>MW.same l q
 have hL:∀{H':Hp},av H H'->∀t a vs,¬W.bad t a->Oh X.K H t a vs->¬E.bad t a/\Oh X.K H' t a vs:=λl t a vs n q=>⟨λz=>((Pu t a).mp z).elim n (h q.1),q.same l⟩
 have Y:Rel (SH X sc ns xs cl fn C s H fp (eE X sc cl RR w C)) E (L2.upd H w (.lst [])) (List.replicate xs.length none++js.map (eS σ)) (List.replicate xs.length none++js.map (bA ρ)):=by
  have l:av H (L2.upd H w (.lst [])):=av.upd Q;have N:∀{i:Nat} {z:Sl},(List.replicate xs.length none++js.map (bA ρ))[i]?=some (some z)->¬i<xs.length/\(js.map (bA ρ))[i - xs.length]?=some (some z):=fun {i z} h=>by
   by_cases J:i<xs.length
   ·rw[RK (by simpa using J),Xe,Ml J]at h;cases h
   ·rw[RI (by simpa using J)]at h;exact⟨J,by simpa using h⟩
  refine⟨λi d h=>?_,λi x h=>?_,λi j a h _=>(by cases h),λi a h=>(by cases h),λi a h=>(by cases h),λa h=>?_,λa h=>?_,l,r.tab.same l⟩
  ·obtain⟨J,m⟩:=N h;rw[Nj]at m;cases e:js[i - xs.length]? with
   |none=>rw[e]at m;cases m
   |some j =>
    rw[e]at m;have G:bA ρ j=some (.val d):=Pp m;have h5:ρ[j]?=some (some (.val d)):=by
     unfold bA at G;split at G
     ·rename_i u q;cases G;exact q
     ·cases G
    obtain⟨v,e1,e2⟩:=r.val j d h5;refine⟨v,?_,Den.map (hT l) (hL l) (λa _ n q=>l.kp a _ q n.nt) d v e2⟩;rw[RI (by simpa using J)];show(js.map (eS σ))[i - (List.replicate xs.length (none:Option V)).length]?=some (some v);rw[X8,Nj,e];show some (eS σ j)=some (some v);unfold eS;rw[e1]
  ·obtain⟨J,m⟩:=N h;rw[Nj]at m;cases e:js[i - xs.length]? with
   |none=>rw[e]at m;cases m
   |some j =>
    rw[e]at m;have G:bA ρ j=some (.ob x):=Pp m;unfold bA at G;split at G<;>cases G
  ·rcases h with h|h
   ·obtain⟨o,q⟩:=r.tracked false a h;exact l.ex q
   ·rw[h];exact⟨_,aI⟩
  ·obtain⟨o,q⟩:=r.st a h;exact l.ex q
 have T6:∀{H':Hp},(∀b∈fp,H' b=none)->∀b∈fp,dY (SH X sc ns xs cl fn C s H fp (eE X sc cl RR w C)) [] H' b:=λhn b g=>by
  obtain⟨f0,r,f2,N,m,J⟩:=RT b g;obtain⟨o,j⟩:=T1 b g;refine⟨hn b g,λz=>?_,λz=>?_,.inl g,λy c e z=>(U y c e).elim (λe=>m y c e z) λq=>absurd (MV j) (by rw[<- z];exact Sy.mpr q),λp hp=>absurd (show p∈([]:yab)from hp) (by simp)⟩
  ·have z':b=C:=z;have U:=MV j;rw[z']at U;exact absurd (Of U Pw) (Ru _)
  ·rcases MD.mp (I.Pq b z)with e|e
   ·exact r e
   ·exact f2 e
 have Ts:∀b∈fp,(b∈X.ex∨X.ME.heap.objs.size<=b)/\b≠X.env.locals/\(∀x c,X.env.cells.lookup x=some c->c≠b)/\∀p∈X.pn++pins,p.1≠b:=λb g=>by obtain⟨f0,r,f2,N,m,J⟩:=RT b g;exact⟨N,r,m,J⟩
 have BD0:E.B w:=.inr rfl;have J:∀m:Shared,m={s with heap:=Nv,toks:=s.toks+([]:List (Str×Value)).length} →
   codeAny (model X.prog X.w) X.A (.compLoop (.ListComp elt [⟨tg,M,ifs,0⟩] sc pos) 0 (.ref it) (.ref w) (compEnvC sc cl C X.env)) (RR (.ref w) C) m:=by
  rintro m rfl;refine B7 (λn O=>∃(i:Nat) (N:Own) (U9:St) (L:Ro) (H':Hp) (f:List LI) (vs:yar) (A:yaj),n=ds.length - i/\i<=ds.length/\Inv (SH X sc ns xs cl fn C s H fp (eE X sc cl RR w C)) [] U9 H' O/\tn i O.heap/\(∀b∈fp,H' b=none) ∧
   H' w=some (.lst vs)/\(N.B=(λa=>E.B a∨∃ k,A k=some a)/\N.S=E.S)/\gL X.K H w f.length A/\(∀k b,A k=some b->∃B,H' b=some (.lst B))/\aA X.K N.bad H' A 0 f vs/\av H H'/\Rel (SH X sc ns xs cl fn C s H fp (eE X sc cl RR w C)) N H' U9 L/\iA xs.length (js.map (bA ρ)) L/\Pv i f/\f.length<=i) ?_ ds.length
   ⟨0,E,_,_,_,[],[],λ_=>none,by simp,N9 _,I1,T.keep 0 s.heap Nv st (λb g o e=>old b o e),λb g=>?_,aI,⟨by funext a;simp,rfl⟩,gL.nil,(λ_ _ h=>by cases h),by simp only[aA],av.upd Q,Y,⟨_,by simp,rfl⟩,p0,MS _⟩
  rotate_left
  ·obtain⟨o,j⟩:=T1 b g;rw[aw (λz=>absurd (MV j) (by rw[z];exact Sy.mpr Ve))];exact(RT b g).1
  rintro n s3 ⟨i,N,U9,L,H3,f,vs,A,en,hle,I3,YO,YQ,hD3,x,O,hls,Y3,Y4,rl3,cap3,p3,ol⟩;have r:∀{j:Own} {H':Hp} {m:St} {M:Ro},(j.B=(λa=>E.B a∨∃ k,A k=some a)/\j.S=E.S)->Rel (SH X sc ns xs cl fn C s H fp (eE X sc cl RR w C)) j H' m M->av H H'->∀t a vs,¬W.bad t a->Oh X.K H t a vs->¬j.bad t a/\Oh X.K H' t a vs:=fun {j H' m M} hw rl l t a vs n q=>by
   refine⟨λz=>?_,q.same l⟩;rcases z with z|⟨k,z⟩| ⟨z1,z2⟩
   ·rw[hw.1]at z;rcases z with z|⟨k,z⟩
    ·exact(hL l t a vs n q).1 (.inl z)
    ·obtain⟨_,M,Y,_⟩:=O.ok k a z;rcases q.1 with(j|⟨o,j⟩)|⟨o,Mp,m,j,_⟩
     ·rw[M]at j;cases j
     ·rw[M]at j;cases j
     ·rw[Y]at j;cases j
   ·have M:H a=none:=rl.ke k a z;rcases q.1 with(j|⟨o,j⟩)|⟨o,Mp,m,j,_⟩
    ·rw[M]at j;cases j
    ·rw[M]at j;cases j
    ·have Y:X.K.lookup a=none:=(rl.kn k a z).1;rw[Y]at j;cases j
   ·rw[hw.2]at z2;exact(hL l t a vs n q).1 (.inr (.inr ⟨z1,z2⟩))
  obtain⟨j,l,ys⟩:=yd N.bad H3 (hT Y4) (r x rl3 Y4) (λa _ n q=>Y4.kp a _ q n.nt) i;by_cases U:i<ds.length
  ·refine Mw (T.item (SH X sc ns xs cl fn C s H fp (eE X sc cl RR w C)) rfl rfl rfl hc i [] s3 _ H3 _ I3 (T6 YQ) YO (j U)) λrr s4 ⟨u,hr,G⟩=>?_
   subst hr;refine Mw G λ_ s5 r=>?_
   obtain⟨x5,H5,I5,r5,G,Wz,j⟩:=r;obtain⟨Y,d,hd,Oa⟩:=l x5 H5 G U;have G:=I5.pinned (T6 j) (T.obj _ _ Wz);have VO:=rl3.same Y;have l:av H H5:=Y4.trans Y;refine P6 (hg _ s5 U9 H5 N L d x5 u _ G VO r5 Oa (step i d f L hd p3 cap3)) (λ_ s6 r=>?_) (λ_ _ z=>z);obtain⟨j,YR,H6,YS,I6,u,Y5,Y6,q6⟩:=r;have Y7:j.B=(λa=>E.B a∨∃ k,A k=some a)/\j.S=E.S:=⟨u.B.trans x.1,u.S.trans x.2⟩;have G:av H H6:=⟨λb o e n=>u.kp b o (λk z=>by have M:H b=none:=VO.ke k b z;rw[e]at M;cases M) (l.kp b o e n) n,(λb n e=>by obtain⟨L,e1⟩:=l.tb b n e;obtain⟨n,e2⟩:=u.tb b _ e1;exact⟨L++n,by rw[e2,Yd]⟩),λh=>u.ok (l.ok h)⟩;have BD:E.B w:=.inr rfl;have L:H6 w=some (.lst vs):=u.keep w _ (λk z=>(VO.kn k w z).2.1.1 (by rw[x.1];exact .inl BD)) (Y _ _ hD3);have h:aA X.K N.bad H5 A 0 f vs:=Y3.map (λ_ _ z=>z.same Y) λ_ _ q=>⟨q,λ_ z=>Y _ _ z⟩
   have WI:∀k b,A k=some b->∃B,H6 b=some (.lst B):=λk b q=>let ⟨B,z⟩:=hls k b q;⟨B,u.keep b _ (λl y=>(VO.kn l b y).2.1.1 (by rw[x.1];exact .inr ⟨k,q⟩)) (Y _ _ z)⟩
   have N:aA X.K j.bad H6 A 0 f vs:=h.map (λ_ _ z=>af.fwd VO Y5 u z) λk b q=>⟨q,λB z=>u.keep b _ (λl y=>(VO.kn l b y).2.1.1 (by rw[x.1];exact .inr ⟨k,q⟩)) z⟩
   have VQ:∀{h:St} {u:Hp} {n:Shared},Inv (SH X sc ns xs cl fn C s H fp (eE X sc cl RR w C)) ([]++sI fp s5.heap) h u n->tn (i+1) n.heap/\∀b∈fp,u b=none:=fun {h u n} l=>by refine⟨T.keep _ _ _ Wz λb g o e=>(l.pin (b,o) (P4 _ (P4 _ (jT g e)))).1,λb g=>?_⟩;obtain⟨o,e,_⟩:=T.obj _ _ Wz b g;exact(l.pin (b,o) (P4 _ (P4 _ (jT g e)))).2.1
   refine P6 (ht _ s6 _ H6 j _ _ I6 Y5 q6) (λb n r=>?_) (λ_ _ z=>z);obtain⟨u,l,h,M⟩:=r;cases b with
   |false =>
    rw[Mj QB]at M;rw[Mj QB];obtain⟨Y,f7⟩:=VQ l;exact⟨ds.length - (i+1),by lia,i+1,j,YR,YS,u,f,vs,A,rfl,U,l.OE,Y,f7,h _ _ L,Y7,O,(λk b q=>let ⟨B,z⟩:=WI k b q;⟨B,h _ _ z⟩),N.map (λ_ _ z=>z.same h) (λ_ _ q=>⟨q,λ_ z=>h _ _ z⟩),G.trans h,Y5.same h,Y6,M,by lia⟩
   |true =>
    rw[Ml rfl]at M;rw[Ml rfl];refine P6 (he _ n _ u j _ _ l (Y5.same h) M) (λu8 s8 r=>?_) (λ_ _ z=>z);obtain⟨M,H8,e8,I8,r8,Y,hd8,q8⟩:=r;have Vf:=h.trans Y;have n:=Vf _ _ L;have l:=Y5.same h;have WJ:aA X.K j.bad u A 0 f vs:=N.map (λ_ _ z=>z.same h) λ_ _ q=>⟨q,λ_ z=>h _ _ z⟩
    have smH:av H H8:=G.trans Vf;obtain⟨u,N,hW8,WK,hls8,rl8,hds8,Y9⟩:∃(u:Own) (N:yaj),(u.B=(λa=>E.B a∨∃ k,N k=some a)/\u.S=E.S)/\gL X.K H w (f++[e8]).length N/\(∀k b,N k=some b->∃B,H8 b=some (.lst B))/\Rel (SH X sc ns xs cl fn C s H fp (eE X sc cl RR w C)) u H8 YR YS/\aA X.K u.bad H8 N 0 (f++[e8]) (vs++[M])/\vs.length=f.length:=by
     have ln:=WJ.len;cases e8 with
     |val d =>
      refine⟨j,A,Y7,O.up (by simp),(λk b q=>let ⟨B,z⟩:=WI k b q;⟨B,Vf _ _ z⟩),l.same Y,?_,ln⟩;exact(WJ.map (λ_ _ z=>z.same Y) λ_ _ q=>⟨q,λ_ z=>Y _ _ z⟩).Qi hd8
     |own RQ =>
      obtain⟨a,ws,rfl,d,ka,E,Sa⟩:=hd8;obtain⟨rb,db⟩:=l.ban Y d ka E;have nH:H a=none:=(G.trans h).free d;have G:a≠w:=λz=>by rw[z,h _ _ L]at d;cases d
      refine⟨⟨λb=>j.B b∨b=a,j.O,j.S⟩,λk=>if k=f.length then some a else A k,⟨?_,Y7.2⟩,O.put nH ka G (λk z=>?_),(λk b q=>?_),rb,?_,ln⟩
      ·funext b
       show(j.B b∨b=a)=_;rw[Y7.1];refine propext ⟨λz=>?_,λz=>?_⟩
       ·rcases z with(z|⟨k,z⟩)|z
        ·exact .inl z
        ·exact .inr ⟨k,by show(if k=f.length then some a else A k)=some b;rw[Mj (NG (O.ok k b z).1)];exact z⟩
        ·exact .inr ⟨f.length,by show(if f.length=f.length then some a else A f.length)=some b;rw[Ml rfl,z]⟩
       ·rcases z with z|⟨k,z⟩
        ·exact .inl (.inl z)
        ·have z:(if k=f.length then some a else A k)=some b:=z;by_cases h:k=f.length
         ·rw[Ml h]at z;cases z;exact .inr rfl
         ·rw[Mj h]at z;exact .inl (.inr ⟨k,z⟩)
      ·obtain⟨o,j⟩:=l.bt a (by rw[Y7.1];exact .inr ⟨k,z⟩);rw[j]at d;cases d
      ·have q:(if k=f.length then some a else A k)=some b:=q;by_cases h:k=f.length
       ·rw[Ml h]at q;cases q;exact⟨_,E⟩
       ·rw[Mj h]at q;obtain⟨B,z⟩:=WI k b q;exact⟨B,Vf _ _ z⟩
      ·refine aA.Qj (WJ.map (B':=λk=>if k=f.length then some a else A k) (λds vs z=>db ds vs z) λk b q=>⟨by show(if k=f.length then some a else A k)=some b;rw[Mj (NG (O.ok k b q).1)];exact q,λ_ z=>Y _ _ z⟩) (by simp) E (Sa.My λt b z=>?_);rcases z with(z|z)|z|z
       ·exact .inl (.inl z)
       ·exact .inr z
       ·exact .inl (.inr (.inl z))
       ·exact .inl (.inr (.inr z))
    have j:u.B w:=by rw[hW8.1];exact .inl BD
    refine P6 (oH (X:=SH X sc ns xs cl fn C s H fp (eE X sc cl RR w C)) _ s8 _ H8 (.ref w) [M] (.ref w) [u8] (λ_ H'=>H'=L2.upd H8 w (.lst (vs++[M]))) I8 rfl (.cons r8 .nil) ⟨w,vs,M,rfl,rfl,n,by rw[Y9];lia,rfl⟩) (λ_ s9 r=>?_) (λ_ _ z=>z);obtain⟨v9,H9,l,_,d⟩:=r;subst d;obtain⟨E,G⟩:=VQ l;obtain⟨d,h⟩:=rl8.mutB (vs':=vs++[M]) j n Q;exact⟨ds.length - (i+1),by lia,i+1,u,YR,YS,_,f++[e8],vs++[M],N,rfl,U,l.OE,E,G,aI,hW8,WK,(λk b q=>let ⟨B,z⟩:=hls8 k b q;⟨B,by rw[aw (WK.ok k b q).2.2.2];exact z⟩),hds8.map h (λk b q=>⟨q,λB z=>by rw[aw (WK.ok k b q).2.2.2];exact z⟩),smH.ins Q n True.intro True.intro,d,Y6,q8,by rw[Od,Vu];lia⟩
  ·have e:i=ds.length:=by lia
   refine Mw (T.done (SH X sc ns xs cl fn C s H fp (eE X sc cl RR w C)) rfl rfl rfl hc i [] s3 _ H3 _ I3 (T6 YQ) YO (ys (by lia))) λrr s4 r=>?_
   obtain⟨hr,d⟩:=r;subst hr;subst e;have i:Inv X pins σ H3 s4:=I.TP d.os d.base d.MF d.bare Ts;obtain⟨m,h,_⟩:=d.loc;exact Y2 s4 H3 m f A i Y4 h d.free (λz=>absurd I.lt (by rw[<- z];exact Sy.mpr Pw)) (Pa I.sz Pw) (λy c e z=>by
    obtain⟨v,q⟩:=I.cell y c e;exact absurd q.lt (by rw[z];exact Sy.mpr Pw)) (λp hp z=>absurd (MV (I.pin p hp).1) (by rw[z];exact Sy.mpr Pw))
    ⟨Q,XI,_,hD3,O,hls,Y3.map (λ_ _ z=>z.My λt a z=>(by
     rcases z with z|z
     ·rcases(Pu t a).mpr (.inl z)with q|⟨k,q⟩| q
      ·exact .inl (by rw[x.1];exact .inl q)
      ·cases q
      ·exact .inr (.inr ⟨q.1,by rw[x.2];exact q.2⟩)
     ·rcases z with z|z
      ·exact .inl (by rw[x.1];exact .inl (z ▸ BD0))
      ·exact .inl (by rw[x.1];exact .inr z))) λ_ _ q=>⟨q,λ_ z=>z⟩⟩ p3
 exact codeAny_compStart_list (J _ rfl) (T.self _ 0 _ _ _ (T.keep 0 s.heap Nv st (λb g o e=>old b o e)) (J _ rfl))
set_option tactic.hygienic true in
def lA{u m x:Expr}{q:yai}{pos:Pos}{g:DG}{te:DM}{tc:DT}{W:Own}{ρ:Ro}{J:It}{B:Addr}{tn:Nat->Heap->Prop}{ds:yas}{E:yaa}{RR:Value->Addr->Result->Shared->Prop}(hc:X.calm=true)(S:CSc X.env.scope sc xs ns)
  (hj:js.length=ns.length/\∀(i:Nat) (j:Nat) (n:Str),js[i]?=some j->ns[i]?=some n->X.N[j]?=some n)
  {Ed:Value->Prop} (he:∀(C:Addr) (l:Shared) (h:Hp) (fp:yae) (f:yaa),cR (aZ X sc ns xs C l h fp f) Ed->XH (aZ X sc ns xs C l h fp f) u te) (ht:∀(C:Addr) (l:Shared) (h:Hp) (fp:yae) (f:yaa),cR (aZ X sc ns xs C l h fp f) Ed->Tv (aZ X sc ns xs C l h fp f) q tc)
  (G:∀D C:Addr,cR (aZ X sc ns xs C s H fp (Bg X sc ns RR D C)) Ed) (I:Inv X pins σ H s) (r:Rel X W H σ ρ) (hg:∀(C:Addr) (l:Shared) (h:Hp) (fp:yae) (f:yaa),UA (aZ X sc ns xs C l h fp f) x g) (T:Turn X.prog X.w X.K x J fp B tn) (st:tn 0 s.heap) (N:∀b∈fp,dY X pins H b) (O:YD X.K W H J ds) (hz:ds.length<=sizeLine)
  (Pv:Nat->List LI->Prop) (U:Pv 0 []) (step:∀j d a M,ds[j]?=some d->Pv j a->iA xs.length (js.map (bA ρ)) M->g d M λA=>iA xs.length (js.map (bA ρ)) A/\tc A λb=>if b=true then te A (λe=>Pv (j+1) (a++[e]))else Pv (j+1) a)
  (Y2:∀(D C:Addr) (z:Shared) (H':Hp) (Y:yam) (a:List LI) (w:yaj),Inv X pins σ H' z->av H H'->z.heap.Ns C Y->H' C=none->C≠X.env.locals->X.ME.heap.objs.size<=C->(∀y c,X.env.cells.lookup y=some c->c≠C)->(∀p∈X.pn++pins,p.1≠C) →
   (H D=none/\X.K.lookup D=none/\∃vs,H' D=some (.lst vs)/\gL X.K H D a.length w/\(∀k b,w k=some b->∃Q,H' b=some (.lst Q))/\aA X.K (λt b=>W.bad t b∨b=D∨∃ k,w k=some b) H' w 0 a vs)->Pv ds.length a->RR (.ref D) C (.ok .next) z) :
  wpAny (model X.prog X.w) X.A (newList []) (λo OZ=>wpAny (model X.prog X.w) X.A (newFunctionEnv sc X.env.globals (bR X.env ns) [] X.env.qual none .none (some X.env)) (λL T5 =>
   codeAny (model X.prog X.w) X.A (.compStart (.ListComp u [⟨x,m,q,0⟩] sc pos) 0 (.ref B) o {L with scope:=relabel sc X.env}) (RR o L.locals) T5) E OZ) E s:=by
 refine SO (wpAny_newFunctionEnv S.Sb (by intro y a;simp at a) (λh w f=>?_) S.kind);dsimp only at w f ⊢;generalize Tc:s.heap.push {cls:=.type "list", dict:=none,data:=.seq ([]:yad).toArray}=HP at w f ⊢;have l:HP.objs.size=s.heap.objs.size+1:=by rw[<- Tc,TM]
 have p:s.heap.objs.size≠HP.objs.size:=by rw[l];exact NG (QL _)
 have A:s.heap.objs.size<=HP.objs.size:=by rw[l];exact Nat.le_succ _
 have d:∀b,b<s.heap.objs.size->b≠HP.objs.size:=λb j=>by rw[l];exact NG (UP j)
 have a:∀b o,s.heap.get? b=some o->h.get? b=some o:=λb o e=>f.extBut b o (d b (MV e)) (Nd _ (Tc ▸ Nd _ e))
 have M:h.get? s.heap.objs.size=some {cls:=.type "list", data:=.seq ([]:yad).toArray}:=f.extBut _ _ p (Nd _ (Tc ▸ OI _ rfl));generalize eD:s.heap.objs.size=D at p M;generalize eC:HP.objs.size=C at *;have L:H D=none:=by rw[<- eD];exact I.MF.fresh (MS _)
 have Q:X.K.lookup D=none:=by rw[<- eD];exact Inv.NA I
 have k:H C=none:=I.MF.fresh A;have T1:∀b∈fp,∃o,s.heap.get? b=some o:=λb j=>let ⟨o,e,_⟩:=T.obj 0 s.heap st b j;⟨o,e⟩
 have t:s.heap.objs.size<=D:=Nat.le_of_eq eD;have i:Ox X.prog X.w (L2.upd H D (.lst [])) h:=I.MF.laid a t ⟨N9 _,[],0,.nil,M⟩;have Y:∀o,L2.upd H D o C=none:=λo=>by rw[aw (Ne.symm p)];exact k
 have I1:Inv (aZ X sc ns xs C s H fp (Bg X sc ns RR D C)) [] (List.replicate xs.length none++js.map (eS σ)) (L2.upd H D (.lst [])) {s with heap:=h,toks:=s.toks+([]:List (Str×Value)).length} :=
  Inv.comp I S hj N T1 A rfl I.bare a w (Y _) (av.upd L) (λb o e n=>by rw[aw (λz=>absurd (MV e) (by rw[z];exact Sy.mpr t))];exact n) i
 exact uN (cl:=bR X.env ns) (fn:=λ_=>false) hc (he C s H fp _ (G D C)) (ht C s H fp _ (G D C)) (hg C s H fp _) I r T st N O hz Pv U step (Y2 D C) L Q t A a (λy c e=>.inl (iG e)) I1
end
theorem aA.vals{K:yac}{P:yak}{H:Hp}{B:yaj}:∀{ds:yas} {k:Nat} {vs:yar},aA K P H B k (ds.map .val) vs->af K P H ds vs
 |[],_,_,h=>by simp only[Sv,aA]at h;subst h;exact af.nil
 |d::r,_,_,h=>by simp only[MN,aA]at h;obtain⟨v,u,rfl,b,a⟩:=h;exact af.cons b a.vals
def Cm(h:MI X e te):XH X e λρ Q=>te ρ λd=>Q (.val d):=λa s b H W ρ Q I r t=>P6 (h a s b H W ρ _ I r t) (λ_ _ e=>(by obtain⟨v,f,d,a,b,c,q,z⟩:=e;exact⟨v,f,.val d,a,b,c,q,z⟩)) λ_ _ z=>z
section
variable{X:Cx}{pins:yab}{σ:St}{H:Hp}{s:Shared}{sc:Scope}{ns:yah}{js:yag}{xs:yah}{fp:yae}
def gO{o k x:Expr}{l:yai}{pos:Pos}{g:DG}{te:DE}{tc:DT}{W:Own}{ρ:Ro}{J:It}{B:Addr}{tn:Nat->Heap->Prop}{ds:yas}{E:yaa}{RR:Value->Addr->Result->Shared->Prop}(hc:X.calm=true)(S:CSc X.env.scope sc xs ns)
  (U:js.length=ns.length/\∀(i:Nat) (j:Nat) (n:Str),js[i]?=some j->ns[i]?=some n->X.N[j]?=some n)
  {Ed:Value->Prop} (he:∀(C:Addr) (m:Shared) (h:Hp) (fp:yae) (f:yaa),cR (aZ X sc ns xs C m h fp f) Ed->MI (aZ X sc ns xs C m h fp f) o te) (O:∀(C:Addr) (m:Shared) (h:Hp) (fp:yae) (f:yaa),cR (aZ X sc ns xs C m h fp f) Ed->Tv (aZ X sc ns xs C m h fp f) l tc)
  (N:∀D C:Addr,cR (aZ X sc ns xs C s H fp (Bg X sc ns RR D C)) Ed) (I:Inv X pins σ H s) (r:Rel X W H σ ρ) (Y:∀(C:Addr) (m:Shared) (h:Hp) (fp:yae) (f:yaa),UA (aZ X sc ns xs C m h fp f) x g) (T:Turn X.prog X.w X.K x J fp B tn) (st:tn 0 s.heap) (RT:∀b∈fp,dY X pins H b) (L:YD X.K W H J ds) (hz:ds.length<=sizeLine)
  (Pv:Nat->yas->Prop) (M:Pv 0 []) (step:∀j d a w,ds[j]?=some d->Pv j a->iA xs.length (js.map (bA ρ)) w->g d w λA=>iA xs.length (js.map (bA ρ)) A/\tc A λb=>if b=true then te A (λe=>Pv (j+1) (a++[e]))else Pv (j+1) a)
  (Y2:∀(D C:Addr) (u:Shared) (H':Hp) (z:yam) (a:List PD.D),Inv X pins σ H' u->av H H'->u.heap.Ns C z->H' C=none->C≠X.env.locals->X.ME.heap.objs.size<=C->(∀y c,X.env.cells.lookup y=some c->c≠C)->(∀p∈X.pn++pins,p.1≠C) →
   (H D=none/\X.K.lookup D=none/\∃vs,H' D=some (.lst vs)/\af X.K (λt b=>W.bad t b∨b=D) H' a vs)->Pv ds.length a->RR (.ref D) C (.ok .next) u) :
  wpAny (model X.prog X.w) X.A (newList []) (λq OZ=>wpAny (model X.prog X.w) X.A (newFunctionEnv sc X.env.globals (bR X.env ns) [] X.env.qual none .none (some X.env)) (λG Q =>
   codeAny (model X.prog X.w) X.A (.compStart (.ListComp o [⟨x,k,l,0⟩] sc pos) 0 (.ref B) q {G with scope:=relabel sc X.env}) (RR q G.locals) Q) E OZ) E s:=by
 have e:∀k l,(∃q,l.map LI.val=q.map LI.val/\Pv k q)=Pv k l:=λk l=>propext ⟨λc=>(by obtain⟨q,a,b⟩:=c;exact(List.map_inj_right (λ_ _=>LI.val.inj)).mp a ▸ b),λb=>⟨l,rfl,b⟩⟩
 refine lA (te:=λρ Q=>te ρ λd=>Q (.val d)) hc S U (λC m h fp f p=>Cm (he C m h fp f p)) O N I r Y T st RT L hz (λk o=>∃q,o=q.map LI.val/\Pv k q) ⟨[],rfl,M⟩ ?_ ?_
 ·rintro j d _ w c ⟨q,rfl,a⟩ cr;have f:∀x,q.map LI.val++[LI.val x]=(q++[x]).map LI.val:=λx=>by rw[OC];rfl
  simp only[f,e];exact step j d q w c a cr
 ·rintro D C u H' z _ bs n c m l k j i h ⟨g,f,vs,e,_,_,d⟩ ⟨q,rfl,a⟩;exact Y2 D C u H' z q n c m l k j i h ⟨g,f,vs,e,d.vals.My λt b z=>z.elim .inl λz=>.inr (.inl z)⟩ a
def ky{X:Cx}{sc:Scope}{ns:yah}{x:Str}{fp:yae}(S:CSc X.env.scope sc [x] ns):UA (aZ X sc ns [x] C Mm Mo fp XE) (.Name x px) (kx 0) :=
 have a:(compEnvC sc (bR X.env ns) C X.env).scope.names.lookup x=some .local:=lookup_relabel_local (S.Y0 x (by simp))
 aS (X:=aZ X sc ns [x] C Mm Mo fp XE) 0 S.nd rfl (.inl a) (.inr a)
def vP{ds:yas}{Pv:Nat->yas->Prop}{tc:DT}{te:DE}{a:Ro}(step:∀j d c,ds[j]?=some d->Pv j c->tc (some (.val d)::a) λb=>if b=true then te (some (.val d)::a) (λe=>Pv (j+1) (c++[e]))else Pv (j+1) c) :
  ∀ j d c f,ds[j]?=some d->Pv j c->iA 1 a f->kx 0 d f λg=>iA 1 a g/\tc g λb=>if b=true then te g (λe=>Pv (j+1) (c++[e]))else Pv (j+1) c:=by
 rintro j d c f f b ⟨a,e,rfl⟩
 match a,e with
 |[a],_=>exact⟨⟨[some (.val d)],rfl,rfl⟩,step j d c f b⟩
def kS(wi:DA)(js:yag)(tc:DT)(te:DE):DE:=λc Q=>wi c λf=>f.length<=sizeLine/\∃Pv:Nat->yas->Prop,Pv 0 [] ∧
 (∀j d a,f[j]?=some d->Pv j a->tc (some (.val d)::js.map (bA c)) λb=>if b=true then te (some (.val d)::js.map (bA c)) (λe=>Pv (j+1) (a++[e]))else Pv (j+1) a)/\∀a,Pv f.length a->Q (.lst true a)
def aX(N:yah)(ns:yah)(js:yag):Prop:=js.length=ns.length/\∀(i:Nat) (j:Nat) (n:Str),js[i]?=some j->ns[i]?=some n->N[j]?=some n
def aX.nil:aX N [] []:=⟨rfl,λi j n h=>by simp at h⟩
def aX.cons{ns:yah}{js:yag}{n:Str}(j:Nat)(h:aX N ns js)(e:N[j]?=some n:=by rfl):aX N (n::ns) (j::js):=⟨by simp[h.1],λi c m b a=>by
 cases i with
 |zero=>simp at b a;subst b a;exact e
 |succ i=>exact h.2 i c m (by simpa using b) (by simpa using a)⟩
variable{elt iter:Expr}{ifs:yai}{px pos:Pos}{te:DE}{tc:DT}{wi:DA}{x:Str}
def dq(n:X.calm=true)(S:CSc X.env.scope sc [x] ns)(l:aX X.N ns js)(e:QR X (.Name x px) iter wi)(k:∀(C:Addr) (c:Shared) (b:Hp) (fp:yae) (a:yaa),Tv (aZ X sc ns [x] C c b fp a) ifs tc)
  (m:∀(C:Addr) (c:Shared) (b:Hp) (fp:yae) (a:yaa),MI (aZ X sc ns [x] C c b fp a) elt te) (f:closureFor sc X.env=pure (bR X.env ns):=by rfl) (hs:∀x,foldedSetIterable iter X.env x=pure x:=by intro _;rfl) :
  MI X (.ListComp elt [⟨.Name x px,iter,ifs,0⟩] sc pos) (kS wi js tc te):=by
 intro pins s σ H W d Q I r h;rw[eval_ListComp];refine Vt (use:=none) rfl hs f S.kind S.names (Mw (e pins s σ H W d _ I r h) λv s1 d=>Mw d λRz s2 g=>?_);obtain⟨it,fp,tn,J,H2,ds,e,q,f,T,p,o,h,j,Pv,i,step,d⟩:=g;subst e;refine gO (RR:=λg C=>compPost (model X.prog X.w) X.A X.xe none (DP X pins σ W H Q) g C) n S l (Ed:=λ_=>False) (λC c b fp a _=>m C c b fp a) (λC c b fp a _=>k C c b fp a) (λ_ _=>cR.no) q (r.same f) (λC c b fp a=>ky S) T p o h j Pv i (vP step) ?_;intro D C g b h a w c o q p m n l ⟨i,j,vs,k,u⟩ pv;have t:Den X.K W.bad b (.lst true a) (.ref D):=Den.lst ((r.same f).fresh i) (.new k j) (u.My λ_ _ z=>.inl z);refine⟨h,o,λh' h=>?_⟩;exact⟨.ref D,b,_,w.turned (t':=g.toks) (λb o g e=>(h.2 b g).trans e) q p (.inr m) n l,rfl,f.trans c,t,d a pv⟩
def gR{y:Str}{d:Pos}(i:Nat)(u:X.N.Nodup)(t:X.calm=true)(S:CSc X.env.scope sc [x] ns)(p:aX X.N ns js)(f:QR X (.Name x px) iter wi)(o:∀(C:Addr) (c:Shared) (b:Hp) (fp:yae) (a:yaa),Tv (aZ X sc ns [x] C c b fp a) ifs tc)
  (q:∀(C:Addr) (c:Shared) (b:Hp) (fp:yae) (a:yaa),MI (aZ X sc ns [x] C c b fp a) elt te) (j:X.N[i]?=some y:=by rfl) (k:X.env.scope.names.lookup y=some .local:=by rfl) (l:closureFor sc X.env=pure (bR X.env ns):=by rfl) (hs:∀x,foldedSetIterable iter X.env x=pure x:=by intro _;rfl)
  (g:swapsWith (.ListComp elt [⟨.Name x px,iter,ifs,0⟩] sc pos) (some (.Name y py)) d.line X.env=pure true:=by rfl) :
  OJ X (.Assign [.Name y py] (.ListComp elt [⟨.Name x px,iter,ifs,0⟩] sc pos) d) (AY i (kS wi js tc te)):=by
 intro pins s σ H W e E I r h;rw[Z6 _ _ _ _ g];refine Mh (Wi (Mh ?_));show wpAny _ X.A (do let _←comprehension (.ListComp elt [⟨.Name x px,iter,ifs,0⟩] sc pos) sc X.env _ (newList []) false (eval iter X.env) (some (assign (.Name y py) X.env))) _ _ s;refine Mh (P6 (Vt (use:=some (assign (.Name y py) X.env)) (Q:=λ_ d=>SG X pins W H E .next d) rfl hs l S.kind S.names
  (Mw (f pins s σ H W e _ I r h) λv s1 e=>Mw e λRz s2 h=>?_)) (λ_ d e=>Mt (Mt e)) λ_ _ e=>e)
 obtain⟨it,fp,tn,J,H2,ds,e,A,f,T,z,w,l,n,Pv,m,step,g⟩:=h;subst e;refine gO (RR:=λh C=>compPost (model X.prog X.w) X.A X.xe (some (assign (.Name y py) X.env)) (λ_ d=>SG X pins W H E .next d) h C) t S p (Ed:=λ_=>False) (λC c b fp a _=>q C c b fp a) (λC c b fp a _=>o C c b fp a) (λ_ _=>cR.no) A (r.same f) (λC c b fp a=>ky S) T z w l n Pv m (vP step) ?_;intro D C d d o c n h E A m w l t ⟨a,b,vs,p,q⟩ pv;have B:Den X.K W.bad d (.lst true c) (.ref D):=Den.lst ((r.same f).fresh a) (.new p b) (q.My λ_ _ z=>.inl z);have p:=(r.same f).same h;show wpAny _ X.A (assign (.Name y py) X.env (.ref D)) _ _ _;refine Yg (ju (v:=.ref D) n u j (.inl k) rfl (λb G q=>?_) (.inr k));obtain⟨a,r,k⟩:=q;have u:C≠a:=by
  rcases k with z|z
  ·rw[z];exact m
  ·exact λq=>l y a z q.symm
 refine⟨o,E.sameBut r u,λh' k=>?_⟩;refine⟨W.drop i,_,d,G.turned (t':=b.toks) (λb o a e=>(k.2 b a).trans e) A m (.inr w) l t,(ML.same (f.trans h)).trans (ML.drop W d i),_,p.put (Inv.S8 n j) B,g c pv⟩
end
noncomputable def Ep(osc a:Scope)(xs ns:yah):Bool :=
 decide (a.kind=.function) && (a.names.all λy=>decide (y.2 ≠ .cell)) && (a.names.all λy=>decide (y.2=.local->a.names.lookup y.1=some .local)) && (xs.all λx=>decide (a.names.lookup x=some .local)) &&
 (a.names.all λy=>decide (y.2=.free->y.1∈ns/\osc.names.lookup y.1=some .cell)) && (ns.all λn=>decide (a.names.lookup n=some .free/\osc.names.lookup n=some .cell)) && decide (xs++ns).Nodup
def bC(h:Ep osc sc xs ns=true):CSc osc sc xs ns:=by unfold Ep at h;simp only[Ut]at h;obtain⟨⟨⟨⟨⟨⟨a,g⟩,b⟩,f⟩,e⟩,d⟩,c⟩:=h;exact⟨RY a,λy a=>RY (UQ.mp g y a),λy a=>RY (UQ.mp b y a),λx b=>RY (UQ.mp f x b),λy a=>RY (UQ.mp e y a),λn a=>RY (UQ.mp d n a),RY c⟩
inductive Td:yai->yah->Prop where
 |nil:Td [] []
 |cons {x:Str} {p:Pos} {es:yai} {xs:yah} (h:Td es xs):Td (.Name x p::es) (x::xs)
def oD:Nat->Nat->UB
 |_,0=>rV
 |i,n+1=>lX (kx i) (oD (i+1) n)
theorem rT:∀(ys:yas) (b a c:Ro) (Q:Ro->Prop),a.length=ys.length->Q (b++ys.map (λd=>some (Sl.val d))++c)->oD b.length ys.length ys (b++a++c) Q
 |[],b,a,c,Q,f,h=>by have:a=[]:=V5 f;subst this;exact⟨rfl,h⟩
 |d::r,b,a,c,Q,f,h=>by
  match a,f with
  |a::q,f =>
   refine⟨d,r,rfl,?_⟩;show oD (b.length+1) r.length r ((b++a::q++c).set b.length (some (.val d))) Q;have e:(b++a::q++c).set b.length (some (Sl.val d))=(b++[some (Sl.val d)])++q++c:=by rw[Ss,List.set_append_right _ _ (MS _),Xz];simp
   have a:b.length+1=(b++[some (Sl.val d)]).length:=by simp
   rw[e,a];refine rT r _ q c Q (by simpa using f) ?_;simpa using h
section
variable{X:Cx}{sc:Scope}{ns xs:yah}{js:yag}
theorem Td.len:∀{es:yai} {ys:yah},Td es ys->(assignEach es env).length=ys.length/\(assignEach es env).findIdx? (·.1)=none
 |_,_,.nil=>⟨rfl,rfl⟩
 |_,_,.cons (x:=x) (p:=p) (es:=es) h=>by obtain⟨b,a⟩:=Td.len (env:=env) h;have e:assignEach (.Name x p::es) env=(false,assign (.Name x p) env)::assignEach es env:=rfl;rw[e];refine⟨by rw[P5,b];rfl,?_⟩;rw[List.findIdx?_cons,a];rfl
theorem mJ(S:CSc X.env.scope sc xs ns):∀{es:yai} {ys:yah} (i:Nat),Td es ys->(∀k y,ys[k]?=some y->xs[i+k]?=some y)->tN (aZ X sc ns xs C Mm Mo fp XE) es (oD i ys.length)
 |_,_,_,.nil,_=>iJ
 |_,_,i,.cons (x:=x) (xs:=ys) h,c=>by
  have a:xs[i]?=some x:=c 0 x rfl;have b:(compEnvC sc (bR X.env ns) C X.env).scope.names.lookup x=some .local:=lookup_relabel_local (S.Y0 x (NF a));have d:(xs++ns)[i]?=some x:=by rw[RK (Nk.mp a).1];exact a
  exact cC (aS (X:=aZ X sc ns xs C Mm Mo fp XE) i S.nd d (.inl b) (.inr b)) (mJ S (i+1) h λk y e=>by have:=c (k+1) y e;rw[show i+(k+1)=i+1+k by lia]at this;exact this)
variable{elt iter:Expr}{ifs es:yai}{kt:Nat}{tp pos:Pos}{te:DE}{tc:DT}{wi:DA}
def j6(ys:yas):Ro:=ys.map λd=>some (Sl.val d)
def wL(n:Nat)(wi:DA)(js:yag)(tc:DT)(te:DE):DE:=λe Q=>wi e λf=>f.length<=sizeLine/\∃Pv:Nat->yas->Prop,Pv 0 [] ∧
 (∀j d a,f[j]?=some d->Pv j a->∃c,(d=.tup c∨∃ t,d=.lst t c)/\c.length=n/\tc (j6 c++js.map (bA e)) λb=>if b=true then te (j6 c++js.map (bA e)) (λe=>Pv (j+1) (a++[e]))else Pv (j+1) a)/\∀a,Pv f.length a->Q (.lst true a)
def stepT{n:Nat}{ds:yas}{Pv:Nat->yas->Prop}{c:Ro}(step:∀j d a,ds[j]?=some d->Pv j a->∃ys,(d=.tup ys∨∃ t,d=.lst t ys)/\ys.length=n/\tc (j6 ys++c) λb=>if b=true then te (j6 ys++c) (λe=>Pv (j+1) (a++[e]))else Pv (j+1) a) :
  ∀ j d a f,ds[j]?=some d->Pv j a->iA n c f->rW n (oD 0 n) d f λg=>iA n c g/\tc g λb=>if b=true then te g (λe=>Pv (j+1) (a++[e]))else Pv (j+1) a:=by
 rintro j d a f k g ⟨f,i,rfl⟩;obtain⟨ys,e,b,h⟩:=step j d a k g;refine⟨ys,e,b,?_⟩;subst b;exact rT ys [] f c _ i ⟨⟨j6 ys,by simp[j6],rfl⟩,h⟩
def wV(l:X.calm=true)(S:CSc X.env.scope sc xs ns)(q:aX X.N ns js)(g:Td es xs)(i:QR X (.Tuple es kt tp) iter wi)(p:∀(C:Addr) (d:Shared) (c:Hp) (a:yae) (b:yaa),Tv (aZ X sc ns xs C d c a b) ifs tc)
  (t:∀(C:Addr) (d:Shared) (c:Hp) (a:yae) (b:yaa),MI (aZ X sc ns xs C d c a b) elt te) (j:closureFor sc X.env=pure (bR X.env ns):=by rfl) (hs:∀x,foldedSetIterable iter X.env x=pure x:=by intro _;rfl) :
  MI X (.ListComp elt [⟨.Tuple es kt tp,iter,ifs,0⟩] sc pos) (wL xs.length wi js tc te):=by
 intro f s k H W e Q I r h;rw[eval_ListComp];refine Vt (use:=none) rfl hs j S.kind S.names (Mw (i f s k H W e _ I r h) λv s1 e=>Mw e λRz s2 j=>?_);obtain⟨it,a,tn,J,H2,ds,e,w,i,T,u,s,m,o,Pv,n,step,h⟩:=j;subst e;refine gO (RR:=λj C=>compPost (model X.prog X.w) X.A X.xe none (DP X f k W H Q) j C) l S q (Ed:=λ_=>False) (λC d c a b _=>t C d c a b) (λC d c a b _=>p C d c a b) (λ_ _=>cR.no) w (r.same i) (λC d c a b=>je (X:=aZ X sc ns xs C d c a b) l (mJ S 0 g λk y q=>by simpa using q) (Td.len g).1 (Td.len g).2) T u s m o Pv n (stepT step) ?_;intro D C d b f a u c o q p m n l ⟨g,j,vs,k,t⟩ pv;have s:Den X.K W.bad b (.lst true a) (.ref D):=Den.lst ((r.same i).fresh g) (.new k j) (t.My λ_ _ z=>.inl z);refine⟨f,o,λh' f=>?_⟩;exact⟨.ref D,b,_,u.turned (t':=d.toks) (λb o d e=>(f.2 b d).trans e) q p (.inr m) n l,rfl,i.trans c,s,h a pv⟩
def yE{y:Str}{a:Pos}(i:Nat)(A:X.N.Nodup)(n:X.calm=true)(S:CSc X.env.scope sc xs ns)(u:aX X.N ns js)(j:Td es xs)(l:QR X (.Tuple es kt tp) iter wi)(q:∀(C:Addr) (f:Shared) (d:Hp) (b:yae) (c:yaa),Tv (aZ X sc ns xs C f d b c) ifs tc)
  (w:∀(C:Addr) (f:Shared) (d:Hp) (b:yae) (c:yaa),MI (aZ X sc ns xs C f d b c) elt te) (m:X.N[i]?=some y:=by rfl) (o:X.env.scope.names.lookup y=some .local:=by rfl) (p:closureFor sc X.env=pure (bR X.env ns):=by rfl) (hs:∀x,foldedSetIterable iter X.env x=pure x:=by intro _;rfl)
  (g:swapsWith (.ListComp elt [⟨.Tuple es kt tp,iter,ifs,0⟩] sc pos) (some (.Name y py)) a.line X.env=pure true:=by rfl) :
  OJ X (.Assign [.Name y py] (.ListComp elt [⟨.Tuple es kt tp,iter,ifs,0⟩] sc pos) a) (AY i (wL xs.length wi js tc te)):=by
 intro a s e H W k E I r h;rw[Z6 _ _ _ _ g];refine Mh (Wi (Mh ?_));show wpAny _ X.A (do let _←comprehension (.ListComp elt [⟨.Tuple es kt tp,iter,ifs,0⟩] sc pos) sc X.env _ (newList []) false (eval iter X.env) (some (assign (.Name y py) X.env))) _ _ s;refine Mh (P6 (Vt (use:=some (assign (.Name y py) X.env)) (Q:=λ_ g=>SG X a W H E .next g) rfl hs p S.kind S.names
  (Mw (l a s e H W k _ I r h) λv s1 e=>Mw e λRz s2 k=>?_)) (λ_ g e=>Mt (Mt e)) λ_ _ e=>e)
 obtain⟨it,b,tn,J,H2,ds,e,B,h,T,z,x,p,t,Pv,s,step,l⟩:=k;subst e;refine gO (RR:=λk C=>compPost (model X.prog X.w) X.A X.xe (some (assign (.Name y py) X.env)) (λ_ g=>SG X a W H E .next g) k C) n S u (Ed:=λ_=>False) (λC f d b c _=>w C f d b c) (λC f d b c _=>q C f d b c) (λ_ _=>cR.no) B (r.same h) (λC f d b c=>je (X:=aZ X sc ns xs C f d b c) n (mJ S 0 j λk y q=>by simpa using q) (Td.len j).1 (Td.len j).2) T z x p t Pv s (stepT step) ?_;intro D C g d p c n f x u k t g s ⟨j,a,vs,b,z⟩ pv;have w:Den X.K W.bad d (.lst true c) (.ref D):=Den.lst ((r.same h).fresh j) (.new b a) (z.My λ_ _ z=>.inl z);have j:=(r.same h).same f;show wpAny _ X.A (assign (.Name y py) X.env (.ref D)) _ _ _;refine Yg (ju (v:=.ref D) n A m (.inl o) rfl (λb B A=>?_) (.inr o));obtain⟨a,r,o⟩:=A;have A:C≠a:=by
  rcases o with z|z
  ·rw[z];exact k
  ·exact λq=>g y a z q.symm
 refine⟨p,x.sameBut r A,λh' p=>?_⟩;refine⟨W.drop i,_,d,B.turned (t':=b.toks) (λb o a e=>(p.2 b a).trans e) u k (.inr t) g s,(ML.same (h.trans f)).trans (ML.drop W d i),_,j.put (Inv.S8 n m) w,l c pv⟩
end
def og{b:Type}{n:Nat}{wi:DA}{js:yag}{tc:DT}{te:DE}{Q:D->Prop}(a:List b)(f:b->yas)(c:b->Bool)(g:b->D)(d:∀R:yas->Prop,R (a.map λz=>.tup (f z))->wi ρ R)(hz:a.length<=sizeLine)(h:∀z,(f z).length=n)
  (k:∀z∈a,∀K:Bool->Prop,K (c z)->tc (j6 (f z)++js.map (bA ρ)) K) (i:∀z∈a,c z=true->∀K:D->Prop,K (g z)->te (j6 (f z)++js.map (bA ρ)) K) (q:Q (.lst true ((a.filter c).map g))):wL n wi js tc te ρ Q:=by
 refine d _ ⟨by rw[Mq];exact hz,λj b=>b=((a.take j).filter c).map g,by simp,λj d b e d=>?_,λb d=>?_⟩
 ·rw[Nj]at e;cases ex:a[j]? with
  |none=>rw[ex]at e;cases e
  |some x =>
   rw[ex]at e;cases e;have e:x∈a:=NF ex;have b:a.take (j+1)=a.take j++[x]:=by rw[UU,ex];rfl
   refine⟨f x,.inl rfl,h x,k x e _ ?_⟩;by_cases z:c x=true
   ·rw[Ml z];refine i x e z _ ?_;show _=List.map g (List.filter c (List.take (j+1) a));rw[b,d,zDj,OC];simp[z]
   ·rw[Mj z];show _=List.map g (List.filter c (List.take (j+1) a));rw[b,d,zDj];simp[z]
 ·rw[Mq,UN (MS _)]at d;rw[d];exact q
def J5(b:Bool):okD (.bl b):=by unfold okD;rw[NX,RB]<;>first|exact⟨rfl,rfl⟩| (intros;contradiction)
def E6(i:Int):okD (.int i)=True:=eq_true (Hr i)
def Hq(b:Bool):okD (.bl b)=True:=eq_true (J5 b)
def E7:okD .MU=True:=eq_true Hs
def lV(i j:Int):eqD (.int i) (.int j)=decide (i=j):=by unfold eqD;rw[NX,NX];rfl
def Cn(i j:Bool):eqD (.bl i) (.bl j)=decide (i=j):=by unfold eqD;rw[NX,NX];cases i<;>cases j<;>rfl
def JT(t:Bool)(xs:yas)(R:yas->Prop):(∃t' ds,D.lst t xs=.lst t' ds/\R ds)=R xs:=by
 apply propext;constructor
 ·rintro⟨_,_,e,q⟩;cases e;exact q
 ·intro q;exact⟨t,xs,rfl,q⟩
def GY(ds:yas)(r:Ro)(R:yas->Prop):(∃a,(some (Sl.own ds)::r)[0]?=some (some (Sl.own a))/\R a)=R ds:=by
 apply propext;constructor
 ·rintro⟨_,e,q⟩;have a:some (some (Sl.own ds))=some (some (Sl.own _)):=e;cases a;exact q
 ·intro q;exact⟨ds,rfl,q⟩
theorem GZ(n:Nat)(x:Option Sl)(r:Ro)(R:yas->Prop):(∃a,(x::r)[n+1]?=some (some (Sl.own a))/\R a)=(∃a,r[n]?=some (some (Sl.own a))/\R a):=rfl
theorem JJ(d:D)(r:Ro):bA (some (.val d)::r) 0=some (.val d):=rfl
theorem JL(r:Ro):bA (none::r) 0=none:=rfl
theorem JK(n:Nat)(x:Option Sl)(r:Ro):bA (x::r) (n+1)=bA r n:=rfl
def IL{x y z:Int}(h:¬(x=0/\y=0/\z=0))(hx:Bd n x)(hy:Bd n y)(hz:Bd n z):Bd n (PM.N1 x y z l):=by
 unfold Bd at *;rw[PM.zC];have c:=Z4.mpr (PM.tT x y z);have b:=Z4.mpr (PM.xh x y z);have a:=Z4.mpr (PM.xi x y z);simp only[Int.natAbs_natCast]at c b a;by_cases f:x=0
 ·by_cases d:y=0
  ·have h3:z≠0:=λe=>h ⟨f,d,e⟩
   have:=Nat.le_of_dvd (by lia) a
   lia
  ·have:=Nat.le_of_dvd (by lia) b
   lia
 ·have:=Nat.le_of_dvd (by lia) c
  lia
noncomputable def sg(n:Int):Int:=if 0<n then 1 else if n<0 then -1 else 0
def rk(a0 c e a b d:Int):Int:=if sg (c*a - b*a0)=0 then sg (e*a - d*a0)else sg (c*a - b*a0)
noncomputable def sw(a0 f e h d c g b a:Int):Int:=a0*(d*a - b*c)+h*(b*e - f*a)+g*(f*c - d*e)
structure Pl(n:Nat)(a b c:Int):Prop where
 pos:0<a
 low:PM.g3 a b c=1
 b0:Bd n a
 b1:Bd n b
 b2:Bd n c
def jR{d k x y z:Int}(f:d∣k*x)(e:d∣k*y)(c:d∣k*z)(b:PM.g3 x y z=1):d∣k:=by
 have a:d∣(Int.gcd (k*x) (k*y):Int):=Xr f e;rw[Yh]at a;have e:d∣k*(Int.gcd x y:Int):=by
  have:((k.natAbs*Int.gcd x y:Nat):Int)∣k*(Int.gcd x y:Int):=by rw[Int.natCast_mul];exact Yk (Int.natAbs_dvd.mpr (Uw _)) (Uw _)
  exact VC a this
 have a:d∣(Int.gcd (k*(Int.gcd x y:Int)) (k*z):Int):=Xr e c;rw[Yh]at a;have c:Int.gcd (Int.gcd x y:Int) z=1:=b;rw[c,Nat.mul_one]at a;exact VC a (Int.natAbs_dvd.mpr (Uw _))
def Ki(b x y:Int):D:=T3 (b.fdiv (PM.N1 b x y b)) (x.fdiv (PM.N1 b x y b)) (y.fdiv (PM.N1 b x y b))
structure L9(d:D)(b x y:Int):Prop where
 ex:∃p q r,d=T3 p q r/\Bd 4000 p/\Bd 4000 q/\Bd 4000 r/\0<p/\p*x=b*q/\p*y=b*r/\PM.g3 p q r=1
end PD
namespace PZ
open PySem PySem.Spec PyProof.Rows
def Px:Bool->Heap->Addr->Addr->Nat->Prop
 |true,h,b,a,i=>h.IsListIter b a i
 |false,h,b,a,i=>h.IsTupleIter b a i
def OK:Bool->Heap->Addr->yao->Prop
 |true,h,a,b=>h.IsList a b
 |false,h,a,b=>h.IsTuple a b
def jg:Bool->String
 |true => "list_iterator"
 |false => "tuple_iterator"
section
variable{k:Bool}{h h':Heap}{it a b:Addr}{i:Nat}{xs:yao}
def Px.of(x:Px k h it a i)(e:∀o,h.get? it=some o->h'.get? it=some o):Px k h' it a i:=by
 cases k with
 |true=>obtain⟨o,c,r⟩:=x;exact⟨o,e o c,r⟩
 |false=>obtain⟨o,c,r⟩:=x;exact⟨o,e o c,r⟩
def OK.of(x:OK k h a xs)(e:∀o,h.get? a=some o->h'.get? a=some o):OK k h' a xs:=by
 cases k with
 |true=>obtain⟨o,c,r⟩:=x;exact⟨o,e o c,r⟩
 |false=>obtain⟨o,c,r⟩:=x;exact⟨o,e o c,r⟩
def Px.obj(x:Px k h it a i):∃o,h.get? it=some o/\o.cls=.type (jg k)/\o.data=.fields #[.ref a,.int i 0]:=by
 cases k with
 |true=>exact x
 |false=>exact x
def OK.obj(x:OK k h a xs):∃o n,h.get? a=some o/\o.data=.seq xs n:=by
 cases k with
 |true=>obtain⟨o,c,_,n,r⟩:=x;exact⟨o,n,c,r⟩
 |false=>obtain⟨o,c,_,n,r⟩:=x;exact⟨o,n,c,r⟩
end
section
variable{prog:Program}{w:World}{A:Around}{E:yaa}{s:Shared}{k:Bool}{it a:Addr}{i:Nat}{xs:yao}
def sA{x:Value}{Q:yaa}(d:Px k s.heap it a i)(hs:OK k s.heap a xs)(f:xs[i]?=some x)(g:∀h',Px k h' it a (i+1)->Heap.SameBut it s.heap h'->Q x {s with heap:=h'}) :
  wpAny (model prog w) A (Builtin.SmallTypes.nextOf (.ref it)) Q E s:=by
 cases k with
 |true=>exact wpAny_nextOf_list_item d hs f g
 |false =>
  obtain⟨o,c,j,b⟩:=id d;obtain⟨oq,h,_,nq,e⟩:=hs;unfold Builtin.SmallTypes.nextOf;refine Mh (UM (name:=Str.ofString "__next__") (ZZ d) F.slot_tuple_iterator_next (SU F.slot_tuple_iterator_next (ZZ d) F.entry_tuple_iterator_next ?_ (F.args_tuple_iterator_next_1 _)));show wpAny _ _ (field (.ref it) 0 >>= _) _ _ s;refine Mh (Qe c b (x:=.ref a) rfl ?_);show wpAny _ _ (if(Value.ref a==Value.none)=true then _ else _) _ _ s;rw[Mj (show¬((Value.ref a==Value.none)=true)from QB)];show wpAny _ _ (field (.ref it) 1 >>= _) _ _ s;refine Mh (Qe c b (x:=.int i 0) rfl ?_);show wpAny _ _ (seqItems? (.ref a) >>= _) _ _ s;refine Mh (SX h e ?_);simp only[Xk,f];refine Mh (Xx c b (by simp) (Mt ⟨x,rfl,Mt (g _ ⟨_,TH _ c (Obj.isFreed_of_fields (Obj.data_mapFields b _)),(Obj.cls_mapFields ..).trans j,by rw[Obj.data_mapFields b];simp[rawInt]⟩ (Vw ..))⟩))
def Bf(d:A.handled=none)(b:Px k s.heap it a i)(hs:OK k s.heap a xs)(g:xs[i]?=none)
  (h:∀h' e,Heap.ExtBut it s.heap h'->(∃o,h'.get? e=some o/\o.cls=.type "StopIteration")->E (.ref e) {s with heap:=h'}):wpAny (model prog w) A (Builtin.SmallTypes.nextOf (.ref it)) Q E s:=by
 cases k with
 |true=>exact wpAny_nextOf_list_end d b hs g h
 |false =>
  obtain⟨o,c,hc,f⟩:=id b;obtain⟨oq,j,_,nq,e⟩:=hs;unfold Builtin.SmallTypes.nextOf;refine Mh (UM (name:=Str.ofString "__next__") (ZZ b) F.slot_tuple_iterator_next (SU F.slot_tuple_iterator_next (ZZ b) F.entry_tuple_iterator_next ?_ (F.args_tuple_iterator_next_1 _)));show wpAny _ _ (field (.ref it) 0 >>= _) _ _ s;refine Mh (Qe c f (x:=.ref a) rfl ?_);show wpAny _ _ (if(Value.ref a==Value.none)=true then _ else _) _ _ s;rw[Mj (show¬((Value.ref a==Value.none)=true)from QB)];show wpAny _ _ (field (.ref it) 1 >>= _) _ _ s;refine Mh (Qe c f (x:=.int i 0) rfl ?_);show wpAny _ _ (seqItems? (.ref a) >>= _) _ _ s;refine Mh (SX j e ?_);simp only[Xk,g];refine Mh (wpAny_rule (Mh (Xx c f (by simp) ?_)));show wpAny _ _ (newExc (.type "StopIteration") [] >>= _) _ _ _;refine Mh ?_;simp only[newExc,newTuple];refine Mh (SO ?_ (by size_fits));refine Mh (m:=firstArgMember _ _) (wpAny_of_eq (a:=Value.none) (by simp only[firstArgMember];rfl) ?_);refine SO ?_ (by size_fits);simp only[raiseNew];refine Mh (wpAny_handled ?_);first|rw[show A.in1.handled=none from d]|rw[d]
  exact Mh (Mt (wpAny_throw (h _ _ (((Vw ..).extBut.push _).push _) ⟨_,OI _ rfl,rfl⟩)))
end
structure Ap(z TI TO i1 i2:Addr):Prop where
 a1:TI≠z
 a2:TO≠z
 a3:i1≠z
 a4:i2≠z
 a5:TI≠TO
 a6:TI≠i1
 a7:TI≠i2
 a8:TO≠i1
 a9:TO≠i2
 b1:i1≠i2
structure Out(z TO i1 i2 l:Addr):Prop where
 c1:l≠z
 c2:l≠TO
 c3:l≠i1
 c4:l≠i2
structure VR(k1 k2:Bool)(z TI TO i1 i2 l1 l2:Addr)(i:Nat)(h:Heap):Prop where
 z:IsZip h z TI TO .none
 ti:IsPair h TI (.ref i1) (.ref i2)
 to:∃a b,IsPair h TO a b
 s1:Px k1 h i1 l1 i
 s2:Px k2 h i2 l2 i
section
variable{prog:Program}{w:World}{A:Around}{E:yaa}{s:Shared}{k1 k2:Bool}{z TI TO i1 i2 l1 l2:Addr}{i:Nat}{xs ys:yao}
def Gr{x y:Value}{Q:yan->Shared->Prop}(D:Ap z TI TO i1 i2)(l:Out z TO i1 i2 l1)(j:Out z TO i1 i2 l2)(Z:VR k1 k2 z TI TO i1 i2 l1 l2 i s.heap)(f:OK k1 s.heap l1 xs)(r:OK k2 s.heap l2 ys)(h:xs[i]?=some x)(t:ys[i]?=some y)
  (G:∀h',IsZip h' z TI TO (rawInt s.heap.objs.size)->IsPair h' TI (.ref i1) (.ref i2)->IsPair h' TO x y->Px k1 h' i1 l1 (i+1)->Px k2 h' i2 l2 (i+1)->IsPair h' s.heap.objs.size x y →
   (∀c o,c≠z->c≠TO->c≠i1->c≠i2->s.heap.get? c=some o->h'.get? c=some o)->Q (some (.ref s.heap.objs.size)) {s with heap:=h'}):wpAny (model prog w) A (pyNext (.ref z)) Q E s:=by
 obtain⟨d,C,⟨a,b,m⟩,k,B⟩:=Z;have e:s.TypeIs (.ref z) "zip" := ⟨_,d,rfl⟩;unfold pyNext;refine Mh (VD (UM (name:=Str.ofString "__next__") e F.slot_zip_next (SU F.slot_zip_next e F.entry_zip_next ?_ (F.args_zip_next_1 _))));show wpAny _ _ (field (.ref z) 2 >>= _) _ _ _;refine Mh (Qe d rfl (x:=.bool false) rfl ?_);show wpAny _ _ (field (.ref z) 3 >>= _) _ _ _;refine Mh (Qe d rfl (x:=.ref TI) rfl (Mh (SX C rfl ?_)));show wpAny _ _ (Builtin.SmallTypes.ownedTupleIsFree (.ref z) >>= _) _ _ _;refine Mh ?_;unfold Builtin.SmallTypes.ownedTupleIsFree;refine Mh (Qe d rfl (x:=.none) rfl (Mt ?_));simp only[if_true];refine Mh (wpAny_rule (Mh (Qe d rfl (x:=.ref TO) rfl ?_)));refine Mh (V9 d (by simp) λd (u:IsZip d z TI TO .ellipsis) p=>Mh ?_);simp only[List.zipIdx_cons,List.zipIdx_nil,List.forIn_cons,Yo];have g:∀c o,c≠z->s.heap.get? c=some o->d.get? c=some o:=λc o n e=>p.extBut c o n e
 refine Mh (Mh (wpAny_onRaise ?_));show wpAny _ _ (Builtin.SmallTypes.nextOf (.ref i1) >>= _) _ _ _;refine Mh (sA (s:={s with heap:=d}) (k.of λo e=>g _ o D.a3 e) (f.of λo e=>g _ o l.c1 e) h λh d l=>Mt ?_);have f:IsPair h TO a b:=l.extBut _ _ D.a8 (g _ _ D.a2 m);refine Mh (SX f rfl (Mh (wpAny_updateSeq_pair f λg3 (q:IsPair g3 TO x b) k=>Mh (wpAny_letGo (Mt ?_)))));have m:∀c o,c≠z->c≠TO->c≠i1->s.heap.get? c=some o->g3.get? c=some o:=λc o f d h e=>k.extBut c o d (l.extBut c o h (g c o f e))
 refine Mh (Mh (wpAny_onRaise ?_));show wpAny _ _ (Builtin.SmallTypes.nextOf (.ref i2) >>= _) _ _ _;refine Mh (sA (s:={s with heap:=g3}) (B.of λo e=>m _ o D.a4 (Ne.symm D.a9) (Ne.symm D.b1) e) (r.of λo e=>m _ o j.c1 j.c2 j.c3 e) t λr g j=>Mt ?_);have a:IsPair r TO x b:=j.extBut _ _ D.a9 q;refine Mh (SX a rfl (Mh (wpAny_updateSeq_pair a λa (q:IsPair a TO x y) b=>Mh (wpAny_letGo (Mt (Mt ?_))))));refine Mh (SX q rfl (Mh (wpAny_newTuple ?_)));have r:a.objs.size=s.heap.objs.size:=by rw[b.1,j.1,k.1,l.1,p.1]
 have t:∀c o,c≠z->c≠TO->c≠i1->c≠i2->s.heap.get? c=some o->a.get? c=some o:=λc o f d h g e=>b.extBut c o d (j.extBut c o g (m c o f d h e))
 have p:IsZip a z TI TO .ellipsis:=b.extBut _ _ (Ne.symm D.a2) (j.extBut _ _ (Ne.symm D.a4) (k.extBut _ _ (Ne.symm D.a2) (l.extBut _ _ (Ne.symm D.a3) u)));have l:Px k1 a i1 l1 (i+1):=d.of λo e=>b.extBut _ o (Ne.symm D.a8) (j.extBut _ o D.b1 (k.extBut _ o (Ne.symm D.a8) e))
 have k:Px k2 a i2 l2 (i+1):=g.of λo e=>b.extBut _ o (Ne.symm D.a9) e
 have m:z<a.objs.size:=MV p;show wpAny _ _ (Builtin.SmallTypes.ownedTupleHandOut (.ref z) (.ref a.objs.size) >>= _) _ _ _;refine Mh ?_;unfold Builtin.SmallTypes.ownedTupleHandOut;have b:IsZip (a.push {cls:=.type "tuple", data:=.seq #[x,y]}) z TI TO .ellipsis:=Nd _ p;refine Mh (V9 b (by simp) λj (b:IsZip j z TI TO (rawInt a.objs.size)) B=>V9 b (by simp) λj (p:IsZip j z TI TO (rawInt a.objs.size)) u=>Mt ?_);have b:∀c o,c≠z->a.get? c=some o->j.get? c=some o:=λc o n e=>u.extBut c o n (B.extBut c o n (Nd _ e))
 have p8:IsPair j a.objs.size x y:=u.extBut _ _ (RN m) (B.extBut _ _ (RN m) (OI _ rfl));refine⟨_,rfl,?_⟩;rw[r]at p p8;refine Mt ?_;show Q (some (.ref a.objs.size)) _;rw[r];exact G j p (b _ _ D.a1 (t _ _ D.a1 D.a5 D.a6 D.a7 C)) (b _ _ D.a2 q) (l.of λo e=>b _ o D.a3 e) (k.of λo e=>b _ o D.a4 e) p8 λc o f d h g e=>b c o f (t c o f d h g e)
def Gu{Q:yan->Shared->Prop}(C:A.handled=none)(D:Ap z TI TO i1 i2)(I:Out z TO i1 i2 l1)(u:Out z TO i1 i2 l2)(Z:VR k1 k2 z TI TO i1 i2 l1 l2 i s.heap)(B:OK k1 s.heap l1 xs)(J:OK k2 s.heap l2 ys)(N:xs[i]?=none∨ys[i]?=none)
  (G:∀h',(∀c o,c≠z->c≠TO->c≠i1->c≠i2->s.heap.get? c=some o->h'.get? c=some o)->Q none {s with heap:=h'}):wpAny (model prog w) A (pyNext (.ref z)) Q E s:=by
 obtain⟨d,f,⟨a,b,O⟩,H,M⟩:=Z;have e:s.TypeIs (.ref z) "zip" := ⟨_,d,rfl⟩;unfold pyNext;refine Mh (VD (UM (name:=Str.ofString "__next__") e F.slot_zip_next (SU F.slot_zip_next e F.entry_zip_next ?_ (F.args_zip_next_1 _))));show wpAny _ _ (field (.ref z) 2 >>= _) _ _ _;refine Mh (Qe d rfl (x:=.bool false) rfl ?_);show wpAny _ _ (field (.ref z) 3 >>= _) _ _ _;refine Mh (Qe d rfl (x:=.ref TI) rfl (Mh (SX f rfl ?_)));show wpAny _ _ (Builtin.SmallTypes.ownedTupleIsFree (.ref z) >>= _) _ _ _;refine Mh ?_;unfold Builtin.SmallTypes.ownedTupleIsFree;refine Mh (Qe d rfl (x:=.none) rfl (Mt ?_));simp only[if_true];refine Mh (wpAny_rule (Mh (Qe d rfl (x:=.ref TO) rfl ?_)));refine Mh (V9 d (by simp) λm (y:IsZip m z TI TO .ellipsis) d=>Mh ?_);simp only[List.zipIdx_cons,List.zipIdx_nil,List.forIn_cons,Yo];have g:∀c o,c≠z->s.heap.get? c=some o->m.get? c=some o:=λc o n e=>d.extBut c o n e
 refine Mh (Mh (wpAny_onRaise ?_));show wpAny _ _ (Builtin.SmallTypes.nextOf (.ref i1) >>= _) _ _ _;cases hx:xs[i]? with
 |none =>
  refine Mh (Bf (s:={s with heap:=m}) C (H.of λo e=>g _ o D.a3 e) (B.of λo e=>g _ o I.c1 e) hx λt e h r=>?_);obtain⟨n,f,k⟩:=r;have d:IsZip t z TI TO .ellipsis:=h _ _ (Ne.symm D.a3) y;have p:e≠z:=λq=>by subst q;rw[d]at f;cases f;simp at k
  refine V9 d (by simp) λg3 _ l=>Mh (Wf (T := "StopIteration") (b:=true) ⟨n,l.extBut _ _ p f,k⟩ isSubtype_stop ?_)
  exact Mt (G g3 λc o d _ j _ q=>l.extBut c o d (h c o j (g c o d q)))
 |some x =>
  have L:ys[i]?=none:=by
   rcases N with q|q
   ·rw[hx]at q;cases q
   ·exact q
  refine Mh (sA (s:={s with heap:=m}) (H.of λo e=>g _ o D.a3 e) (B.of λo e=>g _ o I.c1 e) hx λt m h=>Mt ?_);have x:IsPair t TO a b:=h.extBut _ _ D.a8 (g _ _ D.a2 O);refine Mh (SX x rfl (Mh (wpAny_updateSeq_pair x λg3 t3 l=>Mh (wpAny_letGo (Mt ?_)))));have a:∀c o,c≠z->c≠TO->c≠i1->s.heap.get? c=some o->g3.get? c=some o:=λc o d m j e=>l.extBut c o m (h.extBut c o j (g c o d e))
  refine Mh (Mh (wpAny_onRaise ?_));show wpAny _ _ (Builtin.SmallTypes.nextOf (.ref i2) >>= _) _ _ _;refine Mh (Bf (s:={s with heap:=g3}) C (M.of λo e=>a _ o D.a4 (Ne.symm D.a9) (Ne.symm D.b1) e) (J.of λo e=>a _ o u.c1 u.c2 u.c3 e) L λu e t r=>?_);obtain⟨n,f,k⟩:=r;have g:IsZip u z TI TO .ellipsis:=t _ _ (Ne.symm D.a4) (l.extBut _ _ (Ne.symm D.a2) (h.extBut _ _ (Ne.symm D.a3) y));have p:e≠z:=λq=>by subst q;rw[g]at f;cases f;simp at k
  refine V9 g (by simp) λg _ e=>Mh (Wf (T := "StopIteration") (b:=true) ⟨n,e.extBut _ _ p f,k⟩ isSubtype_stop ?_)
  exact Mt (G g λc o d m j b q=>e.extBut c o d (t c o b (a c o d m j q)))
def Ge{Q:yaa}(q:OK k s.heap a xs)(b:Q (.ref s.heap.objs.size) {s with heap:=s.heap.push {cls:=.type (jg k),data:=.fields #[.ref a,.int 0 0]} }):wpAny (model prog w) A (pyIter (.ref a)) Q E s:=by
 cases k with
 |true=>exact wpAny_pyIter_list q b
 |false=>exact wpAny_pyIter_tuple q b
end
abbrev zp1(k1:Bool)(h:Heap)(l1:Addr):Heap:=h.push {cls:=.type (jg k1),data:=.fields #[.ref l1,.int 0 0]}
abbrev Za(k1 k2:Bool)(h:Heap)(l1 l2:Addr):Heap:=(zp1 k1 h l1).push {cls:=.type (jg k2),data:=.fields #[.ref l2,.int 0 0]}
abbrev Zb (k1 k2:Bool) (h:Heap) (l1 l2:Addr):Heap:=(Za k1 k2 h l1 l2).push {cls:=.type "tuple", data:=.seq #[.ref h.objs.size,.ref (zp1 k1 h l1).objs.size]}
abbrev Zc (k1 k2:Bool) (h:Heap) (l1 l2:Addr):Heap:=(Zb k1 k2 h l1 l2).push {cls:=.type "tuple", data:=.seq #[.none,.none]}
abbrev WM (k1 k2:Bool) (h:Heap) (l1 l2:Addr):Heap:=(Zc k1 k2 h l1 l2).push {cls:=.type "zip", data:=.fields #[.none,.bool false,.bool false,.ref (Za k1 k2 h l1 l2).objs.size,.ref (Zb k1 k2 h l1 l2).objs.size]}
def L7 (k1 k2:Bool) (l1 l2:Addr) (xs ys:yao):Meets (Builtin.«zip.__new__» ⟨[.type "zip", .ref l1,.ref l2],[]⟩) (λ_ R s=>OK k1 s.heap l1 xs/\OK k2 s.heap l2 ys/\R (.ok (.ret (.ref (Zc k1 k2 s.heap l1 l2).objs.size))) {s with heap:=WM k1 k2 s.heap l1 l2}) :=
 .of_wp λprog w A R s h=>by
  obtain⟨b,g,d,a,os⟩:=s;obtain⟨e,c,h⟩:=h;have Zd:=sub_zip;have i:OK k1 (Shared.heap ⟨b,g,d,a,os⟩) l1 xs:=e;have f:OK k2 (Shared.heap ⟨b.push {cls:=.type (jg k1),data:=.fields #[.ref l1,.int 0 0]},g,d,a,os⟩) l2 ys:=c.of λo e=>Nd _ e
  wp_walk using Ge i,Ge f
  exact⟨_,rfl,h⟩
section
variable{prog:Program}{w:World}{A:Around}{E:yaa}{s:Shared}{k1 k2:Bool}{l1 l2:Addr}{xs ys:yao}
def Gq{Q:yaa}(d:OK k1 s.heap l1 xs)(b:OK k2 s.heap l2 ys)
  (k:∀h',VR k1 k2 (s.heap.objs.size+4) (s.heap.objs.size+2) (s.heap.objs.size+3) s.heap.objs.size (s.heap.objs.size+1) l1 l2 0 h'->(∀c o,s.heap.get? c=some o->h'.get? c=some o)->Q (.ref (s.heap.objs.size+4)) {s with heap:=h'}) :
  wpAny (model prog w) A (call (.type "zip") [.ref l1,.ref l2]) Q E s:=by
 refine callType_new F.called_zip (by decide) (F.typeCall_zip_2 _ _) (F.newCall_zip_2 _ _) (λa=>F.args_object_init_3 a _ _) F.entry_zip_new (L7 k1 k2 l1 l2 xs ys) ⟨d,b,?_⟩;have h:(zp1 k1 s.heap l1).objs.size=s.heap.objs.size+1:=TM ..;have g:(Za k1 k2 s.heap l1 l2).objs.size=s.heap.objs.size+2:=by rw[TM,h]
 have f:(Zb k1 k2 s.heap l1 l2).objs.size=s.heap.objs.size+3:=by rw[TM,g]
 have l:(Zc k1 k2 s.heap l1 l2).objs.size=s.heap.objs.size+4:=by rw[TM,f]
 have a:∀c o,(Zc k1 k2 s.heap l1 l2).get? c=some o->(WM k1 k2 s.heap l1 l2).get? c=some o:=λc o e=>Nd _ e
 have b:∀c o,(Zb k1 k2 s.heap l1 l2).get? c=some o->(WM k1 k2 s.heap l1 l2).get? c=some o:=λc o e=>a c o (Nd _ e)
 have d:∀c o,(Za k1 k2 s.heap l1 l2).get? c=some o->(WM k1 k2 s.heap l1 l2).get? c=some o:=λc o e=>b c o (Nd _ e)
 have p:∀c o,(zp1 k1 s.heap l1).get? c=some o->(WM k1 k2 s.heap l1 l2).get? c=some o:=λc o e=>d c o (Nd _ e)
 have j:(WM k1 k2 s.heap l1 l2).get? (Zc k1 k2 s.heap l1 l2).objs.size=some _:=OI _ rfl;have m:=a _ _ (OI (Zb k1 k2 s.heap l1 l2) (o:={cls:=.type "tuple", data:=.seq #[.none,.none]}) rfl);have g3:=b _ _ (OI (Za k1 k2 s.heap l1 l2) (o:={cls:=.type "tuple", data:=.seq #[.ref s.heap.objs.size,.ref (zp1 k1 s.heap l1).objs.size]}) rfl);have n:=d _ _ (OI (zp1 k1 s.heap l1) (o:={cls:=.type (jg k2),data:=.fields #[.ref l2,.int 0 0]}) rfl);have q:=p _ _ (OI s.heap (o:={cls:=.type (jg k1),data:=.fields #[.ref l1,.int 0 0]}) rfl);have i:=k (WM k1 k2 s.heap l1 l2);rw[g,f,l]at j;rw[f]at m;rw[h,g]at g3;rw[h]at n;have b:∀{k:Bool} {h:Heap} {d a:Addr},h.get? d=some {cls:=.type (jg k),data:=.fields #[.ref a,.int 0 0]}->Px k h d a 0:=fun {k h d a} e=>by
  cases k with
  |true=>exact⟨_,e,rfl,rfl⟩
  |false=>exact⟨_,e,rfl,rfl⟩
 show _/\_;rw[l];exact⟨⟨_,j,rfl⟩,i ⟨j,g3,⟨_,_,m⟩,b q,b n⟩ λc o e=>p c o (Nd _ e)⟩
end
end PZ
namespace PD
open PySem PySem.Spec PyProof.Rows L2 PZ
def QA(K:yac):Bool->Hp->Addr->yar->Prop
 |true=>SqL K
 |false=>L2.MW K
section
variable{X:Cx}{pins:yab}{σ:St}{H:Hp}{s:Shared}{k:Bool}{a:Addr}{xs:yar}
theorem QA.list(I:Inv X pins σ H s)(h:QA X.K k H a xs):∃b:yad,Vals xs b/\OK k s.heap a b.toArray:=by
 cases k with
 |true =>
  obtain⟨b,r,p,_⟩:=I.list h;exact⟨b,r,p.isList⟩
 |false =>
  obtain⟨b,r,p,_⟩:=I.tuple h;exact⟨b,r,p⟩
def QA.inj(I:Inv X pins σ H s)(h:QA X.K k H a xs)(h':QA X.K k H a ys):xs=ys:=by
 cases k with
 |true=>exact I.Qg h h'
 |false=>exact I.QO h h'
def QA.ne(I:Inv X pins σ H s)(f:dY X pins H b)(h:QA X.K k H a xs):a≠b:=λe=>by
 subst e;obtain⟨b,f1,f2,e,f4,f5⟩:=f;have c:∀o,X.K.lookup a=some o->False:=λo q=>by
  have d:=I.ok.mod.Yt a o q;rcases e with z|z
  ·exact I.ok.R5 a o d z
  ·exact absurd (Of (MV (I.ok.bs a o d).1) z) (Ru _)
 cases k with
 |true =>
  rcases h with(h|⟨o,h⟩)|⟨o,d,n,h,_⟩
  ·rw[b]at h;cases h
  ·rw[b]at h;cases h
  ·exact c o h
 |false =>
  rcases h with(h|⟨o,h⟩)|⟨o,d,n,h,_⟩
  ·rw[b]at h;cases h
  ·rw[b]at h;cases h
  ·exact c o h
end
def Itz(K:yac)(k1 k2:Bool)(a b:Addr):It :=
 ⟨λi H=>∃d c x y,QA K k1 H a d/\QA K k2 H b c/\d[i]?=some x/\c[i]?=some y,
  λi H v e=>∃T x y,v=.ref T/\H T=none/\e=L2.upd H T (.tup [x,y])/\(∀d,QA K k1 H a d->d[i]?=some x)/\∀c,QA K k2 H b c->c[i]?=some y,
  λi H=>∃d c,QA K k1 H a d/\QA K k2 H b c/\(d[i]?=none∨c[i]?=none)⟩
def FI{P:Program}{w:World}{K:yac}{es:yai}{d:Nat}{c:Pos}(k1 k2:Bool)(a b z TI TO g f:Addr)(D:Ap z TI TO g f) :
  Turn P w K (.Tuple es d c) (Itz K k1 k2 a b) [z,TI,TO,g,f] z (λi h=>VR k1 k2 z TI TO g f a b i h) where
 mem:=by simp
 obj:=λi h st c d=>by
  obtain⟨J,M,⟨x,y,L⟩,r,m⟩:=st;simp only[MD,OX,or_false]at d;rcases d with e|e|e|e|e<;>subst e
  ·exact⟨_,J,λv q=>by cases q⟩
  ·exact⟨_,M,λv q=>by cases q⟩
  ·exact⟨_,L,λv q=>by cases q⟩
  ·obtain⟨o,p,_,A⟩:=r.obj;exact⟨o,p,λv q=>by rw[A]at q;cases q⟩
  ·obtain⟨o,p,_,A⟩:=m.obj;exact⟨o,p,λv q=>by rw[A]at q;cases q⟩
 keep:=λi h h' st B=>by obtain⟨J,M,⟨x,y,L⟩,r,m⟩:=st;exact⟨B z (by simp) _ J,B TI (by simp) _ M,⟨x,y,B TO (by simp) _ L⟩,r.of λo e=>B g (by simp) o e,m.of λo e=>B f (by simp) o e⟩
 item:=by
  intro X hP hw hK d i G s σ H E I j st hg;subst hP hw hK;obtain⟨xs,ys,x,y,p,A,hx,hy⟩:=hg;obtain⟨us,T,Y⟩:=p.list I;obtain⟨ws,Q,U⟩:=A.list I;obtain⟨u,w,ru⟩:=T.get hx;obtain⟨v,n,rv⟩:=Q.get hy;have t:∀{k:Bool} {l:Addr} {O:yar},QA X.K k H l O->Out z TO g f l:=λq=>⟨q.ne I (j z (by simp)),q.ne I (j TO (by simp)),q.ne I (j g (by simp)),q.ne I (j f (by simp))⟩
  refine Gr D (t p) (t A) st Y U (x:=u) (y:=v) (by simpa using w) (by simpa using n) λh' n ti to r m pr B=>⟨_,rfl,wpAny_letOwnedTupleGo_zip n λN z2 sb=>?_⟩
  have n:s.heap.objs.size<=s.heap.objs.size:=MS _;have nz:s.heap.objs.size≠z:=RN (MV st.z);have C:H s.heap.objs.size=none:=I.MF.fresh n;have w:∀c o,c ∉ [z,TI,TO,g,f]->s.heap.get? c=some o->N.get? c=some o:=λc o n e=>by simp only[MD,OX,or_false,not_or]at n;exact sb.extBut c o n.1 (B c o n.1 n.2.2.1 n.2.2.2.1 n.2.2.2.2 e)
  have P9:VR k1 k2 z TI TO g f a b (i+1) N:=⟨z2,sb.extBut _ _ D.a1 ti,⟨_,_,sb.extBut _ _ D.a2 to⟩,r.of λo e=>sb.extBut _ o D.a3 e,m.of λo e=>sb.extBut _ o D.a4 e⟩;have b:IsPair N s.heap.objs.size u v:=sb.extBut _ _ nz pr;have lo:∀c ∈ [z,TI,TO,g,f],c≠s.heap.objs.size:=λc d e=>by
   have a:c<s.heap.objs.size:=by
    obtain⟨J,M,⟨x',y',L⟩,r,m⟩:=st;simp only[MD,OX,or_false]at d;rcases d with q|q|q|q|q<;>subst q
    ·exact MV J
    ·exact MV M
    ·exact MV L
    ·obtain⟨o,p,_⟩:=r.obj;exact MV p
    ·obtain⟨o,p,_⟩:=m.obj;exact MV p
   rw[e]at a;exact Ru _ a
  refine⟨.ref s.heap.objs.size,L2.upd H s.heap.objs.size (.tup [x,y]),?_,rfl,⟨_,x,y,rfl,C,rfl,λxs' q=>by rw[q.inj I p];exact hx,λys' q=>by rw[q.inj I A];exact hy⟩,P9,λc d=>by rw[aw (lo c d)];exact(j c d).1⟩;have a:∀c o,H c=some o->c ∉ [z,TI,TO,g,f]:=λc o e d=>by have:=(j c d).1;rw[e]at this;cases this
  refine L2.Inv.step (s:=s) (h':=N) (g':=s.gens) (d':=s.drawn) (t':=s.toks) (ch:=[z,TI,TO,g,f]) I (λc d=>?_) (λc o _ _ n e _=>w c o n e) (λc o _ _ n e _=>⟨o.slots,w c o n e⟩) (λc o _ e n=>by rw[aw (NG (MV e))];exact n) (λc o n e=>⟨o,w c o n e⟩)
   (λc ls e=>by rw[aw (aY e C)];exact e) (λc o ls e=>by rw[aw (aY e C)];exact e) (λc ps e=>⟨#[],by rw[aw (aY e C),e];simp⟩) (λm y=>?_) (λc o e=>?_) I.bare
  ·obtain⟨f0,N,f2,M,L,J⟩:=j c d;exact⟨M,N,L,J⟩
  ·obtain⟨o,PL,ep,x,r⟩:=y;exact⟨o,PL,ep,w _ o (λq=>(j _ q).2.1 rfl) x,r⟩
  ·by_cases Ze:c=s.heap.objs.size
   ·subst Ze;rw[aI]at e;cases e;exact⟨by rw[sizeLine_eq];show 2<=16777216;decide,[u,v],.cons ru (.cons rv .nil),⟨_,b,rfl,_,rfl⟩⟩
   ·rw[aw Ze]at e;refine(I.MF c o e).Qf (λd' b u q=>w d' b ?_ q) (λd' q=>by rw[aw (aY q C)];exact q) λd' ls q=>by rw[aw (aY q C)];exact q
    rcases u with q'|q'
    ·rw[q'];exact a c o e
    ·exact a d' _ q'
 done:=by
  intro X hP hw hK d i G s σ H E I j st hg;subst hP hw hK;obtain⟨xs,ys,p,A,i⟩:=hg;obtain⟨us,T,Y⟩:=p.list I;obtain⟨ws,Q,U⟩:=A.list I;have t:∀{k:Bool} {l:Addr} {O:yar},QA X.K k H l O->Out z TO g f l:=λq=>⟨q.ne I (j z (by simp)),q.ne I (j TO (by simp)),q.ne I (j g (by simp)),q.ne I (j f (by simp))⟩
  refine Gu (I.ok.hd d) D (t p) (t A) st Y U (i.imp (λq=>by simpa using T.none_of q) λq=>by simpa using Q.none_of q) λh' B=>⟨rfl,?_⟩
  have w:∀c o,c ∉ [z,TI,TO,g,f]->s.heap.get? c=some o->h'.get? c=some o:=λc o n e=>by simp only[MD,OX,or_false,not_or]at n;exact B c o n.1 n.2.2.1 n.2.2.2.1 n.2.2.2.2 e
  have a:∀c o,H c=some o->c ∉ [z,TI,TO,g,f]:=λc o e d=>by have:=(j c d).1;rw[e]at this;cases this
  refine L2.Inv.step (s:=s) (h':=h') (g':=s.gens) (d':=s.drawn) (t':=s.toks) (ch:=[z,TI,TO,g,f]) I (λc d=>?_) (λc o _ _ n e _=>w c o n e) (λc o _ _ n e _=>⟨o.slots,w c o n e⟩) (λ_ _ _ _ n=>n) (λc o n e=>⟨o,w c o n e⟩) (λ_ _ e=>e) (λ_ _ _ e=>e) (λc ps e=>⟨#[],by rw[e];simp⟩) (λm y=>?_) (λc o e=>?_) I.bare
  ·obtain⟨f0,N,f2,M,L,J⟩:=j c d;exact⟨M,N,L,J⟩
  ·obtain⟨o,PL,ep,x,r⟩:=y;exact⟨o,PL,ep,w _ o (λq=>(j _ q).2.1 rfl) x,r⟩
  ·refine(I.MF c o e).Qf (λd' b u q=>w d' b ?_ q) (λ_ q=>q) λ_ _ q=>q
   rcases u with q'|q'
   ·rw[q'];exact a c o e
   ·exact a d' _ q'
 self:=λ_ _ _ _ _ st h=>wpAny_pyIter_zip st.z h
def gB:D->Option (Bool×yas)
 |.lst _ a=>some (true,a)
 |.tup a=>some (false,a)
 |_=>none
section
variable{X:Cx}
def Den.seq{k:Bool}{ds:yas}(h:Den X.K P H d v)(e:gB d=some (k,ds)):∃a vs,v=.ref a/\QA X.K k H a vs/\af X.K P H ds vs ∧
  ∀ (P':yak) (H':Hp),(∀a vs,MW X.K H a vs->MW X.K H' a vs)->(∀t a vs,¬P t a->Oh X.K H t a vs->¬P' t a/\Oh X.K H' t a vs)->QA X.K k H' a vs:=by
 cases d with
 |lst t f =>
  cases e;obtain⟨a,vs,c,p,q,b⟩:=h.OT;exact⟨a,vs,c,q.1,b,λP' H' _ d=>(d t a vs p q).2.1⟩
 |tup f =>
  cases e;obtain⟨a,vs,c,q,b⟩:=h.Oi;exact⟨a,vs,c,q.w,b,λP' H' b _=>(b a vs q).w⟩
 |MU=>cases e
 |bl _=>cases e
 |int _=>cases e
 |str _=>cases e
 |exc _=>cases e
 |obj _ _ _=>cases e
 |QQ=>cases e
 |PN _ _=>cases e
def Jm(b:DA):DA:=λa R=>b a λg=>∃d c f e b a,g=[d,c]/\gB d=some (f,b)/\gB c=some (e,a)/\R (List.zipWith (λx y=>D.tup [x,y]) b a)
def oE {a b:Expr} {p:Pos} (hg:Gl X "zip") (hm:X.mg "zip" = none) (ha:Rk X [a,b] ta) (hs:starEach [a,b] X.env=(false,eval a X.env)::starEach [b] X.env:=by rfl) (TY:(backTo pos (starEach [b] X.env)).any (·.1)=false:=by rfl) :
  QR X (.Tuple es kt tp) (.Call (.Name "zip" p) [a,b] [] pos) (Jm ta):=by
 intro g s σ H W ρ R I r h;refine Call_ (dD I hg hm boot_zip (PyProof.Rows.callWith_type1 (Mw (ha pos g s σ H W ρ _ I r h) λus f Mx=>?_) hs TY));obtain⟨vs,H1,ds,k,r1,e1,hd,q1⟩:=Mx;obtain⟨d1,d2,k1,k2,l,t,e,g1,g2,q⟩:=q1;subst e;obtain⟨v1,v2,rfl,Rl,E⟩:=pJ hd;obtain⟨l1,N,e2,w,L,up1⟩:=Rl.seq g1;obtain⟨l2,M,e3,u,J,XO⟩:=E.seq g2;subst e2 e3;cases r1 with
 |cons ra A =>
  cases A with
  |cons rb A =>
   cases A;cases ra;cases rb;obtain⟨us1,_,p1⟩:=w.list k;obtain⟨us2,_,p2⟩:=u.list k;have nn:∀j:Nat,f.heap.objs.size<=f.heap.objs.size+j:=λj=>Vz _ j
   refine Gq p1 p2 λh' Z kp=>?_
   refine wpAny_pyIter_zip Z.z ?_;have Dz:Ap (f.heap.objs.size+4) (f.heap.objs.size+2) (f.heap.objs.size+3) f.heap.objs.size (f.heap.objs.size+1):=by constructor<;>simp
   refine⟨f.heap.objs.size+4,[f.heap.objs.size+4,f.heap.objs.size+2,f.heap.objs.size+3,f.heap.objs.size,f.heap.objs.size+1],_,_,H1,_,rfl,k.kept (t':=f.toks) kp,e1,FI k1 k2 l1 l2 _ _ _ _ _ Dz,Z,λc U=>?_,?_,q⟩
   ·have Ry:f.heap.objs.size<=c:=by
     simp only[MD,OX,or_false]at U;rcases U with q|q|q|q|q<;>subst q<;>first|exact nn _|exact MS _
    exact k.TQ Ry (k.MF.fresh Ry)
   ·intro P' o m n Y i;have O:=up1 P' o m n;have G:=XO P' o m n;have n1:=L.len;have n2:=J.len;have hlen:(List.zipWith (λx y=>D.tup [x,y]) l t).length=min l.length t.length:=List.length_zipWith;refine⟨λd=>?_,λv H3 y d=>?_,λd=>⟨N,M,O,G,?_⟩⟩
    ·obtain⟨x,C,_⟩:=L.get (i:=i) (d:=l[i]'(by lia)) (by simp);obtain⟨y,B,_⟩:=J.get (i:=i) (d:=t[i]'(by lia)) (by simp);exact⟨N,M,x,y,O,G,C,B⟩
    ·obtain⟨T,x,Q,e,nT,eH,C,B⟩:=y;subst e eH;obtain⟨dx,Q6,Qx⟩:=L.bA (C N O);obtain⟨dy,Ua,RA⟩:=J.bA (B M G);have z:av o (L2.upd o T (.tup [x,Q])):=av.upd nT;refine⟨z,.tup [dx,dy],by simp[List.getElem?_zipWith,Q6,Ua],Den.tup (MW.of aI) (af.cons ((Den.map m n Y dx x Qx).same z) (af.one ((Den.map m n Y dy Q RA).same z)))⟩
    ·by_cases hz:l.length<=i
     ·exact .inl (Sr (by lia))
     ·exact .inr (Sr (by lia))
end
open PySem PySem.Spec PyProof.Rows L2
def QS(X:Cx)(e:Expr)(t:DA):Prop :=
 ∀ (b:yab) (s:Shared) (d:St) (H:Hp) (W:Own) (a:Ro) (Q:yas->Prop),Inv X b d H s->Rel X W H d a->t a Q →
  wpAny (model X.prog X.w) X.A (eval e X.env) (λu g=>∃a e c f,u=.ref a/\Inv X b d c g/\av H c/\H a=none/\X.K.lookup a=none/\c a=some (.lst e)/\af X.K (λt b=>W.bad t b∨b=a) c f e/\Q f) X.xe s
def I0(t:DA):DE:=λa Q=>t a λa=>Q (.lst true a)
section
variable{X:Cx}{e:Expr}{t:DA}{pos:Pos}
def QS.Ub(h:QS X e t):MI X e (I0 t):=by
 intro a s b H W c Q I r d;refine Mw (h a s b H W c _ I r d) λu s1 f=>?_
 obtain⟨a,vs,h,ds,e,g,b,n,k,d,c,q⟩:=f;subst e;exact⟨.ref a,h,_,g,rfl,b,Den.lst (r.fresh n) (.new d k) (c.My λ_ _ z=>.inl z),q⟩
def QS.of(h:PE X e te)(k:∀c H W ρ Q,Rel X W H c ρ->t ρ Q->te c H λv H'=>∃a vs ds d,v=.ref a/\av H d/\d a=none/\H'=L2.upd d a (.lst vs)/\af X.K W.bad d ds vs/\Q ds)(f:∀b c H s a vs,Inv X b c H s->H a=some (.lst vs)->X.K.lookup a=none):QS X e t:=by
 intro b s c H W ρ Q I r g;refine Mw (h b s c H _ I (k c H W ρ Q r g)) λu s1 i=>?_
 obtain⟨v,H',b,g,a,vs,ds,d,e,c,n,h,d,q⟩:=i;subst e h;cases g;exact⟨a,vs,_,ds,rfl,b,c.trans (av.upd n),c.free n,f _ _ _ _ a vs b aI,aI,af.apart n (f _ _ _ _ a vs b aI) d,q⟩
def Inv.Zg{o:HO}(I:Inv X pins σ H s)(h:H a=some o):X.K.lookup a=none:=by
 cases e:X.K.lookup a with
 |none=>rfl
 |some b =>
  have:=(I.bs a b (I.ok.mod.Yt a b e)).2;rw[h]at this;cases this
end
mutual
def oI:D->Bool
 |.tup a=>fu a
 |.obj _ _ a=>fu a
 |.PN _ a=>fu a
 |.lst _ _=>false
 |_=>true
def fu:yas->Bool
 |[]=>true
 |d::a=>oI d && fu a
end
section
variable{K:yac}{P P':yak}{H:Hp}
mutual
theorem Den.Uc:∀(d:D) (v:V),oI d=true->Den K P H d v->Den K P' H d v
 |.MU,_,_,h=>by simpa only[Den]using h
 |.bl _,_,_,h=>by simpa only[Den]using h
 |.int _,_,_,h=>by simpa only[Den]using h
 |.str _,_,_,h=>by simpa only[Den]using h
 |.exc _,_,_,h=>by simpa only[Den]using h
 |.obj C ns c,_,n,h=>by rw[oI]at n;simp only[Den]at h ⊢;obtain⟨a,d,b,e,q,l,k,r⟩:=h;exact⟨a,d,b,e,q,l,k,af.Uc c b n r⟩
 |.QQ,_,_,h=>by simpa only[Den]using h
 |.PN ks c,_,n,h=>by rw[oI]at n;simp only[Den]at h ⊢;obtain⟨a,o,d,b,e,q,l,k,r⟩:=h;exact⟨a,o,d,b,e,q,l,k,af.Uc c b n r⟩
 |.lst _ _,_,n,_=>by rw[oI]at n;cases n
 |.tup c,_,n,h=>by rw[oI]at n;simp only[Den]at h ⊢;obtain⟨a,b,e,q,r⟩:=h;exact⟨a,b,e,q,af.Uc c b n r⟩
theorem af.Uc:∀(ds:yas) (vs:yar),fu ds=true->af K P H ds vs->af K P' H ds vs
 |[],_,_,h=>by simpa only[af]using h
 |d::ds,_,n,h=>by rw[fu,Ut]at n;simp only[af]at h ⊢;obtain⟨v,r,e,b,a⟩:=h;exact⟨v,r,e,Den.Uc d v n.1 b,af.Uc ds r n.2 a⟩
end
end
def Own.soft(W:Own)(i:Nat)(a:Addr):Own:=⟨W.B,λj=>if j=i then none else W.O j,λb=>W.S b∨b=a⟩
section
variable{X:Cx}
theorem Rel.soft{i:Nat}(r:Rel X W H σ ρ)(e:ρ[i]?=some (some (.own ds))):∃a,W.O i=some a/\Rel X (W.soft i a) H σ (ρ.set i (some (.val (.lst false ds))))/\∀b,W.bad true b->(W.soft i a).bad true b:=by
 obtain⟨a,vs,l,n,o,s⟩:=r.eV i ds e;have p:i<ρ.length:=(Nk.mp e).1;have f:∀j b,(W.soft i a).O j=some b->j≠i/\W.O j=some b:=λj b h=>by
  have c:(if j=i then none else W.O j)=some b:=h;by_cases z:j=i
  ·rw[Ml z]at c;cases c
  ·rw[Mj z]at c;exact⟨z,c⟩
 have g:∀t b,(W.soft i a).bad t b->W.bad t b:=λt b z=>by
  rcases z with z|⟨j,z⟩| ⟨d,z2⟩
  ·exact .inl z
  ·exact .inr (.inl ⟨j,(f j b z).2⟩)
  ·rcases z2 with z2|z2
   ·exact .inr (.inr ⟨d,z2⟩)
   ·subst z2;exact .inr (.inl ⟨i,l⟩)
 have q:¬(W.soft i a).bad false a:=λz=>by
  rcases z with z|⟨j,z⟩| ⟨d,_⟩
  ·exact(r.kn i a l).2.1.1 z
  ·exact(f j a z).1 (r.inj j i a (f j a z).2 l)
  ·cases d
 refine⟨a,l,⟨λj d h=>?_,λj x h=>?_,λj k b c m=>r.inj j k b (f j b c).2 (f k b m).2,λj b h=>?_,λj b h=>r.ke j b (f j b h).2,r.bt,λb h=>?_,r.ent,r.tab⟩,λb z=>?_⟩
 ·by_cases e:j=i
  ·subst e;rw[O9 p]at h;cases h;exact⟨.ref a,n,Den.lst q (.any (SqL.of o)) (s.My g)⟩
  ·rw[Ov (Ne.symm e)]at h;obtain⟨w,c,m⟩:=r.val j d h;exact⟨w,c,m.My g⟩
 ·by_cases e:j=i
  ·subst e;rw[O9 p]at h;cases h
  ·rw[Ov (Ne.symm e)]at h;obtain⟨b,a,c,m,p,d⟩:=r.own j x h;exact⟨b,a,by show(if j=i then none else W.O j)=_;rw[Mj e];exact c,m,p,d.My g λk c q=>(by show(if OU σ.length j k=i then none else W.O (OU σ.length j k))=_;rw[Mj (iu (Nk.mp n).1)];exact q)⟩
 ·obtain⟨g,⟨d,c⟩,a⟩:=r.kn j b (f j b h).2;refine⟨g,⟨d,λz=>z.elim c λz=>?_⟩,a⟩;subst z;exact(f j b h).1 (r.inj j i b (f j b h).2 l)
 ·rcases h with h|h
  ·exact r.st b h
  ·subst h;exact⟨_,o⟩
 ·rcases z with z|⟨j,z⟩| ⟨_,z⟩
  ·exact .inl z
  ·by_cases e:j=i
   ·subst e;rw[l]at z;cases z;exact .inr (.inr ⟨rfl,.inr rfl⟩)
   ·exact .inr (.inl ⟨j,by show(if j=i then none else W.O j)=_;rw[Mj e];exact z⟩)
  ·exact .inr (.inr ⟨rfl,.inl z⟩)
variable{e:Expr}{te:DE}{tt:DT}{ta:DA}
def Ca(i:Nat)(t:DT):DT:=λa Q=>∃b,a[i]?=some (some (.own b))/\t (a.set i (some (.val (.lst false b)))) Q
def GS(i:Nat)(h:Rj X e tt):Rj X e (Ca i tt):=by intro b s d H W ρ Q I r c;obtain⟨ds,f,c⟩:=c;obtain⟨a,oa,a,up⟩:=r.soft f;exact h b s d H _ _ _ I a c
end
section
variable{X:Cx}{pos:Pos}
theorem af.take{K:yac}{P:yak}{H:Hp}:∀{ds:yas} {vs:yar} (n:Nat),af K P H ds vs->af K P H (ds.take n) (vs.take n)
 |_,_,0,_=>by simp only[List.take_zero];exact af.nil
 |[],_,_+1,h=>by simp only[af]at h;subst h;exact af.nil
 |x::r,_,n+1,h=>by simp only[af]at h;obtain⟨u,w,rfl,b,a⟩:=h;exact af.cons b (af.take n a)
theorem af.drop{K:yac}{P:yak}{H:Hp}:∀{ds:yas} {vs:yar} (n:Nat),af K P H ds vs->af K P H (ds.drop n) (vs.drop n)
 |_,_,0,h=>by simpa only[List.drop_zero]using h
 |[],_,_+1,h=>by simp only[af]at h;subst h;exact af.nil
 |x::r,_,n+1,h=>by simp only[af]at h;obtain⟨u,w,rfl,h1,a⟩:=h;exact af.drop n a
theorem af.rev{K:yac}{P:yak}{H:Hp}:∀{ds:yas} {vs:yar},af K P H ds vs->af K P H ds.reverse vs.reverse
 |[],_,h=>by simp only[af]at h;subst h;exact af.nil
 |x::r,_,h=>by simp only[af]at h;obtain⟨u,w,rfl,b,a⟩:=h;rw[Wa,Wa];exact(af.rev a).append (af.one b)
def AW(i:Nat)(C:yas->Prop)(f:yas->yas):DS:=λE b=>∃a,b[i]?=some (some (.own a))/\C a/\E.nx (b.set i (some (.own (f a))))
def EA {x name:Str} {id:String} {e c b:Pos} {h:V->yar->Hp->VK->Prop} {C:yas->Prop} {f:yas->yas} (g:yar->yar) (i:Nat) (d:Slot "list" name id) (p:typeOf (.builtin id)=pure (.type "method_descriptor")) (l:MtM X id h)
  (k:∀(a:Addr) (vs:yar) (ds:yas) (H:Hp) (Q:VK),H a=some (.lst vs)->vs.length=ds.length->C ds->(∀v,Q v (L2.upd H a (.lst (g vs))))->h (.ref a) [] H Q) (n:∀(K:yac) (P:yak) (H:Hp) (ds:yas) (vs:yar),af K P H ds vs->af K P H (f ds) (g vs))
  (m:X.N[i]?=some x:=by rfl) (j:S1 X.env.scope x:=by first|exact Or.inl rfl|exact Or.inr (Or.inl rfl)|exact Or.inr (Or.inr rfl)) (o:(x==("__debug__" : Str))=false:=by decide) (q:(x==("__classdict__" : Str))=false:=by decide)
  (s:attributeBase (.Name x e) name X.env (eval (.Name x e) X.env)=eval (.Name x e) X.env:=by rfl) (r:(c.endLine==b.line)=true:=by rfl)
  (hs:swapsWith (.Call (.Attribute (.Name x e) name c) [] [] b) none pos.line X.env=pure false:=by rfl):OJ X (.Expr (.Call (.Attribute (.Name x e) name c) [] [] b) pos) (AW i C f):=by
 have b:=l9 (pos:=pos) (C9 PySem.F.plainAttrs_list d p l (gU m j o q) s r) hs;refine OJ.of b λσ H W ρ E r hl h=>?_
 obtain⟨ds,d,j,h⟩:=h;obtain⟨a,vs,g,c,b,e⟩:=r.eV i ds d;obtain⟨f,i⟩:=r.S6 d g c b (n _ _ _ ds vs e);exact⟨.ref a,c,.inl ⟨rfl,_,SqL.of b⟩,k a vs ds H _ b e.len j λv=>⟨W,_,i,f,h⟩⟩
theorem af.dropLast{K:yac}{P:yak}{H:Hp}{ds:yas}{vs:yar}(h:af K P H ds vs):af K P H ds.dropLast vs.dropLast:=by rw[List.dropLast_eq_take,List.dropLast_eq_take,h.len];exact h.take _
def Jt {x:Str} {c b a:Pos} (i:Nat) (e:X.N[i]?=some x:=by rfl) (d:S1 X.env.scope x:=by first|exact Or.inl rfl|exact Or.inr (Or.inl rfl)|exact Or.inr (Or.inr rfl)) (f:(x==("__debug__" : Str))=false:=by decide) (j:(x==("__classdict__" : Str))=false:=by decide)
  (l:attributeBase (.Name x c) "pop" X.env (eval (.Name x c) X.env)=eval (.Name x c) X.env:=by rfl) (k:(b.endLine==a.line)=true:=by rfl)
  (hs:swapsWith (.Call (.Attribute (.Name x c) "pop" b) [] [] a) none pos.line X.env=pure false:=by rfl):OJ X (.Expr (.Call (.Attribute (.Name x c) "pop" b) [] [] a) pos) (AW i (λds=>0<ds.length) List.dropLast) :=
 EA List.dropLast i PySem.F.slot_list_pop PySem.F.type_list_pop J2 (λa b ds H Q g hl hc q=>by
  have c:b.length - 1<b.length:=by omega
  exact⟨a,b,b[b.length - 1],rfl,rfl,g,by simp[c],q _⟩) (λ_ _ _ _ _ h=>h.dropLast) e d f j l k hs
def LK(i:Nat)(f:Int->Int->Int)(te:DE):DS:=λE c=>∃a,c[i]?=some (some (.val (.int a)))/\te c λd=>∃b,d=.int b/\E.nx (c.set i (some (.val (.int (f a b)))))
def Jr{x:Str}(i:Nat)(h:X.N.Nodup)(g:MI X e te)(b:PIp X op (ipI f))(c:X.N[i]?=some x:=by rfl)(a:Loc X.env.scope x:=by first|exact Or.inl rfl|exact Or.inr rfl)
  (d:X.fn x=true∨X.env.scope.names.lookup x=some .local:=by first|exact .inl rfl|exact .inr rfl|assumption):OJ X (.AugAssign (.Name x pos') op e pos) (LK i f te):=by
 refine OJ.of (Kk h c a g.pe b d) λe H W b E r g h=>?_
 obtain⟨a,j,h⟩:=h;obtain⟨v,d,f⟩:=r.val i _ j;have z:=f.M9;subst z;refine⟨.int a,d,W,b,_,r,h,λv' h d d f q=>?_⟩;obtain⟨b,rfl,q⟩:=q;have z:=f.M9;subst z;have f:i<e.length:=by rw[g];exact(Nk.mp c).1
 exact⟨a,b,rfl,rfl,W.drop i,_,(ML.same d).trans (ML.drop W h i),(r.same d).put f (Den.int _),q⟩
variable{e:Expr}{te:DE}{p:Pos}
def F9(te:DE):DA:=λa Q=>te a λd=>∃k a,gB d=some (k,a)/\Q a
def wX{K:yac}{P:yak}{H:Hp}{d:D}{v:V}{k:Bool}{ds:yas}(h:Den K P H d v)(e:gB d=some (k,ds)):∃a vs,v=.ref a/\(SqL K H a vs∨MW K H a vs)/\af K P H ds vs:=by
 cases d with
 |lst t d =>
  cases e;obtain⟨a,vs,c,p,q,b⟩:=h.OF;exact⟨a,vs,c,.inl q,b⟩
 |tup d =>
  cases e;obtain⟨a,vs,c,q,b⟩:=h.Oi;exact⟨a,vs,c,.inr q,b⟩
 |MU=>cases e
 |bl _=>cases e
 |int _=>cases e
 |str _=>cases e
 |exc _=>cases e
 |obj _ _ _=>cases e
 |QQ=>cases e
 |PN _ _=>cases e
def zy (c:Gl X "list") (b:X.mg "list" = none) (d:MI X e te) (a:starEach [e] X.env=(false,eval e X.env)::starEach [] X.env:=by rfl) (f:(backTo pos (starEach [] X.env)).any (·.1)=false:=by rfl):QS X (.Call (.Name "list" p) [e] [] pos) (F9 te):=by
 refine QS.of (Dc wu c b boot_list (j9 d.pe oM a) (by decide) (by decide) a f) (λσ H W a Q r h=>?_) λ_ _ _ _ _ _ I h=>Inv.Zg I h
 refine⟨W,a,_,r,h,λv m d h d q=>?_⟩;obtain⟨k,i,g,q⟩:=q;obtain⟨a,b,f,c,j⟩:=wX d g;subst f;exact⟨a,b,rfl,c.imp id MW.w,λl a=>⟨l,b,i,m,rfl,h,a,rfl,j,q⟩⟩
theorem du{K:yac}{P:yak}{H:Hp}:∀{ns:yaf} {vs:yar},af K P H (ns.map D.int) vs->vs=ns.map V.int
 |[],_,h=>by simpa only[Sv,af]using h
 |n::r,_,h=>by simp only[MN,af]at h;obtain⟨v,w,rfl,b,a⟩:=h;rw[b.M9,du a];rfl
def B5 (u:X.calm=true):eB X (.builtin "sum") (λds Q=>∃(t:Bool) (ns:yaf),ds=[.lst t (ns.map D.int)]/\Q (.int ns.sum)):=by
 intro pins s σ H W ds vs us Q I tr r o q;obtain⟨t,ns,e,q⟩:=q;subst e;obtain⟨v,rfl,w⟩:=pI o;obtain⟨a,ws,x,_,m,l⟩:=w.OF;subst x;cases r with
 |cons i h =>
  cases h;cases i;obtain⟨g,c,j,_⟩:=I.list m;rw[du l]at c;have d:=intsAre_of c;obtain⟨b,f⟩:=d.allInts.items;have n:s.heap.IsList a (intItems b):=by rw[<- f];exact j.isList
  refine sum_intListG (I.ok.hd u) n λh' tk t' k=>?_
  have y:preSum (numAt b) b.size=ns.sum:=by rw[preSum_eq,UN (by simp),<- nums_intItems,<- f,show g.toArray.toList=g from rfl,d.numsOf]
  rw[y];exact⟨.int ns.sum,H,_,I.kept k,⟨_,rfl⟩,av.refl H,Den.int _,q⟩
theorem Vals.rev:∀{xs:yar} {a:yad},Vals xs a->Vals xs.reverse a.reverse
 |_,_,.nil=>.nil
 |_,_,.cons r t=>by rw[Wa,Wa];exact(Vals.rev t).append (.cons r .nil)
def cutD(xs:yas)(lo a:yaq):yas:=(xs.drop (HT.MZ xs.length 0 lo)).take (HT.MZ xs.length xs.length a - HT.MZ xs.length 0 lo)
def af.cut{K:yac}{P:yak}{H:Hp}{ds:yas}{vs:yar}(lo a:yaq)(h:af K P H ds vs):af K P H (cutD ds lo a) (oh vs lo a):=by unfold cutD oh;rw[h.len];exact(h.drop _).take _
abbrev DO:=Ro->(yaq->Prop)->Prop
def UG(X:Cx)(e:Option Expr)(t:DO):Prop :=
 ∀ (a:yab) (s:Shared) (b:St) (H:Hp) (W:Own) (c:Ro) (Q:yaq->Prop),Inv X a b H s->Rel X W H b c->t c Q →
  wpAny (model X.prog X.w) X.A (evalPart e X.env) (λu d=>∃o c,Inv X a b c d/\IsPart u o/\av H c/\Q o) X.xe s
def dj:DO:=λ_ Q=>Q none
def rL(te:DE):DO:=λa Q=>te a λd=>∃i,d=.int i/\Q (some i)
def dw:UG X none dj:=by intro pins s σ H W ρ Q I r h;rw[evalPart_none];exact Mt ⟨none,H,I,.none,av.refl H,h⟩
def gH(d:MI X e te):UG X (some e) (rL te):=by
 intro a s b H W c Q I r h;rw[evalPart_some];refine Mw (d a s b H W c _ I r h) λu s1 f=>?_
 obtain⟨v,h,d,g,a,d,b,i,c,q⟩:=f;subst c;have z:=b.M9;subst z;obtain⟨t,rfl⟩:=a;exact⟨some i,h,g,.int i t,d,q⟩
variable{lo hi st:Option Expr}{tl th ts:DO}{p2:Pos}
def q9{R:D->yaq->yaq->yaq->Prop}(m:MI X e te)(j:UG X lo tl)(n:UG X hi th)(q:UG X st ts)(I:Inv X pins σ H s)(r:Rel X W H σ ρ)
  (h:te ρ λd=>tl ρ λl=>th ρ λu=>ts ρ λk=>R d l u k)
  (z:∀(v:V) (a g f i:Value) (l u k:yaq) (d:D) (b:Addr) (H':Hp) (c:Shared),Inv X pins σ H' c->av H H'->RelV v a->Den X.K W.bad H' d v->c.heap.IsSliceOf b g f i->IsPart g l->IsPart f u->IsPart i k->R d l u k →
   ∃ T id,typeLookup (.type T) "__getitem__" = pure (some (.builtin id))/\c.TypeIs a T/\wpAny (model X.prog X.w) X.A (getItem a (.ref b)) Q X.xe c)
  (B:∀a b,∃ops,subscripted (.Slice lo hi st p2) false a b=operate ops (getItem a b)):wpAny (model X.prog X.w) X.A (eval (.Subscript e (.Slice lo hi st p2) pos) X.env) Q X.xe s:=by
 refine Subscript_ (Mw (m pins s σ H W ρ _ I r h) λa c m=>?_);obtain⟨v,w,d,t,s,o,A,h⟩:=m;have b:=r.same o;refine wpAny_Slice (Mw (j pins c σ w W ρ _ t b h) λg c ⟨l,t,r,x,h,j⟩=>Mw (n pins c σ t W ρ _ r (b.same h) j) λf c ⟨u,t,r,w,j,n⟩=>Mw (q pins c σ t W ρ _ r ((b.same h).same j) n) λi c m=>?_);obtain⟨k,r,b,y,n,t⟩:=m;have C:Inv X pins σ r {c with heap:=c.heap.push {cls:=.type "slice", data:=.fields #[g,f,i]} }:=b.kept (t':=c.toks) λb ob q=>Nd _ q
 obtain⟨T,id,q,b,m⟩:=z v a g f i l u k d c.heap.objs.size r _ C (o.trans (h.trans (j.trans n))) s (A.same (h.trans (j.trans n))) (Heap.IsSliceOf.new ..) x w y t;show wpAny (model X.prog X.w) X.A (subscriptTail e (.Slice lo hi st p2) a (.ref c.heap.objs.size)) Q X.xe _;obtain⟨ops,d⟩:=B a (.ref c.heap.objs.size);exact tail_any (ops:=ops) b q m d
def Jf(te:DE)(tl th:DO):DA:=λa Q=>te a λd=>tl a λl=>th a λu=>∃t a,d=.lst t a/\Q (cutD a l u)
def Jg(te:DE)(tl th:DO):DE:=λa Q=>te a λd=>tl a λl=>th a λu=>∃a,d=.tup a/\¬(HT.MZ a.length 0 l=0/\HT.MZ a.length a.length u=a.length)/\Q (.tup (cutD a l u))
def qo(f:yar->yar)(g:yas->yas)(I:Inv X pins σ H' s)(r:Rel X W H' σ ρ)(h:av H H')(m:RelV v vv)(A:Den X.K W.bad H' (.lst tg ds) v)(hs:s.heap.IsSliceOf sl vl vu vk)(o:IsPart vl l)(n:IsPart vu u)(w:IsPart vk k)(x:k≠some 0)
  (y:∀c:yad,∃g':yad->yad,slicePick c.toArray l u k=(g' c).toArray/\∀vs,Vals vs c->Vals (f vs) (g' c)/\(f vs).length<=vs.length) (z:∀vs,af X.K W.bad H' ds vs->af X.K W.bad H' (g ds) (f vs)) {Q:yas->Prop} (q:Q (g ds)) :
  ∃ T id,typeLookup (.type T) "__getitem__" = pure (some (.builtin id))/\s.TypeIs vv T/\wpAny (model X.prog X.w) X.A (getItem vv (.ref sl)) (λi j=>∃a vs d ds,i=.ref a/\Inv X pins σ d j/\av H d/\H a=none/\X.K.lookup a=none/\d a=some (.lst vs)/\af X.K (λt b=>W.bad t b∨b=a) d ds vs/\Q ds) X.xe s:=by
 obtain⟨a,vs,a,_,j,l⟩:=A.OF;subst a;cases m;obtain⟨c,d,a,i⟩:=I.list j;have hlen:=d.length;refine⟨"list", _,slot_list_getitem.lookup,a.isList.typeIs,?_⟩;refine wpAny_getItem_list_slice a.isList hs o n w x ?_ (by rw[Og]<;>lia);obtain⟨g',e,j⟩:=y c;rw[e];obtain⟨a,k⟩:=j vs d;have c:H' s.heap.objs.size=none:=I.MF.fresh (MS _);refine⟨s.heap.objs.size,f vs,_,g ds,rfl,I.laid (t':=s.toks) (o:=.lst (f vs)) (λb ob q=>Nd _ q) (MS _) ⟨Pa k i,_,0,a,OI _ rfl⟩,h.trans (av.upd c),h.free c,Inv.NA I,aI,af.apart c (Inv.NA I) (z vs l),q⟩
def qD(g:MI X e te)(c:UG X lo tl)(f:UG X hi th):QS X (.Subscript e (.Slice lo hi none p2) pos) (Jf te tl th):=by
 intro pins s σ H W b Q I r h;refine q9 (st:=none) (ts:=dj) (R:=λd l u k=>k=none/\∃t a,d=.lst t a/\Q (cutD a l u)) g c f dw I r ?_ ?_ (λ_ _=>⟨_,rfl⟩)
 ·have c:(λd=>tl b λl=>th b λu=>dj b λk=>k=none/\∃t a,d=D.lst t a/\Q (cutD a l u))=λd=>tl b λl=>th b λu=>∃t a,d=D.lst t a/\Q (cutD a l u):=by
   funext d
   congr 1
   funext l
   congr 1
   funext u
   exact propext ⟨λz=>z.2,λz=>⟨rfl,z⟩⟩
  rw[c];exact h
 ·intro v vv vl vu vk l u k d sl H' s' n c d j i g f h b;obtain⟨k,t,a,m,q⟩:=b;subst k m;exact qo (λb=>oh b l u) (λa=>cutD a l u) n (r.same c) c d j i g f h (by simp) (λa=>⟨λa=>(a.drop (HT.MZ a.length 0 l)).take (HT.MZ a.length a.length u - HT.MZ a.length 0 l),vC a l u,λb a=>⟨by unfold oh;rw[a.length];exact(a.drop _).take _,qk b l u⟩⟩) (λb a=>a.cut l u) q
def Je(te:DE):DA:=λa Q=>te a λd=>∃t a,d=.lst t a/\Q a.reverse
def wZ(b:MI X e te):QS X (.Subscript e (.Slice none none (some (.UnaryOp .USub (.Constant (.int 1) j pc) f)) p2) pos) (Je te):=by
 intro pins s σ H W c Q I r h;refine q9 (ts:=rL (wO (dC (.int 1)))) (tl:=dj) (th:=dj) (R:=λd l u k=>l=none/\u=none/\k=some (-1)/\∃t a,d=.lst t a/\Q a.reverse) b dw dw (gH (bT ae)) I r ?_ ?_ (λ_ _=>⟨_,rfl⟩)
 ·have b:(λd=>dj c λl=>dj c λu=>rL (wO (dC (.int 1))) c λk=>l=none/\u=none/\k=some (-1)/\∃t a,d=D.lst t a/\Q a.reverse)=λd=>∃t a,d=D.lst t a/\Q a.reverse:=by
   funext d
   apply propext;simp only[dj,rL,wO,dC,true_and];constructor
   ·rintro⟨i,b,i',i,g,z⟩;exact z
   ·intro z;exact⟨1,rfl,-1,rfl,rfl,z⟩
  rw[b];exact h
 ·intro v vv vl vu vk l u k d sl H' s' n c d l k h f j m;obtain⟨b,i,g,t,a,a,q⟩:=m;subst b i g a;exact qo List.reverse List.reverse n (r.same c) c d l k h f j (by decide) (λa=>⟨List.reverse,PySem.W.krv_pick a.toArray,λa b=>⟨Vals.rev b,by rw[RW];exact MS _⟩⟩) (λa a=>a.rev) q
end
section
variable{prog:Program}{w:World}{A:Around}{E:yaa}{s:Shared}{p q:Addr}{us ws:yad}{Q:yaa}
def LF(c:s.heap.IsList p us.toArray)(m:s.heap.IsList q ws.toArray)(hz:us.length+ws.length<=sizeLine)
  (h:Q (.ref s.heap.objs.size) {s with heap:=s.heap.push {cls:=.type "list", data:=.seq (us++ws).toArray} }):wpAny (model prog w) A (binaryOp .Add (.ref p) (.ref q)) Q E s:=by
 obtain⟨⟨c1,l,x1,g⟩,b,a,j,g3⟩:=id c;obtain⟨⟨c2,k,x2,f⟩,e,d,i,c⟩:=id m;simp only at a g3 d c;subst a g3 d c;refine concat_meets ⟨_,b,rfl⟩ ⟨_,e,rfl⟩ noFill_list_add seq_list_add PySem.F.slot_list_add PySem.F.entry_list_add (PySem.F.args_list_add_2 _ _) (list_addW p q us.toArray ws.toArray j i l k g f (by simpa using hz)) ⟨b,e,?_⟩;rw[show us.toArray++ws.toArray=(us++ws).toArray by simp];exact h
def iD(b:IsTup s.heap p us.toArray)(m:IsTup s.heap q ws.toArray)(hz:us.length+ws.length<=sizeLine)(h0:us=[]->Q (.ref q) s)(n:ws=[]->Q (.ref p) s)
  (h:Q (.ref s.heap.objs.size) {s with heap:=s.heap.push {cls:=.type "tuple", data:=.seq (us++ws).toArray} }):wpAny (model prog w) A (binaryOp .Add (.ref p) (.ref q)) Q E s:=by
 obtain⟨⟨c1,j,x1,e⟩,a,c,g,g3⟩:=id b;obtain⟨⟨c2,i,x2,d⟩,b,l,f,k⟩:=id m;simp only at c g3 l k;subst c g3 l k;by_cases c:us=[]
 ·exact concat_meets ⟨_,a,rfl⟩ ⟨_,b,rfl⟩ noFill_tuple_add seq_tuple_add PySem.F.slot_tuple_add PySem.F.entry_tuple_add (PySem.F.args_tuple_add_2 _ _) (tuple_addW0 p q us.toArray ws.toArray g f j i e d (by simp[c])) ⟨a,b,h0 c⟩
 ·by_cases k:ws=[]
  ·exact concat_meets ⟨_,a,rfl⟩ ⟨_,b,rfl⟩ noFill_tuple_add seq_tuple_add PySem.F.slot_tuple_add PySem.F.entry_tuple_add (PySem.F.args_tuple_add_2 _ _) (tuple_addW1 p q us.toArray ws.toArray g f j i e d (by simpa using c) (by simp[k])) ⟨a,b,n k⟩
  ·refine concat_meets ⟨_,a,rfl⟩ ⟨_,b,rfl⟩ noFill_tuple_add seq_tuple_add PySem.F.slot_tuple_add PySem.F.entry_tuple_add (PySem.F.args_tuple_add_2 _ _) (tuple_addW2 p q us.toArray ws.toArray g f j i e d (by simpa using c) (by simpa using k) (by simpa using hz)) ⟨a,b,?_⟩;rw[show us.toArray++ws.toArray=(us++ws).toArray by simp];exact h
end
section
variable{X:Cx}{pos:Pos}
def vO:RD2:=λx y Q=>match x,y with
 |.int i,.int j=>Q (.int (i+j))
 |.tup b,.tup a=>b.length+a.length<=sizeLine/\Q (.tup (b++a))
 |.lst _ b,.lst _ a=>b.length+a.length<=sizeLine/\Q (.lst true (b++a))
 |_,_=>False
theorem BQ(i j:Int)(Q:D->Prop):vO (.int i) (.int j) Q=Q (.int (i+j)):=rfl
theorem II(t u:Bool)(xs ys:yas)(Q:D->Prop):vO (.lst t xs) (.lst u ys) Q=(xs.length+ys.length<=sizeLine/\Q (.lst true (xs++ys))):=rfl
def zN{W:Own}{H:Hp}{t:Bool}(b:∀t a,W.bad t a->∃o,H a=some o)(h:H a=none):¬W.bad t a:=λz=>by obtain⟨o,q⟩:=b _ _ z;rw[h]at q;cases q
set_option tactic.hygienic true in
def aR:NW X (binaryOp .Add) vO:=by
 intro a s b H W x y v u c d Q I A t w m l q;cases x<;>cases y<;>first|exact q.elim|skip
 ·exact J4 a s b H W _ _ v u c d Q I A t w m l q
 ·rename_i M L;obtain⟨p,k,y,z,j⟩:=m.Oi;obtain⟨B,d,x,f,c⟩:=l.Oi;subst y x;cases t;cases w;obtain⟨n,i,r,_⟩:=I.tuple z.w;obtain⟨a,h,o,_⟩:=I.tuple f.w;obtain⟨N,q⟩:=q;have J:=j.len;have G:=c.len;have E:=i.length;have C:=h.length;have b:n.length+a.length<=sizeLine:=by omega
  have g:H s.heap.objs.size=none:=I.MF.fresh (MS _);refine iD r o b (λe=>?_) (λe=>?_) ?_
  ·subst e;have:k=[]:=V5 (by simpa using E);subst this;have:M=[]:=V5 (by simpa using J.symm);subst this;exact⟨.ref B,H,_,I,rfl,av.refl H,l,q⟩
  ·subst e;have:d=[]:=V5 (by simpa using C);subst this;have:L=[]:=V5 (by simpa using G.symm);subst this;rw[Tn]at q;exact⟨.ref p,H,_,I,rfl,av.refl H,m,q⟩
  ·exact⟨.ref s.heap.objs.size,L2.upd H s.heap.objs.size (.tup (k++d)),_,I.laid (t':=s.toks) (λb u e=>Nd _ e) (MS _) ⟨by rw[Od];omega,n++a,i.append h,⟨_,OI _ rfl,rfl,_,rfl⟩⟩,rfl,av.upd g,Den.tup (MW.of aI) ((j.append c).same (av.upd g)),q⟩
 ·obtain⟨p,k,y,_,z,j⟩:=m.OF;obtain⟨B,d,x,_,f,c⟩:=l.OF;subst y x;cases t;cases w;obtain⟨n,i,r,_⟩:=I.list z;obtain⟨a,h,o,_⟩:=I.list f;obtain⟨N,q⟩:=q;have J:=j.len;have G:=c.len;have E:=i.length;have C:=h.length;have g:H s.heap.objs.size=none:=I.MF.fresh (MS _);refine LF r.isList o.isList (by omega) ?_;exact⟨.ref s.heap.objs.size,L2.upd H s.heap.objs.size (.lst (k++d)),_,I.laid (t':=s.toks) (λb u e=>Nd _ e) (MS _) ⟨by rw[Od];omega,n++a,0,i.append h,OI _ rfl⟩,rfl,av.upd g,Den.lst (zN A g) (.new aI (Inv.NA I)) ((j.append c).same (av.upd g)),q⟩
def okI(x:D):Prop:=okD x/\(NX x).depth<64
def HQ:RD2:=λx y Q=>okI x/\okD y/\∃a,(y=.tup a∨∃ t,y=.lst t a)/\Q (.bl (!a.any λz=>eqD z x))
theorem wc(x:D):∀ys:yas,(cL ys).any (λy=>PyData.eqv y (NX x))=ys.any λz=>eqD z x
 |[]=>by rw[cL];rfl
 |y::r=>by rw[cL,List.any_cons,List.any_cons,wc x r];rfl
def zH{A:Around}{d:PyData}(hd:d.depth<64)(hu:A.units+64<cLine):A.units+1+min (PyData.depthAll xs) d.depth<cLine:=by
 have:min (PyData.depthAll xs) d.depth<=d.depth:=Nat.min_le_right _ _
 lia
def E4(i:X.A.units+64<cLine):NW X (compareOp .NotIn) HQ:=by
 intro b s j H W x y v u l m Q I _ n o r p q;obtain⟨c,g,k,e,q⟩:=q;obtain⟨as,h⟩:=eR I x v l r n c.1.1;obtain⟨bs,f⟩:=eR I y u m p o g.1;have d:DP X b j W H Q (.bool (!(cL k).any λy=>PyData.eqv y (NX x))) s:=by rw[wc];exact⟨.bl _,H,_,I,rfl,av.refl H,Den.bl _,q⟩
 rcases e with e|⟨t,e⟩
 ·subst e;have a:=g.2;rw[NX]at f a;exact SeqAt.notIn_tuple_reads f h (SeqAt.canLay_of_shaped a) (SeqAt.canLay_of_shaped c.1.2) (zH c.2 i) d
 ·subst e;have a:=g.2;rw[NX]at f a;exact SeqAt.notIn_list_reads f h (SeqAt.canLay_of_shaped a) (SeqAt.canLay_of_shaped c.1.2) (zH c.2 i) d
end
def PKD(X:Cx)(kws:List Keyword)(t:DA):Prop :=
 ∀ (c:Pos) (a:yab) (s:Shared) (b:St) (H:Hp) (W:Own) (d:Ro) (Q:yas->Prop),Inv X a b H s->Rel X W H b d->t d Q →
  wpAny (model X.prog X.w) X.A (evalAll ((backToKw c (keywordEach kws X.env)).map (·.2))) (DAP X a b W H Q) X.xe s
def ET:Key->D
 |.inl i=>.int i
 |.inr x=>.str x
section
variable{κ:Type} [DecidableEq κ] {K:yac}{P:yak}{H:Hp}
noncomputable def dM(kvs:List (κ×D))(k:κ):Option D:=(kvs.find? λa=>decide (a.1=k)).map (·.2)
def putD(kvs:List (κ×D))(k:κ)(d:D):List (κ×D):=if(dM kvs k).isSome=true then kvs.map (λa=>if a.1=k then(a.1,d)else a)else kvs++[(k,d)]
def sk(p:κ×D)(r:List (κ×D))(k:κ):dM (p::r) k=if p.1=k then some p.2 else dM r k:=by
 unfold dM;rw[Uv];by_cases e:p.1=k
 ·rw[Ml e,R3 e];rfl
 ·rw[Mj e,SV e]
theorem qI:∀{kvs:List (κ×D)} {kws:List (κ×V)} {k:κ},kws.map (·.1)=kvs.map (·.1)->af K P H (kvs.map (·.2)) (kws.map (·.2))->match dM kvs k with|some d=>∃v,eA kws k=some v/\Den K P H d v|none=>eA kws k=none
 |[],kws,k,e,_=>by
  have:kws=[]:=by simpa using e
  subst this;exact FN
 |p::r,[],k,e,_=>by simp at e
 |p::r,q::s,k,e,h=>by
  simp only[MN,SQ]at e;simp only[MN,af]at h;obtain⟨v,u,a,c,b⟩:=h;simp only[SQ]at a;obtain⟨a,d⟩:=a;subst d;rw[sk];by_cases z:p.1=k
  ·rw[Ml z,nJ (e.1.trans z)];exact⟨v,by rw[a],c⟩
  ·rw[Mj z,nI (λy=>z (e.1.symm.trans y))];exact qI e.2 b
def tV{kvs:List (κ×D)}{kws:List (κ×V)}{d:D}(e:kws.map (·.1)=kvs.map (·.1))(h:af K P H (kvs.map (·.2)) (kws.map (·.2)))(l:dM kvs k=some d):∃v,eA kws k=some v/\Den K P H d v:=by have:=qI (k:=k) e h;rw[l]at this;exact this
def xK{kvs:List (κ×D)}{kws:List (κ×V)}(e:kws.map (·.1)=kvs.map (·.1))(h:af K P H (kvs.map (·.2)) (kws.map (·.2)))(l:dM kvs k=none):eA kws k=none:=by have:=qI (k:=k) e h;rw[l]at this;exact this
def FF{kvs:List (κ×D)}{kws:List (κ×V)}(e:kws.map (·.1)=kvs.map (·.1))(h:af K P H (kvs.map (·.2)) (kws.map (·.2))):(eA kws k).isSome=(dM kvs k).isSome:=by
 cases l:dM kvs k with
 |none=>rw[xK e h l];rfl
 |some d =>
  obtain⟨v,q,_⟩:=tV e h l;rw[q];rfl
theorem xS:∀{kvs:List (κ×D)} {kws:List (κ×V)} {k:κ} {d:D} {v:V},kws.map (·.1)=kvs.map (·.1)->af K P H (kvs.map (·.2)) (kws.map (·.2))->Den K P H d v →
  (kws.map λa=>if a.1=k then(a.1,v)else a).map (·.1)=(kvs.map λa=>if a.1=k then(a.1,d)else a).map (·.1)/\af K P H ((kvs.map λa=>if a.1=k then(a.1,d)else a).map (·.2)) ((kws.map λa=>if a.1=k then(a.1,v)else a).map (·.2))
 |[],kws,k,d,v,e,_,_=>by
  have:kws=[]:=by simpa using e
  subst this;exact⟨rfl,af.nil⟩
 |p::r,[],k,d,v,e,_,_=>by simp at e
 |p::r,q::s,k,d,v,e,h,f=>by
  simp only[MN,SQ]at e;simp only[MN,af]at h;obtain⟨v',u,a,i,g⟩:=h;simp only[SQ]at a;obtain⟨a,j⟩:=a;subst j;obtain⟨c,b⟩:=xS (k:=k) e.2 g f;rw[MN,MN,MN,MN,MN,MN];by_cases z:p.1=k
  ·rw[Ml z,Ml (e.1.trans z)];exact⟨by rw[c,e.1],af.cons f b⟩
  ·rw[Mj z,Mj (λy=>z (e.1.symm.trans y))];exact⟨by rw[c,e.1],af.cons (by rw[a];exact i) b⟩
def HJ{kvs:List (κ×D)}{kws:List (κ×V)}(e:kws.map (·.1)=kvs.map (·.1))(h:af K P H (kvs.map (·.2)) (kws.map (·.2)))(a:Den K P H d v) :
  (putK kws k v).map (·.1)=(putD kvs k d).map (·.1)/\af K P H ((putD kvs k d).map (·.2)) ((putK kws k v).map (·.2)):=by
 unfold putK putD;rw[rA,FF e h];by_cases z:(dM kvs k).isSome=true
 ·rw[Ml z,Ml z];exact xS e h a
 ·rw[Mj z,Mj z,OC,OC,OC,OC,e];exact⟨rfl,h.append (af.one a)⟩
end
def zx{K:yac}{P:yak}{H:Hp}{k:Key}{v:V}(h:Den K P H (ET k) v):v=kV k:=by
 cases k with
 |inl i=>exact h.M9
 |inr x=>exact h.U4
def PPD(X:Cx)(pos:Pos)(keys:List (Option Expr))(a:yai)(t:Ro->(List (D×D)->Prop)->Prop):Prop :=
 ∀ (b:yab) (s:Shared) (c:St) (H:Hp) (W:Own) (d:Ro) (Q:List (D×D)->Prop),Inv X b c H s->Rel X W H c d->t d Q →
  wpAny (model X.prog X.w) X.A (evalPairs (pairTrees keys a X.env pos)) (λf g=>∃d a e,Inv X b c a g/\VV d f/\av H a/\af X.K W.bad a (e.map (·.1)) (d.map (·.1))/\af X.K W.bad a (e.map (·.2)) (d.map (·.2))/\Q e) X.xe s
section
variable{X:Cx}{pos:Pos}
def Rel.WO(r:Rel X W H σ ρ){i:Nat}(h:ρ[i]?=some (some (.ob (.dk kvs)))):∃a kws,W.O i=some a/\σ[i]?=some (some (.ref a))/\H a=some (.dK kws)/\kws.map (·.1)=kvs.map (·.1)/\af X.K W.bad H (kvs.map (·.2)) (kws.map (·.2)):=by
 obtain⟨a,o,f,d,c,b⟩:=r.own i _ h;cases b with
 |dk e b=>exact⟨a,_,f,d,c,e,b⟩
end
def JC(kvs:List (Key×D))(r:Ro)(R:List (Key×D)->Prop):(∃ys,(some (Sl.ob (.dk kvs))::r)[0]?=some (some (Sl.ob (.dk ys)))/\R ys)=R kvs:=by
 apply propext;constructor
 ·rintro⟨_,e,q⟩;have a:some (some (Sl.ob (.dk kvs)))=some (some (Sl.ob (.dk _))):=e;cases a;exact q
 ·intro q;exact⟨kvs,rfl,q⟩
theorem JD(n:Nat)(x:Option Sl)(r:Ro)(R:List (Key×D)->Prop):(∃ys,(x::r)[n+1]?=some (some (Sl.ob (.dk ys)))/\R ys)=(∃ys,r[n]?=some (some (Sl.ob (.dk ys)))/\R ys):=rfl
def Ao{k1 k2:Bool}{xs ys:yas}(f:gB a=some (k1,xs))(d:gB b=some (k2,ys))(R:yas->Prop):(∃g e k1 k2 c vs,[a,b]=[g,e]/\gB g=some (k1,c)/\gB e=some (k2,vs)/\R (List.zipWith (λx y=>D.tup [x,y]) c vs))=R (List.zipWith (λx y=>D.tup [x,y]) xs ys):=by
 apply propext;constructor
 ·rintro⟨_,_,_,_,_,_,e,b,a,q⟩;cases e;rw[f]at b;rw[d]at a;cases b;cases a;exact q
 ·intro q;exact⟨_,_,_,_,_,_,rfl,f,d,q⟩
def KR(t u:Bool)(xs ys:yas)(R:yas->Prop):(∃c b k1 k2 a vs,[D.lst t xs,D.lst u ys]=[c,b]/\gB c=some (k1,a)/\gB b=some (k2,vs)/\R (List.zipWith (λx y=>D.tup [x,y]) a vs))=R (List.zipWith (λx y=>D.tup [x,y]) xs ys):=Ao rfl rfl R
def KS(u:Bool)(xs ys:yas)(R:yas->Prop):(∃c b k1 k2 a vs,[D.lst u xs,D.tup ys]=[c,b]/\gB c=some (k1,a)/\gB b=some (k2,vs)/\R (List.zipWith (λx y=>D.tup [x,y]) a vs))=R (List.zipWith (λx y=>D.tup [x,y]) xs ys):=Ao rfl rfl R
def comp_map{a:Type}{wi:DA}{js:yag}{tc:DT}{te:DE}{Q:D->Prop}(xs:List a)(f:a->D)(c:a->Bool)(g:a->D)(b:∀R:yas->Prop,R (xs.map f)->wi ρ R)(hz:xs.length<=sizeLine)
  (h:∀x∈xs,∀K:Bool->Prop,K (c x)->tc (some (.val (f x))::js.map (bA ρ)) K) (e:∀x∈xs,c x=true->∀K:D->Prop,K (g x)->te (some (.val (f x))::js.map (bA ρ)) K) (q:Q (.lst true ((xs.filter c).map g))):kS wi js tc te ρ Q:=by
 refine b _ ⟨by rw[Mq];exact hz,λj a=>a=((xs.take j).filter c).map g,by simp,λj d a d b=>?_,λa b=>?_⟩
 ·rw[Nj]at d;cases ex:xs[j]? with
  |none=>rw[ex]at d;cases d
  |some x =>
   rw[ex]at d;cases d;have d:x∈xs:=NF ex;have a:xs.take (j+1)=xs.take j++[x]:=by rw[UU,ex];rfl
   refine h x d _ ?_;by_cases z:c x=true
   ·rw[Ml z];refine e x d z _ ?_;show _=List.map g (List.filter c (List.take (j+1) xs));rw[a,b,zDj,OC];simp[z]
   ·rw[Mj z];show _=List.map g (List.filter c (List.take (j+1) xs));rw[a,b,zDj];simp[z]
 ·rw[Mq,UN (MS _)]at b;rw[b];exact q
def zE{b:Type}{wi:DA}{g:DG}{e:DS}{E:mv}(xs:List b)(f:b->D)(Pv:List b->Ro->Prop)(j:∀R:yas->Prop,R (xs.map f)->wi ρ R)(d:Pv [] ρ)
  (c:∀(done:List b) (x:b) (a:Ro),x∈xs->done.length<xs.length->Pv done a->g (f x) a λi=>e {E with nx:=Pv (done++[x]),ct:=Pv (done++[x]),bk:=E.nx} i) (h:∀a,Pv xs a->E.nx a):AU wi g e E ρ:=by
 refine j _ ⟨λj=>Pv (xs.take j),by simpa using d,λj d a b d=>?_,λa d=>h a (by rw[Mq,UN (MS _)]at d;exact d)⟩;rw[Nj]at b;cases ex:xs[j]? with
 |none=>rw[ex]at b;cases b
 |some x =>
  rw[ex]at b;cases b;have hj:=(Nk.mp ex).1;have b:xs.take (j+1)=xs.take j++[x]:=by rw[UU,ex];rfl
  show g (f x) a λi=>e {E with nx:=Pv (xs.take (j+1)),ct:=Pv (xs.take (j+1)),bk:=E.nx} i
  rw[b];exact c (xs.take j) x a (NF ex) (by rw[RZ];lia) d
structure Nm(n:Nat)(d:D):Prop where
 pl:RB d=true
 lay:(NX d).canLay0=true
 dp:(NX d).depth<=n
structure jy(n:Nat)(ds:yas):Prop where
 pl:oN ds=true
 lay:PyData.canLayAll0 (cL ds)=true
 dp:PyData.depthAll (cL ds)<=n
def Nm.ok(h:Nm n d)(a:n<=64:=by decide):okD d:=⟨h.pl,by unfold SeqAt.shaped;rw[h.lay,R3 (Pa h.dp a)];rfl⟩
theorem Nm.okI(h:Nm n d)(a:n<64:=by decide):okI d:=⟨h.ok (Sx a),V8 h.dp a⟩
theorem Nm.int(n:Nat)(i:Int):Nm n (.int i):=⟨by rw[RB]<;>(intros;contradiction),by rw[NX,PyData.canLay0],by rw[NX,PyData.depth];exact N9 _⟩
def jy.nil(n:Nat):jy n []:=⟨by rw[oN],by rw[cL,PyData.canLayAll0],by rw[cL,PyData.depthAll];exact N9 _⟩
def jy.cons(h:Nm n d)(h':jy n ds):jy n (d::ds):=⟨by rw[oN,h.pl,h'.pl];rfl,by rw[cL,PyData.canLayAll0,h.lay,h'.lay];rfl,by rw[cL,PyData.depthAll];exact Nat.max_le.mpr ⟨h.dp,h'.dp⟩⟩
theorem jy.of:∀{ds:yas},(∀d∈ds,Nm n d)->jy n ds
 |[],_=>.nil n
 |d::r,h=>.cons (h d OB) (jy.of λx a=>h x (Ni _ a))
theorem Nm.tup(h:jy n ds):Nm (n+1) (.tup ds):=⟨by rw[RB];exact h.pl,by rw[NX,PyData.canLay0];exact h.lay,by rw[NX,PyData.depth];exact Nat.succ_le_succ h.dp⟩
theorem Nm.lst(h:jy n ds):Nm (n+1) (.lst t ds):=⟨by rw[RB];exact h.pl,by rw[NX,PyData.canLay0];exact h.lay,by rw[NX,PyData.depth];exact Nat.succ_le_succ h.dp⟩
theorem Nm.map{a:Type}{f:a->D}{xs:List a}(h:∀x,Nm n (f x)):Nm (n+1) (.lst t (xs.map f)):=Nm.lst (jy.of λd a=>by obtain⟨x,_,rfl⟩:=M4.mp a;exact h x)
def iH(xs ys:yas):Bool:=PyData.eqvAll (cL xs) (cL ys)
def lW(t u:Bool)(xs ys:yas):eqD (.lst t xs) (.lst u ys)=iH xs ys:=by unfold eqD iH;rw[NX,NX,PyData.eqv]
def pN(xs ys:yas):eqD (.tup xs) (.tup ys)=iH xs ys:=by unfold eqD iH;rw[NX,NX,PyData.eqv]
def iI:iH [] []=true:=by unfold iH;rw[cL,PyData.eqvAll]
def cM(x y:D)(xs ys:yas):iH (x::xs) (y::ys)=(eqD x y && iH xs ys):=by unfold iH eqD;rw[cL,cL,PyData.eqvAll]
def GW(y:D)(ys:yas):iH (y::ys) []=false:=by unfold iH;rw[cL,cL,PyData.eqvAll]
def tS(x y:Str):eqD (.str x) (.str y)=(x==y):=by unfold eqD;rw[NX,NX,PyData.eqv]
def GV:eqD .MU .MU=true:=by unfold eqD;rw[NX,PyData.eqv]
mutual
theorem cI:∀d:D,eqD d d=true
 |.MU=>GV
 |.bl b=>by rw[Cn];simp
 |.int i=>by rw[lV];simp
 |.str x=>by rw[tS];simp
 |.exc _=>by unfold eqD;rw[NX,PyData.eqv]
 |.obj _ _ _=>by unfold eqD;rw[NX,PyData.eqv]
 |.QQ=>by unfold eqD;rw[NX,PyData.eqv]
 |.PN _ _=>by unfold eqD;rw[NX,PyData.eqv]
 |.tup a=>by rw[pN];exact kT a
 |.lst t a=>by rw[lW];exact kT a
theorem kT:∀ds:yas,iH ds ds=true
 |[]=>iI
 |d::r=>by rw[cM,cI d,kT r];rfl
end
def gS(t u:Bool)(xs:yas):eqD (.lst t xs) (.lst u xs)=true:=by rw[lW];exact kT xs
section
variable{X:Cx}{a b c:Expr}{ta tb tc:DE}{pos:Pos}
def B9(e:DE):DA:=λd R=>e d λd=>∃e,d=.tup e/\R e
def Cw(h:MI X iter ti):QR X tg iter (B9 ti):=by
 refine QR.of (Kh h.pe) λσ H W d R r e=>⟨W,d,_,r,e,λv H1 d i g q=>?_⟩
 obtain⟨k,rfl,q⟩:=q;obtain⟨p,e,rfl,f,h⟩:=g.Oi;refine⟨p,rfl,⟨e,f.w⟩,i,k,?_,q⟩;intro P' H' j n m i;have g:=(j p e f).w;have hl:=h.len;refine⟨λf=>?_,λx H3 y f=>?_,λf=>⟨e,g,by lia⟩⟩
 ·obtain⟨v,l,_⟩:=h.get (i:=i) (d:=k[i]) (by simp[f]);exact⟨e,v,g,l⟩
 ·obtain⟨f,y⟩:=y;subst f;obtain⟨d,i,f⟩:=h.bA (y e g);exact⟨av.refl _,d,i,Den.map j n m d _ f⟩
def JU(xs:yas)(R:yas->Prop):(∃ds,D.tup xs=.tup ds/\R ds)=R xs:=by
 apply propext;constructor
 ·rintro⟨_,e,q⟩;cases e;exact q
 ·intro q;exact⟨xs,rfl,q⟩
variable{e:Expr}{te:DE}{lo hi:Option Expr}{tl th:DO}{p2:Pos}
def rM(o:MI X e te)(m:UG X lo tl)(n:UG X hi th):MI X (.Subscript e (.Slice lo hi none p2) pos) (Jg te tl th):=by
 intro i s j H W g Q I r h;refine q9 (st:=none) (ts:=dj) (R:=λd l u k=>k=none/\∃f,d=.tup f/\¬(HT.MZ f.length 0 l=0/\HT.MZ f.length f.length u=f.length)/\Q (.tup (PD.cutD f l u))) o m n dw I r ?_ ?_ (λ_ _=>⟨_,rfl⟩)
 ·have m:(λd=>tl g λl=>th g λu=>dj g λk=>k=none/\∃f,d=D.tup f/\¬(HT.MZ f.length 0 l=0/\HT.MZ f.length f.length u=f.length)/\Q (.tup (PD.cutD f l u)))=λd=>tl g λl=>th g λu=>∃f,d=D.tup f/\¬(HT.MZ f.length 0 l=0/\HT.MZ f.length f.length u=f.length)/\Q (.tup (PD.cutD f l u)):=by
   funext d
   congr 1
   funext l
   congr 1
   funext u
   exact propext ⟨λz=>z.2,λz=>⟨rfl,z⟩⟩
  rw[m];exact h
 ·intro v g n m vk l u k d r d s G o t B z x w h k;obtain⟨p,f,f,y,q⟩:=k;subst p f;cases h;obtain⟨p,k,f,A,h⟩:=B.Oi;subst f;obtain⟨T,id,E,C,B⟩:=Ky i s j d (.ref p) g n m l u r (λg f=>av d f/\∃d,Den X.K W.bad f d g/\Q d) G t z x w ⟨p,k,rfl,A.w,by rw[h.len];exact y,λf g=>⟨av.upd g,_,Den.tup (MW.of aI) ((h.cut l u).same (av.upd g)),q⟩⟩;exact⟨T,id,E,C,Mw B λ_ s2 k=>(by obtain⟨g,m,l,h,i,d,j,f⟩:=k;exact⟨g,m,d,l,h,o.trans i,j,f⟩)⟩
end
section
variable{K:yac}{P:yak}{H:Hp}{B:yaj}
theorem aA.get:∀{k:Nat} {xs:List LI} {vs:yar} {m:Nat} {ds:yas},aA K P H B k xs vs->xs[m]?=some (.own ds)->∃b a,vs[m]?=some (.ref b)/\B (k+m)=some b/\H b=some (.lst a)/\af K P H ds a
 |_,[],_,_,_,_,e=>by simp at e
 |k,.own ds::r,_,0,_,h,e=>by simp only[aA]at h;obtain⟨b,a,u,rfl,d,f,c,_⟩:=h;simp at e;subst e;exact⟨b,a,rfl,d,f,c⟩
 |k,.val d::r,_,0,_,h,e=>by simp at e
 |k,.own ds::r,_,m+1,x,h,e=>by simp only[aA]at h;obtain⟨b,a,u,rfl,_,_,_,j⟩:=h;obtain⟨c,a,i,g,b⟩:=aA.get (m:=m) (ds:=x) j (by simpa using e);exact⟨c,a,by simpa using i,by rw[<- g];congr 1;lia,b⟩
 |k,.val d::r,_,m+1,x,h,e=>by simp only[aA]at h;obtain⟨v,u,rfl,_,f⟩:=h;obtain⟨c,a,i,g,b⟩:=aA.get (m:=m) (ds:=x) f (by simpa using e);exact⟨c,a,by simpa using i,by rw[<- g];congr 1;lia,b⟩
theorem aA.put(j:∀ds vs,af K P H ds vs->af K P H' ds vs)(A:H' b=some (.lst Tw))(w:af K P H' RQ Tw)(p:∀k c,B k=some c->c≠b->∀i,H c=some (.lst i)->H' c=some (.lst i))(a:∀k l c,B k=some c->B l=some c->k=l) :
  ∀ {k:Nat} {xs:List LI} {vs:yar} {m:Nat} {ds:yas},aA K P H B k xs vs->xs[m]?=some (.own ds)->B (k+m)=some b->aA K P H' B k (xs.set m (.own RQ)) vs
 |_,[],_,_,_,_,e,_=>by simp at e
 |k,.own ds::r,_,0,_,h,_,g=>by
  simp only[aA]at h;obtain⟨c,i,u,rfl,f,s,G,C⟩:=h;rw[Nat.add_zero,f]at g;cases g;simp only[List.set_cons_zero,aA];refine⟨b,Tw,u,rfl,f,A,w,?_⟩;have rest:∀{l:Nat} {b:List LI} {d:yar},k<l->aA K P H B l b d->aA K P H' B l b d:=by
   intro l b
   induction b generalizing l with
   |nil=>intro d _ z;simpa only[aA]using z
   |cons y b ih =>
    intro d E z;cases y with
    |own es =>
     simp only[aA]at z ⊢;obtain⟨d,x,q,rfl,o,t,b,n⟩:=z;exact⟨d,x,q,rfl,o,p l d o (λe=>by subst e;have:=a _ _ _ f o;lia) x t,j _ _ b,ih (UP E) n⟩
    |val e =>
     simp only[aA]at z ⊢;obtain⟨v,q,rfl,o,t⟩:=z;have b:=j [e] [v] (af.one o);simp only[af]at b;obtain⟨o,y,l,n,_⟩:=b;cases l;exact⟨v,q,rfl,n,ih (UP E) t⟩
  exact rest (QL k) C
 |k,.val d::r,_,0,_,h,e,_=>by simp at e
 |k,.own ds::r,_,m+1,x,h,e,g=>by simp only[aA]at h;obtain⟨c,i,u,rfl,f,s,G,C⟩:=h;simp only[zDk,aA];refine⟨c,i,u,rfl,f,p k c f (λz=>by subst z;have:=a _ _ _ f g;lia) i s,j _ _ G,aA.put j A w p a C (by simpa using e) (by rw[<- g];congr 1;lia)⟩
 |k,.val d::r,_,m+1,x,h,e,g=>by simp only[aA]at h;obtain⟨v,u,rfl,f,s⟩:=h;simp only[zDk,aA];have b:=j [d] [v] (af.one f);simp only[af]at b;obtain⟨o,y,l,n,_⟩:=b;cases l;exact⟨v,u,rfl,n,aA.put j A w p a s (by simpa using e) (by rw[<- g];congr 1;lia)⟩
end
section
variable{X:Cx}{pos:Pos}
def PFL(X:Cx)(i:Nat)(es:yai)(t:Ro->(List (yas)->Prop)->Prop):Prop :=
 ∀ (pos:Pos) (b:yab) (s:Shared) (a:St) (H:Hp) (W:Own) (e:Ro) (k:Nat) (Q:List (yas)->Prop),Inv X b a H s->Rel X W H a e->i<a.length->e[i]?=some none->t e Q →
  wpAny (model X.prog X.w) X.A (spliced (backTo pos (starEach es X.env))) (λh j=>∃f d c g,Inv X b a d j/\Vals f h/\av H d/\Rel X c d a e/\ML W H c d/\aA X.K c.bad d (c.sub a.length i) k (g.map LI.own) f/\(∀l,l<k->c.sub a.length i l=W.sub a.length i l)/\Q g) X.xe s
def Own.PO(W:Own)(n i:Nat):Own:=⟨W.B,λj=>if j % n=i then none else W.O j,λb=>W.S b∨∃ j,j % n=i/\W.O j=some b⟩
def sS:LI->D
 |.own a=>.lst false a
 |.val d=>d
set_option tactic.hygienic true in
theorem Rel.PO{i:Nat}(r:Rel X W H σ ρ)(e:ρ[i]?=some (some (.ob (.ll xs)))):Rel X (W.PO σ.length i) H σ (ρ.set i (some (.val (.lst false (xs.map sS)))))/\∀b,W.bad true b->(W.PO σ.length i).bad true b:=by
 obtain⟨a,o,B,w,E,c⟩:=r.own i _ e;cases c with
 |ll G =>
 rename_i vs;have A:i<ρ.length:=(Nk.mp e).1;have x:i<σ.length:=(Nk.mp w).1;have C:i % σ.length=i:=Pm x;have s:∀j k,j<σ.length->OU σ.length j k % σ.length=j:=λj k e=>by unfold OU;rw[Nat.mul_add_mod,Pm e]
 have m:∀j b,(W.PO σ.length i).O j=some b->j % σ.length≠i/\W.O j=some b:=λj b h=>by
  have f:(if j % σ.length=i then none else W.O j)=some b:=h;by_cases z:j % σ.length=i
  ·rw[Ml z]at f;cases f
  ·rw[Mj z]at f;exact⟨z,f⟩
 have g:∀t b,(W.PO σ.length i).bad t b->W.bad t b:=λt b z=>by
  rcases z with z|⟨j,z⟩| ⟨n,c⟩
  ·exact .inl z
  ·exact .inr (.inl ⟨j,(m j b z).2⟩)
  ·rcases c with c|⟨j,_,c⟩
   ·exact .inr (.inr ⟨n,c⟩)
   ·exact .inr (.inl ⟨j,c⟩)
 have t:∀j b,j % σ.length=i->W.O j=some b->¬(W.PO σ.length i).bad false b:=λj b e d z=>by
  rcases z with z|⟨l,z⟩| ⟨n,_⟩
  ·exact(r.kn j b d).2.1.1 z
  ·exact(m l b z).1 (by rw[r.inj l j b (m l b z).2 d];exact e)
  ·cases n
 have q:∀{k:Nat} {d:List LI} {p:yar},aA X.K W.bad H (W.sub σ.length i) k d p->af X.K (W.PO σ.length i).bad H (d.map sS) p:=by
  intro k d
  induction d generalizing k with
  |nil=>intro p z;simp only[aA]at z;subst z;exact af.nil
  |cons y d ih =>
   intro p z;cases y with
   |own es =>
    simp only[aA]at z;obtain⟨b,us,u,rfl,n,c,y,d⟩:=z;exact af.cons (Den.lst (t _ b (s i k x) n) (.any (SqL.of c)) (y.My g)) (ih d)
   |val d =>
    simp only[aA]at z;obtain⟨v,u,rfl,n,c⟩:=z;exact af.cons (n.My g) (ih c)
 refine⟨⟨λj d h=>?_,λj x h=>?_,λj k b f c=>r.inj j k b (m j b f).2 (m k b c).2,λj b h=>?_,λj b h=>r.ke j b (m j b h).2,r.bt,λb h=>?_,r.ent,r.tab⟩,λb z=>?_⟩
 ·by_cases e:j=i
  ·subst e;rw[O9 A]at h;cases h;exact⟨.ref a,w,Den.lst (t j a C B) (.any (SqL.of E)) (q G)⟩
  ·rw[Ov (Ne.symm e)]at h;obtain⟨w,f,c⟩:=r.val j d h;exact⟨w,f,c.My g⟩
 ·by_cases e:j=i
  ·subst e;rw[O9 A]at h;cases h
  ·rw[Ov (Ne.symm e)]at h;obtain⟨b,p,f,c,n,d⟩:=r.own j x h;have a:j<σ.length:=(Nk.mp c).1;refine⟨b,p,?_,c,n,d.My g λk c q=>?_⟩
   ·show(if j % σ.length=i then none else W.O j)=_;rw[Mj (by rw[Pm a];exact e)];exact f
   ·show(if OU σ.length j k % σ.length=i then none else W.O (OU σ.length j k))=_;rw[Mj (by rw[s j k a];exact e)];exact q
 ·obtain⟨f,⟨c,a⟩,d⟩:=r.kn j b (m j b h).2;refine⟨f,⟨c,λz=>z.elim a λ⟨l,c,a⟩=>?_⟩,d⟩;exact(m j b h).1 (by rw[r.inj j l b (m j b h).2 a];exact c)
 ·rcases h with h|⟨j,_,h⟩
  ·exact r.st b h
  ·obtain⟨_,_,o,q,_⟩:=r.kn j b h;exact⟨o,q⟩
 ·rcases z with z|⟨j,z⟩| ⟨_,z⟩
  ·exact .inl z
  ·by_cases e:j % σ.length=i
   ·exact .inr (.inr ⟨rfl,.inr ⟨j,e,z⟩⟩)
   ·exact .inr (.inl ⟨j,by show(if j % σ.length=i then none else W.O j)=_;rw[Mj e];exact z⟩)
  ·exact .inr (.inr ⟨rfl,.inl z⟩)
variable{e:Expr}{te:DE}{tt:DT}{ta:DA}
def zt(i:Nat)(t:DT):DT:=λa Q=>∃b,a[i]?=some (some (.ob (.ll b)))/\t (a.set i (some (.val (.lst false (b.map sS))))) Q
def EB(i:Nat)(h:Rj X e tt):Rj X e (zt i tt):=by intro a s c H W ρ Q I r b;obtain⟨xs,f,b⟩:=b;obtain⟨d,up⟩:=r.PO f;exact h a s c H _ _ _ I d b
def Rel.Zj{i m:Nat}{b:Addr}(r:Rel X W H σ ρ)(d:ρ[i]?=some (some (.ob (.ll xs))))(L:xs[m]?=some (.own ds))(ob:W.sub σ.length i m=some b)(f:H b=some (.lst I))(M:af X.K W.bad H RQ Tw) :
  Rel X W (L2.upd H b (.lst Tw)) σ (ρ.set i (some (.ob (.ll (xs.set m (.own RQ))))))/\ML W H W (L2.upd H b (.lst Tw)):=by
 have a:∀t,W.bad t b:=λ_=>.inr (.inl ⟨_,ob⟩)
 have C:∀c g,MW X.K H c g->MW X.K (L2.upd H b (.lst Tw)) c g:=λc g q=>by show L2.upd _ _ _ _=_;rw[aw (gT q f (by intro z;cases z))];exact q
 have B:∀t c g,¬W.bad t c->Oh X.K H t c g->¬W.bad t c/\Oh X.K (L2.upd H b (.lst Tw)) t c g:=λt c g n q=>by
  have x:c≠b:=λe=>n (e ▸ a t)
  refine⟨n,?_,λz=>⟨by rw[aw x];exact(q.2 z).1,(q.2 z).2⟩⟩;rcases q.1 with(q|⟨u,q⟩)|q
  ·exact .inl (.inl (by rw[aw x];exact q))
  ·exact .inl (.inr ⟨u,by rw[aw x];exact q⟩)
  ·exact .inr q
 have A:∀c u,Tt u->H c=some u->L2.upd H b (.lst Tw) c=some u:=λc u n q=>by rw[aw (gT q f (by intro z;subst z;exact n))];exact q
 have G:i<ρ.length:=(Nk.mp d).1;obtain⟨a,o,E,l,N,J⟩:=r.own i _ d;have t:i<σ.length:=(Nk.mp l).1;have k:∀c u,H c=some u->∃d,L2.upd H b (.lst Tw) c=some d:=λc u q=>by
  by_cases s:c=b
  ·subst s;exact⟨_,aI⟩
  ·exact⟨u,by rw[aw s];exact q⟩
 refine⟨⟨λj d h=>?_,λj y h=>?_,r.inj,λj c p=>?_,r.ke,λc p=>let ⟨u,q⟩:=r.bt c p;k c u q,λc p=>let ⟨u,q⟩:=r.st c p;k c u q,r.ent.ins (r.ke _ b ob) f True.intro True.intro,r.tab.upd True.intro (.inr ⟨_,f,(λ_ z=>by cases z),True.intro⟩)⟩,ML.upd ob f True.intro True.intro⟩
 ·by_cases m:j=i
  ·subst m;rw[O9 G]at h;cases h
  ·rw[Ov (Ne.symm m)]at h;obtain⟨w,u,f⟩:=r.val j d h;exact⟨w,u,Den.map C B A d w f⟩
 ·by_cases m:j=i
  ·subst m;rw[O9 G]at h;cases h;have d:a≠b:=λe=>iu t (r.inj _ _ b ob (by rw[<- e];exact E))
   refine⟨a,o,E,l,by rw[aw d];exact N,?_⟩;cases J with
   |ll i =>
   exact .ll (aA.put (af.map C B A) aI (af.map C B A _ _ M) (λk c q n I z=>by rw[aw n];exact z) (λk l c d a=>(Al t t (r.inj _ _ c d a)).2) i L (by rw[QM];exact ob))
  ·rw[Ov (Ne.symm m)]at h;obtain⟨c,g,u,f,i,d⟩:=r.own j y h;have a:j<σ.length:=(Nk.mp f).1;have x:c≠b:=λe=>iu a (r.inj _ _ b ob (by rw[<- e];exact u))
   exact⟨c,g,u,f,by rw[aw x];exact i,d.map (af.map C B A) λk f q=>⟨q,λ_ z=>by rw[aw (λe=>m (Al a t (r.inj _ _ b (by rw[<- e];exact q) ob)).1)];exact z⟩⟩
 ·obtain⟨h,f,g,d,a⟩:=r.kn j c p;refine⟨h,f,?_⟩;by_cases s:c=b
  ·subst s;exact⟨_,aI,True.intro⟩
  ·exact⟨g,by rw[aw s];exact d,a⟩
end
def JA(xs:List LI)(r:Ro)(R:List LI->Prop):(∃ys,(some (Sl.ob (.ll xs))::r)[0]?=some (some (Sl.ob (.ll ys)))/\R ys)=R xs:=by
 apply propext;constructor
 ·rintro⟨_,e,q⟩;have a:some (some (Sl.ob (.ll xs)))=some (some (Sl.ob (.ll _))):=e;cases a;exact q
 ·intro q;exact⟨xs,rfl,q⟩
theorem JB(n:Nat)(x:Option Sl)(r:Ro)(R:List LI->Prop):(∃ys,(x::r)[n+1]?=some (some (Sl.ob (.ll ys)))/\R ys)=(∃ys,r[n]?=some (some (Sl.ob (.ll ys)))/\R ys):=rfl
section
variable{X:Cx}{pins:yab}{σ:St}{H:Hp}
structure Ma(X:Cx)(pins:yab)(H:Hp)(s:Shared)(l f S I:Addr)(fo:Obj)(j:Nat)(vb:Value)(k:Int):Prop where
 fo:s.heap.get? f=some fo
 ff:dY X pins H f
 so:∃tb n,s.heap.get? S=some (seqObj "list" #[vb,.int k tb] n)
 sf:dY X pins H S
 io:s.heap.IsListIter I l j
 jf:dY X pins H I
 fS:f≠S
 fI:f≠I
 SI:S≠I
 lI:l≠I
end
section
variable{X:Cx}{pos:Pos}
def zo(i:Nat)(te:DE):DS:=λE a=>∃c,a[i]?=some (some (.own c))/\te a λd=>∃b,d=.lst true b/\c.length+b.length<=sizeLine/\E.nx (a.set i (some (.own (c++b))))
def uS{x:Str}{a:Pos}(i:Nat)(f:MI X e te)(d:X.N[i]?=some x:=by rfl)(c:S1 X.env.scope x:=by first|exact Or.inl rfl|exact Or.inr (Or.inl rfl)|exact Or.inr (Or.inr rfl))
  (g:(x==("__debug__" : Str))=false:=by decide) (j:(x==("__classdict__" : Str))=false:=by decide)
  (m:attributeBase (.Name x px) "extend" X.env (eval (.Name x px) X.env)=eval (.Name x px) X.env:=by rfl)
  (h:((backTo cpos (starEach [e] X.env)).all (λx=>!x.1) && (backToKw cpos (keywordEach [] X.env)).all (λx=>x.1.isSome) && decide ([e].length+([]:List Keyword).length+(if([]:List Keyword).isEmpty then 0 else 1)<30))=true:=by rfl)
  (l:(a.endLine==cpos.line)=true:=by rfl) (b:starEach [e] X.env=(false,eval e X.env)::starEach [] X.env:=by rfl) (k:(backTo cpos (starEach [] X.env)).any (·.1)=false:=by rfl)
  (hs:swapsWith (.Call (.Attribute (.Name x px) "extend" a) [e] [] cpos) none pos.line X.env=pure false:=by rfl) :
  OJ X (.Expr (.Call (.Attribute (.Name x px) "extend" a) [e] [] cpos) pos) (zo i te):=by
 have a:=l9 (pos:=pos) (Bp PySem.F.plainAttrs_list PySem.F.slot_list_extend PySem.F.type_list_extend CQ (gU d c g j) (j9 f.pe oM b) m h l b k) hs;refine OJ.of a λσ H W b E r hl h=>?_
 obtain⟨c,k,h⟩:=h;obtain⟨a,f,l,g,j,o⟩:=r.eV i c k;refine⟨.ref a,g,.inl ⟨rfl,_,SqL.of j⟩,W,b,_,r,h,λv h d e n q=>?_⟩;obtain⟨i,rfl,z,q⟩:=q;obtain⟨b,c,rfl,_,m,d⟩:∃b c,v=.ref b/\¬W.bad true b/\Oh X.K h true b c/\af X.K W.bad h i c:=by simpa only[Den]using n
 have h:=e _ _ j;have j:=r.same e;have i:=o.same e;refine⟨a,b,f,c,rfl,rfl,h,(m.2 rfl).1,by rw[i.len,d.len];exact z,?_⟩;obtain⟨a,b⟩:=j.S6 (vs':=f++c) k l g h (i.append d);exact⟨W,_,(ML.same e).trans b,a,q⟩
def PEK(X:Cx)(e:Expr)(t:DE):Prop :=
 ∀ (a:yab) (s:Shared) (d:St) (H:Hp) (W:Own) (b:Ro) (Q:D->Prop),Inv X a d H s->Rel X W H d b->t b Q →
  wpAny (model X.prog X.w) X.A (eval e X.env) (λu g=>∃b e c f,u=.ref b/\Inv X a d c g/\av H c/\c b=some (.tup e)/\af X.K W.bad c f e/\Q (.tup f)) X.xe s
end
def bo{c:Type}{wi:DA}{g:DG}{d:DS}{E:mv}(xs:List c)(f:c->D)(Pv:Nat->Ro->Prop)(i:∀R:yas->Prop,R (xs.map f)->wi ρ R)(h:Pv 0 ρ)
  (b:∀(j:Nat) (x:c) (a:Ro),xs[j]?=some x->Pv j a->g (f x) a λk=>d {E with nx:=Pv (j+1),ct:=Pv (j+1),bk:=E.nx} k) (e:∀a,Pv xs.length a->E.nx a):AU wi g d E ρ:=by
 refine i _ ⟨Pv,h,λj d a c d=>?_,λa d=>e a (by rw[Mq]at d;exact d)⟩;rw[Nj]at c;cases ex:xs[j]? with
 |none=>rw[ex]at c;cases c
 |some x =>
  rw[ex]at c;cases c;exact b j x a ex d
inductive KPs (K:yac) (P:yak) (H:Hp):List (yas×D)->List (Value×Value)->Prop
 |nil:KPs K P H [] []
 |cons {b:Addr} {vs:yar} {ks:yas} {d:D} {x:V} {u:Value} {ds:List (yas×D)} {ws:List (Value×Value)} (hb:H b=some (.tup vs)) (hk:af K P H ks vs) (hd:Den K P H d x) (r:RelV x u) (t:KPs K P H ds ws):KPs K P H ((ks,d)::ds) ((.ref b,u)::ws)
def PPK(X:Cx)(pos:Pos)(keys:List (Option Expr))(a:yai)(t:Ro->(List (yas×D)->Prop)->Prop):Prop :=
 ∀ (b:yab) (s:Shared) (c:St) (H:Hp) (W:Own) (d:Ro) (Q:List (yas×D)->Prop),Inv X b c H s->Rel X W H c d->t d Q →
  wpAny (model X.prog X.w) X.A (evalPairs (pairTrees keys a X.env pos)) (λe f=>∃a d,Inv X b c a f/\av H a/\KPs X.K W.bad a d e/\Q d) X.xe s
section
variable{X:Cx}{pos:Pos}
inductive KPi (H:Hp):List (List Key×Int)->List (Value×Value)->Prop
 |nil:KPi H [] []
 |cons {b:Addr} {k:List Key} {n:Int} {u:Value} {ds:List (List Key×Int)} {ws:List (Value×Value)} (hb:H b=some (.tup (k.map kV))) (r:RelV (.int n) u) (t:KPi H ds ws):KPi H ((k,n)::ds) ((.ref b,u)::ws)
def GG (g:X.calm=true):eB X (.builtin "max") (λds Q=>(∃i j:Int,ds=[.int i,.int j]/\Q (.int (max i j)))∨∃ (t:Bool) (ns:yaf),ds=[.lst t (ns.map D.int)]/\0<ns.length/\∀m,m∈ns->(∀n∈ns,n<=m)->Q (.int m)):=by
 intro a s c H W ds d h Q I k r b q;rcases q with⟨i,j,e,q⟩| ⟨t,ns,e,f,q⟩
 ·exact IQ g a s c H W ds d h Q I k r b ⟨i,j,e,q⟩
 subst e;obtain⟨v,rfl,c⟩:=pI b;obtain⟨a,ws,b,_,e,d⟩:=c.OF;subst b;cases r with
 |cons c b =>
  cases b;cases c;obtain⟨Mp,b,c,_⟩:=I.list e;rw[du d]at b;have d:=intsAre_of b;obtain⟨b,e⟩:=d.allInts.items;have h:s.heap.IsList a (intItems b):=by rw[<- e];exact c.isList
  have c:ns=b.toList.map (·.1):=by rw[<- d.numsOf,<- nums_intItems,<- e]
  have a:0<b.size:=by rw[c,Mq,Po]at f;exact f
  refine max_intList (I.ok.hd g) h a λy h' tk a e=>?_
  obtain⟨tt,rfl⟩:=intItems_at a;obtain⟨g1,g⟩:=argBest_gt (numAt b) (b.size - 1);have d:∀j,j<b.size->b.toList.map (·.1) ≠ []->numAt b j∈ns:=λj a _=>by
   rw[c,numAt_eq];have:(b.toList.map (·.1))[j]?=some ((b.toList.map (·.1)).getD j 0):=by simp[a]
   exact NF this
  refine⟨.int _,H,_,I.kept e,⟨_,rfl⟩,av.refl H,Den.int _,q _ (d _ (by omega) (by rw[<- c];exact UL f)) λn d=>?_⟩;rw[c]at d;obtain⟨j,a,c⟩:=TL d;have:numAt b j=n:=by rw[numAt_eq,<- c];simp only[Nz,M5 a,We]
  rw[<- this];rw[Mq,Po]at a;exact g j (by omega)
end
end PD
namespace PZ
open PySem PySem.Spec PyProof.Rows
abbrev FR (h:Heap) (T:Addr) (a b c:Value):Prop:=h.get? T=some {cls:=.type "tuple", data:=.seq #[a,b,c]}
structure Ap3(z TI TO i1 i2 i3:Addr):Prop where
 a1:TI≠z
 a2:TO≠z
 a3:i1≠z
 a4:i2≠z
 a5:i3≠z
 b1:TI≠TO
 b2:TI≠i1
 b3:TI≠i2
 b4:TI≠i3
 c1:TO≠i1
 c2:TO≠i2
 c3:TO≠i3
 d1:i1≠i2
 d2:i1≠i3
 d3:i2≠i3
structure Md(z TO i1 i2 i3 l:Addr):Prop where
 c1:l≠z
 c2:l≠TO
 c3:l≠i1
 c4:l≠i2
 c5:l≠i3
structure Mf(z TI TO i1 i2 i3 l1 l2 l3:Addr)(i:Nat)(h:Heap):Prop where
 z:IsZip h z TI TO .none
 ti:FR h TI (.ref i1) (.ref i2) (.ref i3)
 to:∃a b c,FR h TO a b c
 s1:Px true h i1 l1 i
 s2:Px true h i2 l2 i
 s3:Px true h i3 l3 i
end PZ
namespace PD
open PySem PySem.Spec PyProof.Rows L2 PZ
section
variable{X:Cx}
noncomputable def Ql(xs ys a:yas):yas:=List.zipWith (λf z=>f z) (List.zipWith (λx y z=>D.tup [x,y,z]) xs ys) a
end
end PD
namespace ST
open PySem PySem.SetTable
def S:Nat->Nat
 |0=>0
 |n+1=>5*S n+1
theorem rH:∀n,5 ^ n=4*S n+1
 |0=>rfl
 |n+1=>by rw[RO,rH n];show _=4*(5*S n+1)+1;lia
theorem AH(m:Nat):∀n,S (n+m)=5 ^ m*S n+S m
 |0=>by simp[S]
 |n+1=>by rw[show n+1+m=(n+m)+1 by lia];show 5*S (n+m)+1=5 ^ m*(5*S n+1)+S m;rw[AH m n,rH m];grind
theorem FT:∀k,∃o,S (2 ^ k)=2 ^ k*(2*o+1)
 |0=>⟨0,rfl⟩
 |k+1=>by obtain⟨o,e⟩:=FT k;refine⟨o+(2*o+1)*(2 ^ k*(2*o+1)),?_⟩;rw[show 2 ^ (k+1)=2 ^ k+2 ^ k by rw[RO];lia,AH,rH,e];grind
theorem round:∀(k x e:Nat),e<2 ^ k->∃n,n<2 ^ k/\(5 ^ n*x+S n) % 2 ^ k=e
 |0,x,e,h=>⟨0,by decide,by lia⟩
 |k+1,x,e,h=>by
  obtain⟨n,hn,q⟩:=round k x (e % 2 ^ k) (Tq _ (Yn k));obtain⟨o,b⟩:=FT k;have d:=Yn k;have a:2 ^ (k+1)=2*2 ^ k:=by rw[RO];lia
  generalize hv:5 ^ n*x+S n=v at q;have QF:5 ^ (n+2 ^ k)*x+S (n+2 ^ k)=v+2 ^ k+2 ^ (k+1)*(o+2*(2*o+1)*v):=by rw[AH,Nat.pow_add,rH (2 ^ k),b,a,<- hv];grind
  generalize 2 ^ k=p at *;rw[a]at h ⊢;by_cases z:v % (2*p)=e
  ·exact⟨n,by lia,by rw[hv];exact z⟩
  ·refine⟨n+p,by lia,?_⟩;rw[QF,a,Nat.add_mul_mod_self_left];have a1:v % (2*p) % p=v % p:=Nat.mod_mul_left_mod v 2 p;have l1:v % (2*p)<2*p:=Tq _ (by lia);rw[Nat.add_mod,Pm (show p<2*p by lia)];generalize v % (2*p)=u at *;have a:u=u % p∨u=u % p+p:=by
    by_cases c:u<p
    ·left;rw[Pm c]
    ·right
     have:u % p=u - p:=by rw[Nat.mod_eq_sub_mod (by lia),Pm (by lia)]
     lia
   have b:e=e % p∨e=e % p+p:=by
    by_cases c:e<p
    ·left;rw[Pm c]
    ·right
     have:e % p=e - p:=by rw[Nat.mod_eq_sub_mod (by lia),Pm (by lia)]
     lia
   have lt:e % p<p:=Tq _ d;rcases a with a|a<;>rcases b with b|b
   ·lia
   ·rw[Pm (by lia)];lia
   ·rw[Nat.mod_eq_sub_mod (by lia),Pm (by lia)];lia
   ·lia
noncomputable def runs(mask:Nat):Nat->Nat->Nat->yag
 |0,_,_=>[]
 |c+1,i,a=>List.range' i (runEnd mask i+1 - i)++runs mask c (leap mask i a).1 (leap mask i a).2
theorem oQ(mask c i pt:Nat):runs mask (c+1) i pt=List.range' i (runEnd mask i+1 - i)++runs mask c (leap mask i pt).1 (leap mask i pt).2:=rfl
def cK(mask:Nat)(h:Int):yag:=runs mask (turns mask) (bits h % (mask+1)) (bits h)
def jk{mask i:Nat}(h:i<=mask):i<=runEnd mask i/\runEnd mask i<=mask/\runEnd mask i<=i+9:=by unfold runEnd;split<;>lia
def pS(mask i pt:Nat):(leap mask i pt).1<=mask:=by
 have:(leap mask i pt).1<mask+1:=Tq _ (Rg _)
 lia
theorem Ae{mask:Nat}:∀{c i pt:Nat},i<=mask->∀x∈runs mask c i pt,x<=mask
 |0,_,_,_,x,h=>by cases h
 |c+1,i,pt,a,x,h=>by
  rcases Nu.mp h with z|z
  ·rw[RX]at z;have:=jk a;omega
  ·exact Ae (pS _ _ _) x z
theorem xU{mask:Nat}:∀{c i pt:Nat},i<=mask->(runs mask c i pt).length<=10*c
 |0,_,_,_=>MS _
 |c+1,i,pt,a=>by have ih:=xU (c:=c) (pt:=(leap mask i pt).2) (pS mask i pt);have:=jk a;unfold runs;rw[Od,OO];omega
def cY(mask:Nat):Nat->Nat×Nat->Nat×Nat
 |0,p=>p
 |n+1,p=>cY mask n (leap mask p.1 p.2)
theorem sJ{mask:Nat}:∀{n c i pt:Nat},∀x∈runs mask c (cY mask n (i,pt)).1 (cY mask n (i,pt)).2,x∈runs mask (n+c) i pt
 |0,c,i,pt,x,h=>by rw[QM];exact h
 |n+1,c,i,pt,x,h=>by have:=sJ (n:=n) (c:=c) (i:=(leap mask i pt).1) (pt:=(leap mask i pt).2) x h;rw[show n+1+c=(n+c)+1 by lia];exact P4 _ this
def Dp{mask c i:Nat}(h:i<=mask):i∈runs mask (c+1) i pt:=by
 refine RV _ ?_;rw[RX];have:=jk h
 lia
theorem xA(mask:Nat):∀(n:Nat) (p:Nat×Nat),(cY mask n p).2=p.2 / 32 ^ n
 |0,p=>by simp[cY]
 |n+1,p=>by show(cY mask n (leap mask p.1 p.2)).2=_;rw[xA mask n];show p.2 / 32 / 32 ^ n=_;rw[Nat.div_div_eq_div_mul,RO,Nat.mul_comm]
theorem si{mask k:Nat}(a:mask+1=2 ^ k):∀(n i:Nat),i<=mask->(cY mask n (i,0)).1=(5 ^ n*i+S n) % 2 ^ k
 |0,i,h=>by show i=_;rw[Nat.pow_zero,VF];show i=(i+0) % 2 ^ k;rw[Nat.add_zero,Pm (by lia)]
 |n+1,i,h=>by
  have e:leap mask i 0=((i*5+1) % (mask+1),0):=by unfold leap;simp
  show(cY mask n (leap mask i 0)).1=_;rw[e,si a n _ (by have:=Tq (i*5+1) (show 0<mask+1 by lia);lia),a];have a:(5 ^ n*((i*5+1) % 2 ^ k)+S n) % 2 ^ k=(5 ^ n*(i*5+1)+S n) % 2 ^ k:=by rw[Nat.add_mod,Nat.mul_mod,Nat.mod_mod,<- Nat.mul_mod,<- Nat.add_mod]
  rw[a,RO];congr 1;show _=5 ^ n*5*i+(5*S n+1);have:=rH n;rw[this];grind
theorem u4(mask:Nat):∀(m n:Nat) (p:Nat×Nat),cY mask (m+n) p=cY mask n (cY mask m p)
 |0,n,p=>by rw[QM];rfl
 |m+1,n,p=>by rw[show m+1+n=(m+n)+1 by lia];exact u4 mask m n _
theorem xy(mask:Nat):∀(n:Nat) (p:Nat×Nat),p.1<=mask->(cY mask n p).1<=mask
 |0,_,h=>h
 |n+1,p,_=>xy mask n _ (pS _ _ _)
def cover{mask k:Nat}(c:mask+1=2 ^ k)(h:Int){e:Nat}(d:e<=mask):e∈cK mask h:=by
 have f:bits h<2 ^ 64:=by
  unfold bits;have:=Int.emod_lt_of_pos h (show(0:Int)<2 ^ 64 by decide);have:=Int.emod_nonneg h (show(2 ^ 64:Int)≠0 by decide)
  lia
 have a:bits h % (mask+1)<=mask:=by have:=Tq (bits h) (show 0<mask+1 by lia);lia
 generalize hp:(bits h % (mask+1),bits h)=p;have b:p.1<=mask:=by rw[<- hp];exact a
 have z:(cY mask 13 p).2=0:=by rw[xA,<- hp];exact Nat.div_eq_of_lt (Of f (by decide))
 have a:=xy mask 13 p b;obtain⟨n,hn,b⟩:=round k (cY mask 13 p).1 e (by lia);have f:(cY mask (13+n) p).1=e:=by rw[u4];have:cY mask 13 p=((cY mask 13 p).1,0):=QX rfl z;rw[this,si c n _ a];exact b
 have:=sJ (mask:=mask) (n:=13+n) (c:=(mask - n)+2) (i:=bits h % (mask+1)) (pt:=bits h) e (by have a:(bits h % (mask+1),bits h)=p:=hp;rw[a,f];exact Dp d)
 unfold cK turns;rw[show mask+15=13+n+(mask - n+2)by lia];exact this
def jA(xs:yap):Prop:=∀a b:Nat,a<b->b<xs.size->xs.getD a 0<xs.getD b 0
theorem qy{j:Nat}(c:jA xs):∀(fuel lo b:Nat),lo<=b->b<=xs.size->b - lo<=fuel->(∀a,a<lo->xs.getD a 0<j)->(∀a,b<=a->a<xs.size->j<=xs.getD a 0) →
  (below.go xs j fuel lo b<=xs.size)/\(∀a,a<below.go xs j fuel lo b->xs.getD a 0<j)/\∀a,below.go xs j fuel lo b<=a->a<xs.size->j<=xs.getD a 0
 |0,lo,b,h,g,e,f,d=>by
  have:lo=b:=by omega
  subst this;exact⟨g,f,d⟩
 |fuel+1,lo,b,h,g,e,f,d=>by
  unfold below.go;by_cases h:lo<b
  ·rw[Ml h];have hm:(lo+b) / 2<b/\lo<=(lo+b) / 2:=by omega
   have e:xs.getD ((lo+b) / 2) j=xs.getD ((lo+b) / 2) 0:=by
    have:(lo+b) / 2<xs.size:=by omega
    simp[Array.getD,this]
   simp only[e];split
   ·rename_i z;refine qy c fuel _ b (by omega) g (by omega) (λa i=>?_) d;by_cases e:a=(lo+b) / 2
    ·rw[e];exact z
    ·exact Nat.lt_trans (c a ((lo+b) / 2) (by omega) (by omega)) z
   ·rename_i z;refine qy c fuel lo _ (by omega) (by omega) (by omega) f λa i i=>?_
    by_cases e:a=(lo+b) / 2
    ·rw[e];omega
    ·have:=c ((lo+b) / 2) a (by omega) i;omega
  ·rw[Mj h];have:lo=b:=by omega
   subst this;exact⟨g,f,d⟩
def jQ(b:jA xs)(j:Nat):below xs j<=xs.size/\(∀a,a<below xs j->xs.getD a 0<j)/\∀a,below xs j<=a->a<xs.size->j<=xs.getD a 0 :=
 qy b xs.size 0 xs.size (N9 _) (MS _) (by lia) (λa h=>absurd h (Ym _)) λa h h'=>by lia
def dR{xs:yap}{a x:Nat}(h:xs[a]?=some x):xs.getD a 0=x/\a<xs.size:=by obtain⟨l,e⟩:=Vs.mp h;exact⟨by simp[Array.getD,l,e],l⟩
def rX{xs:yap}{a:Nat}(h:a<xs.size):xs[a]?=some (xs.getD a 0):=by simp[Array.getD,h]
def below_at(b:jA xs){a j:Nat}(h:xs[a]?=some j):below xs j=a:=by
 obtain⟨e,l⟩:=dR h;obtain⟨b1,d,c⟩:=jQ b j;have h1:¬a<below xs j:=λz=>by have:=d a z;omega
 have h2:¬below xs j<a:=λz=>by have:=c (below xs j) (MS _) (by omega);have:=b _ a z l;omega
 omega
def vg{t:SetTable}(b:jA t.place){a j:Nat}(h:t.place[a]?=some j):t.slot j=.live a:=by unfold SetTable.slot;rw[below_at b h];simp[h]
def Bw{t:SetTable}(hr:jA t.place)(a:t.dummies=#[]){j:Nat}(h:j∉t.place.toList):t.slot j=.empty:=by
 have n:¬((t.place[below t.place j]?==some j)=true):=λz=>by
  have e:t.place[below t.place j]?=some j:=by simpa using z
  exact h (by obtain⟨l,q⟩:=Vs.mp e;rw[<- q];exact Array.getElem_mem_toList l)
 unfold SetTable.slot;simp only[n,a];have:has #[] j=false:=by unfold has;simp
 simp[this]
def ahead(mask:Nat)(c:Nat)(p:Probe):yag:=List.range' p.j (p.more+1)++runs mask c (leap mask p.i p.perturb).1 (leap mask p.i p.perturb).2
def yw(t:SetTable)(h:Int):∃c,cK t.mask h=ahead t.mask c (t.probeStart h):=by
 refine⟨t.mask+14,?_⟩;unfold cK ahead turns probeStart;show runs t.mask ((t.mask+14)+1) _ _=_;rw[oQ];have a:bits h % (t.mask+1)<=t.mask:=by have:=Tq (bits h) (show 0<t.mask+1 by lia);lia
 have:=jk a;simp only;rw[show runEnd t.mask (bits h % (t.mask+1))+1 - bits h % (t.mask+1)=runEnd t.mask (bits h % (t.mask+1)) - bits h % (t.mask+1)+1 by lia]
def AJ(t:SetTable){x:Nat}{r:yag}(e:ahead t.mask c p=x::r):p.j=x/\(r=[]∨∃ a,r=ahead t.mask a (t.advance p)):=by
 unfold ahead at e;rw[List.range'_succ,PQ]at e;obtain⟨b,a⟩:=List.cons.inj e;refine⟨b,?_⟩;unfold SetTable.advance;by_cases b:p.more > 0
 ·right
  refine⟨c,?_⟩;rw[Ml b,<- a];unfold ahead;simp only;rw[show p.more - 1+1=p.more by lia]
 ·have d:p.more=0:=by lia
  rw[d]at a;simp only[List.range'_zero,QV]at a;cases c with
  |zero=>left;rw[<- a];rfl
  |succ c =>
   right
   refine⟨c,?_⟩;rw[Mj b,<- a];have a:=pS t.mask p.i p.perturb;have:=jk a;unfold ahead;rw[oQ];simp only;rw[show runEnd t.mask (leap t.mask p.i p.perturb).1+1 - (leap t.mask p.i p.perturb).1=runEnd t.mask (leap t.mask p.i p.perturb).1 - (leap t.mask p.i p.perturb).1+1 by lia]
theorem xQ{t:SetTable}(m:jA t.place)(s:t.dummies=#[])(hashAt:Nat->Int)(h:Int):∀(l:yag) (b c:Nat) (p:Probe),ahead t.mask c p=l->l.length<=b->(∃x∈l,x∉t.place.toList)->p.dummy=none →
  (∃f j d,l=f++j::d/\(∀x∈f,∃a,t.place[a]?=some x/\hashAt a≠h)/\j∉t.place.toList/\probe.go t hashAt h b p=some (.empty j none)) ∨
  ∃ f j d a q g,l=f++j::d/\(∀x∈f,∃a,t.place[a]?=some x/\hashAt a≠h)/\t.place[a]?=some j/\hashAt a=h/\d=ahead t.mask g q/\q.dummy=none/\probe.go t hashAt h b p=some (.candidate j a q)
 |[],_,_,_,_,_,i,_=>by obtain⟨x,i,_⟩:=i;cases i
 |x::r,0,_,_,_,n,_,_=>by simp at n
 |x::r,b+1,c,p,e,n,i,k=>by
  obtain⟨c,u⟩:=AJ t e;subst c;unfold probe.go;by_cases l:p.j∈t.place.toList
  ·obtain⟨a,c,e⟩:=TL l;have o:t.place[a]?=some p.j:=by
    rw[<- Rt,M5 c,e]
   rw[vg m o];have w:∃x∈r,x∉t.place.toList:=by
    obtain⟨y,c,e⟩:=i;rcases MD.mp c with z|z
    ·subst z;exact absurd l e
    ·exact⟨y,z,e⟩
   have i:∃g,r=ahead t.mask g (t.advance p):=by
    rcases u with z|z
    ·obtain⟨y,c,_⟩:=w;rw[z]at c;cases c
    ·exact z
   have e:(t.advance p).dummy=none:=by unfold SetTable.advance;split<;>exact k
   obtain⟨g,u⟩:=i;simp only;by_cases i:hashAt a=h
   ·right
    rw[Ml (by simpa using i)];exact⟨[],p.j,r,a,t.advance p,g,rfl,by simp,o,i,u,e,rfl⟩
   ·rw[Mj (by simpa using i)];have good:∃a,t.place[a]?=some p.j/\hashAt a≠h:=⟨a,o,i⟩;rcases xQ m s hashAt h r b g (t.advance p) u.symm (by simp at n;omega) w e with⟨f,j,d,e1,e2,e3,e4⟩| ⟨f,j,d,b,q,c2,e1,e2,e3,e4,e5,e6,e7⟩
    ·left
     refine⟨p.j::f,j,d,by rw[e1];rfl,λy c=>?_,e3,e4⟩;rcases MD.mp c with z|z
     ·rw[z];exact good
     ·exact e2 y z
    ·right
     refine⟨p.j::f,j,d,b,q,c2,by rw[e1];rfl,λy c=>?_,e3,e4,e5,e6,e7⟩;rcases MD.mp c with z|z
     ·rw[z];exact good
     ·exact e2 y z
  ·left
   rw[Bw m s l];exact⟨[],p.j,r,rfl,by simp,l,by simp[k]⟩
structure Tab(t:SetTable)(hs:yaf):Prop where
 k:∃k,t.mask+1=2 ^ (k+1)
 rise:jA t.place
 le:∀x∈t.place.toList,x<=t.mask
 dum:t.dummies=#[]
 len:t.place.size=hs.length
 room:t.place.size<=t.mask
 reach:∀(a x:Nat) (h:Int),t.place[a]?=some x->hs[a]?=some h->∃pre post,cK t.mask h=pre++x::post/\∀y∈pre,y∈t.place.toList
theorem Tab.fits(T:Tab t hs):t.fits hs.length=true:=by
 unfold SetTable.fits SetTable.fill;rw[T.dum];simp[T.len];have:=T.len;have:=T.room
 lia
def Tab.stays(T:Tab t hs):t.gaveWay=false:=by
 obtain⟨k,e⟩:=T.k;unfold SetTable.gaveWay;rw[RO]at e;have:t.mask % 2=1:=by lia
 rw[this];rfl
def Fv(d:jA xs){a b x y:Nat}(f:xs[a]?=some x)(e:xs[b]?=some y)(h:x<y):a<b:=by
 obtain⟨e1,c⟩:=dR f;obtain⟨e2,l2⟩:=dR e;rcases Wb a b with z|z|z
 ·exact z
 ·subst z;lia
 ·have:=d b a z c
  lia
def zM{xs:yap}{x:Nat}(h:x∈xs.toList):∃a:Nat,xs[a]?=some x:=by obtain⟨a,b,c⟩:=TL h;exact⟨a,by rw[<- Rt,M5 b,c]⟩
def get_mem{xs:yap}{a x:Nat}(h:xs[a]?=some x):x∈xs.toList:=by obtain⟨l,q⟩:=Vs.mp h;rw[<- q];exact Array.getElem_mem_toList l
def G1(g:jA xs){mask:Nat}(hs:xs.size<=mask):∃e,e<=mask/\e∉xs.toList:=by
 refine X3 λa=>?_
 have d:∀e,e<=mask->e∈xs.toList:=λe b=>X3 λn=>a ⟨e,b,n⟩
 have f:∀j,j<=mask->∃a,xs[a]?=some j/\j<=a:=by
  intro j
  induction j with
  |zero=>intro h;obtain⟨a,c⟩:=zM (d 0 h);exact⟨a,c,N9 _⟩
  |succ j ih =>
   intro h;obtain⟨a,c,hja⟩:=ih (by lia);obtain⟨b,e⟩:=zM (d (j+1) h);have:=Fv g c e (by lia);exact⟨b,e,by lia⟩
 obtain⟨a,c,hm⟩:=f mask (MS _);have:=(dR c).2
 lia
def Tab.empty(T:Tab t hs)(h:Int):∃x∈cK t.mask h,x∉t.place.toList:=by obtain⟨e,c,a⟩:=G1 T.rise T.room;obtain⟨k,b⟩:=T.k;exact⟨e,cover b h c,a⟩
def tB(mask:Nat)(h:Int):(cK mask h).length<=10*turns mask:=xU (by have:=Tq (bits h) (show 0<mask+1 by lia);lia)
def pC(mask:Nat)(h:Int):∀x∈cK mask h,x<=mask:=Ae (by have:=Tq (bits h) (show 0<mask+1 by lia);lia)
def mL{a:Type}(xs:Array a)(p:Nat)(x:a):(insertAt xs p x).toList=xs.toList.take p++x::xs.toList.drop p:=by unfold insertAt;simp;exact UN (by rw[Xn,Po];exact MS _)
def get_ins{b:Type}{l:List b}{p:Nat}(c:p<=l.length)(x:b)(a:Nat):(l.take p++x::l.drop p)[a]?=if a<p then l[a]? else if a=p then some x else l[a - 1]?:=by
 by_cases h:a<p
 ·rw[Ml h,RK (by rw[RZ];lia),List.getElem?_take,Ml h]
 ·rw[Mj h,RI (by rw[RZ];lia),RZ,Nat.min_eq_left c];by_cases e:a=p
  ·rw[Ml e,e,Xz];rfl
  ·rw[Mj e,show a - p=(a - p - 1)+1 by lia,List.getElem?_cons_succ,List.getElem?_drop,show p+(a - p - 1)=a - 1 by lia]
theorem Tab.put(T:Tab t hs){j:Nat}{i f:yag}(l:j∉t.place.toList)(p:cK t.mask h=i++j::f)(A:∀y∈i,y∈t.place.toList)(g:t.place.size+1<=t.mask) :
  Tab (t.put j).1 (hs.take (t.put j).2++h::hs.drop (t.put j).2)/\(t.put j).2<=hs.length/\(t.put j).1.mask=t.mask/\(t.put j).1.place.size=t.place.size+1:=by
 have b:(t.put j).1.place=insertAt t.place (below t.place j) j:=rfl;have r:(t.put j).2=below t.place j:=rfl;have d:(t.put j).1.mask=t.mask:=rfl;have c:(t.put j).1.dummies=#[]:=by
  show(if has t.dummies j then _ else t.dummies)=_;rw[T.dum];have:has #[] j=false:=by unfold has;simp
  rw[this];rfl
 obtain⟨a,n,C⟩:=jQ T.rise j;have e:below t.place j<=t.place.toList.length:=by rw[Po];exact a
 have s:below t.place j<=hs.length:=by rw[<- T.len];exact a
 have o:∀a,(t.put j).1.place[a]?=if a<below t.place j then t.place[a]? else if a=below t.place j then some j else t.place[a - 1]?:=λa=>by rw[b,<- Rt,mL,get_ins e,Rt,Rt]
 have k:(t.put j).1.place.size=t.place.size+1:=by
  rw[b,<- Po,mL,Od,RZ,P5,Xn,Po]
  lia
 have m:∀x,x∈(t.put j).1.place.toList↔x=j∨x∈t.place.toList:=λx=>by
  rw[b,mL,Nu,MD];constructor
  ·rintro(z|z|z)
   ·exact .inr (List.mem_of_mem_take z)
   ·exact .inl z
   ·exact .inr (List.mem_of_mem_drop z)
  ·rintro(z|z)
   ·exact .inr (.inl z)
   ·rw[<- Xg (below t.place j) t.place.toList]at z;rcases Nu.mp z with q|q
    ·exact .inl q
    ·exact .inr (.inr q)
 refine⟨⟨T.k,?_,?_,c,?_,by rw[k];exact g,?_⟩,s,d,k⟩
 ·intro a b E c;rw[k]at c;have g:=rX (xs:=(t.put j).1.place) (a:=a) (by rw[k];lia);have d:=rX (xs:=(t.put j).1.place) (a:=b) (by rw[k];exact c);rw[o a]at g;rw[o b]at d;have w:∀c,c<t.place.size->t.place.getD c 0≠j:=λc c e=>l (by rw[<- e];exact get_mem (rX c))
  by_cases e:a<below t.place j
  ·rw[Ml e]at g;obtain⟨B,u⟩:=dR g;have:=n a e;by_cases n:b<below t.place j
   ·rw[Ml n]at d;obtain⟨q,c⟩:=dR d;have:=T.rise a b E c
    lia
   ·rw[Mj n]at d;by_cases l:b=below t.place j
    ·rw[Ml l]at d;have:=Pp d
     lia
    ·rw[Mj l]at d;obtain⟨q,c⟩:=dR d;have:=T.rise a (b - 1) (by lia) c
     lia
  ·rw[Mj e]at g;have n:¬b<below t.place j:=by lia
   have l:¬b=below t.place j:=by lia
   rw[Mj n,Mj l]at d;obtain⟨q,c⟩:=dR d;by_cases d:a=below t.place j
   ·rw[Ml d]at g;have:=Pp g;have:=C (b - 1) (by lia) c;have:=w (b - 1) c
    lia
   ·rw[Mj d]at g;obtain⟨B,u⟩:=dR g;have:=T.rise (a - 1) (b - 1) (by lia) c
    lia
 ·intro x b;rcases(m x).mp b with z|z
  ·subst z;exact pC t.mask h x (by rw[p];simp)
  ·exact T.le x z
 ·rw[k,r,Od,RZ,P5,Xn,<- T.len]
  lia
 ·intro a x n b c;rw[o a]at b;rw[r,get_ins s]at c;have g:∀{l:yag},(∀y∈l,y∈t.place.toList)->∀y∈l,y∈(t.put j).1.place.toList:=λk y h=>(m y).mpr (.inr (k y h))
  by_cases e:a<below t.place j
  ·rw[Ml e]at b c;obtain⟨m,l,k,h⟩:=T.reach a x n b c;exact⟨m,l,k,g h⟩
  ·rw[Mj e]at b c;by_cases d:a=below t.place j
   ·rw[Ml d]at b c;cases b;cases c;exact⟨i,f,p,g A⟩
   ·rw[Mj d]at b c;obtain⟨m,l,k,h⟩:=T.reach (a - 1) x n b c;exact⟨m,l,k,g h⟩
theorem uV(mask:Nat)(owner:Array (Option Nat)):∀(fuel i pt:Nat),layClean.free mask owner fuel i pt=(runs mask fuel i pt).find? λy=>(owner.getD y (some 0)).isNone
 |0,_,_=>rfl
 |fuel+1,i,pt=>by
  rw[oQ,List.find?_append,List.range'_eq_map_range,List.find?_map];unfold layClean.free;have ih:=uV mask owner fuel (leap mask i pt).1 (leap mask i pt).2;have a:((λy=>(owner.getD y (some 0)).isNone)∘λx=>i+x)=λk=>(owner.getD (i+k) (some 0)).isNone:=rfl
  rw[a];cases(List.range (runEnd mask i+1 - i)).find? λk=>(owner.getD (i+k) (some 0)).isNone with
  |some k=>rfl
  |none=>exact ih
structure Ow(mask:Nat)(hs:yaf)(owner:Array (Option Nat)):Prop where
 size:owner.size=mask+1
 cnt:(owner.toList.filter Option.isSome).length=hs.length
 at_:∀(i:Nat) (h:Int),hs[i]?=some h->∃j:Nat,owner[j]?=some (some i)/\∃pre post,cK mask h=pre++j::post/\∀y∈pre,∃q,owner[y]?=some (some q)
 lt:∀j i:Nat,owner[j]?=some (some i)->i<hs.length
 inj:∀j j' i:Nat,owner[j]?=some (some i)->owner[j']?=some (some i)->j=j'
theorem rS{a:Type}{p:a->Bool}:∀{l:List a} {x:a},l.find? p=some x->∃c b,l=c++x::b/\p x=true/\∀y∈c,p y=false
 |[],_,h=>by cases h
 |a::r,x,h=>by
  rw[Uv]at h;cases pa:p a with
  |true=>rw[pa]at h;cases h;exact⟨[],r,rfl,pa,by simp⟩
  |false =>
   rw[pa]at h;obtain⟨c,b,e,f,d⟩:=rS h;refine⟨a::c,b,by rw[e];rfl,f,λy a=>?_⟩;rcases MD.mp a with z|z
   ·rw[z];exact pa
   ·exact d y z
theorem rR{c:Type}{p:c->Bool}:∀{l:List c} {j:Nat} {a b:c},l[j]?=some a->p a=false->p b=true->((l.set j b).filter p).length=(l.filter p).length+1
 |[],_,_,_,h,_,_=>by simp at h
 |x::r,0,a,b,h,d,c=>by simp at h;subst h;rw[List.set_cons_zero,Z1 c,Z0 (by simp[d]),P5]
 |x::r,j+1,a,b,h,d,c=>by
  have ih:=rR (l:=r) (j:=j) (by simpa using h) d c;rw[zDk];by_cases c:p x=true
  ·rw[Z1 c,Z1 c,P5,P5,ih]
  ·rw[Z0 c,Z0 c,ih]
def Ow.step{mask k:Nat}(g:mask+1=2 ^ k){hs:yaf}{owner:Array (Option Nat)}(O:Ow mask hs owner)(hn:hs.length<=mask)(h:Int) :
  ∃ j,layClean.free mask owner (turns mask) (bits h % (mask+1)) (bits h)=some j/\Ow mask (hs++[h]) (owner.setIfInBounds j (some hs.length)):=by
 have i:∃e:Nat,e<=mask/\owner[e]?=some none:=by
  refine X3 λd=>?_
  have b:∀x∈owner.toList,Option.isSome x=true:=λx f=>by
   obtain⟨e,c,a⟩:=TL f;rw[Po,O.size]at c;cases x with
   |some _=>rfl
   |none=>exact absurd ⟨e,by lia,by rw[<- Rt,M5 (by rw[Po,O.size];exact c),a]⟩ d
  have:=O.cnt;rw[QJ.mpr b,Po,O.size]at this
  lia
 have f:∀y,y<=mask->((owner.getD y (some 0)).isNone=true↔owner[y]?=some none):=λy b=>by
  have l:y<owner.size:=by rw[O.size];lia
  rw[RJ l];simp[Array.getD,l]
 obtain⟨e,c,a⟩:=i;have d:((cK mask h).find? λy=>(owner.getD y (some 0)).isNone).isSome=true:=by rw[List.find?_isSome];exact⟨e,cover g h c,(f e c).mpr a⟩
 obtain⟨j,a⟩:=Option.isSome_iff_exists.mp d;obtain⟨k,e,l,c,o⟩:=rS a;have d:j<=mask:=pC mask h j (by rw[l];simp);have i:=(f j d).mp c;have d:j<owner.size:=by rw[O.size];lia
 refine⟨j,by rw[uV];exact a,?_⟩;have g:∀y:Nat,(owner.setIfInBounds j (some hs.length))[y]?=if j=y then some (some hs.length)else owner[y]?:=λy=>by
  rw[Array.getElem?_setIfInBounds];by_cases c:j=y
  ·rw[Ml c,Ml c,Ml d]
  ·rw[Mj c,Mj c]
 have d:∀(y q:Nat),owner[y]?=some (some q)->(owner.setIfInBounds j (some hs.length))[y]?=some (some q):=λy q b=>by rw[g,Mj (λc=>by subst c;rw[i]at b;cases b)];exact b
 refine⟨by rw[Array.size_setIfInBounds];exact O.size,?_,?_,?_,?_⟩
 ·rw[Array.toList_setIfInBounds,rR (a:=none) (by rw[Rt];exact i) rfl rfl,O.cnt,Od];rfl
 ·intro i u a;by_cases c:i<hs.length
  ·rw[RK c]at a;obtain⟨t,s,r,p,n,m⟩:=O.at_ i u a;exact⟨t,d _ _ s,r,p,n,λy b=>let ⟨q,z⟩:=m y b;⟨q,d _ _ z⟩⟩
  ·rw[RI (by lia)]at a;have m:i=hs.length:=by
    have:=(Nk.mp a).1;simp at this
    lia
   subst m;simp at a;subst a;refine⟨j,by rw[g,Ml rfl],k,e,l,λy b=>?_⟩;have k:y<=mask:=pC mask h y (by rw[l];simp[b]);have e:=o y b;have a:y<owner.size:=by rw[O.size];lia
   cases oy:owner[y]with
   |none =>
    have:=(f y k).mpr (by rw[RJ a,oy]);rw[this]at e;cases e
   |some q=>exact⟨q,d y q (by rw[RJ a,oy])⟩
 ·intro y i b;rw[g]at b;rw[Od];by_cases c:j=y
  ·rw[Ml c]at b;cases b;simp
  ·rw[Mj c]at b;have:=O.lt y i b;simp
   lia
 ·intro y d i b a;rw[g]at b a;by_cases c:j=y<;>by_cases e:j=d
  ·lia
  ·rw[Ml c]at b;rw[Mj e]at a;cases b;have:=O.lt d _ a
   lia
  ·rw[Mj c]at b;rw[Ml e]at a;cases a;have:=O.lt y _ b
   lia
  ·rw[Mj c]at b;rw[Mj e]at a;exact O.inj y d i b a
theorem xx{mask k:Nat}(b:mask+1=2 ^ k):∀(rest hs:yaf) (owner:Array (Option Nat)),Ow mask hs owner->hs.length+rest.length<=mask+1 →
  ∃ c,rest.foldl (λ(a:Option (Array (Option Nat)×Nat)) h=>do
   let (owner,k)←a
   let j←layClean.free mask owner (turns mask) (bits h % (mask+1)) (bits h)
   pure (owner.setIfInBounds j (some k),k+1)) (some (owner,hs.length))=some (c,(hs++rest).length)/\Ow mask (hs++rest) c
 |[],hs,owner,O,_=>⟨owner,by simp,by rw[Tn];exact O⟩
 |h::r,hs,owner,O,a=>by
  rw[P5]at a;obtain⟨j,c,e⟩:=O.step b (by lia) h;obtain⟨a,d,Q⟩:=xx b r (hs++[h]) _ e (by rw[Od];simp;lia);refine⟨a,?_,by rw[Ss]at Q;exact Q⟩;rw[List.foldl_cons];have:(do
   let (owner,k)←(some (owner,hs.length):Option (Array (Option Nat)×Nat))
   let j←layClean.free mask owner (turns mask) (bits h % (mask+1)) (bits h)
   pure (owner.setIfInBounds j (some k),k+1))=some (owner.setIfInBounds j (some hs.length),(hs++[h]).length):=by
   show(layClean.free mask owner (turns mask) (bits h % (mask+1)) (bits h) >>= _)=_;rw[c];simp
  rw[this,d];simp
def yJ{mask k:Nat}(b:mask+1=2 ^ k)(a:Array Int)(hl:a.size<=mask+1):∃owner,layClean mask a=some owner/\Ow mask a.toList owner:=by
 have O:Ow mask [] (Array.replicate (mask+1) none):=by
  refine⟨by simp,by simp,by simp,λj i h=>?_,λj j' i h _=>?_⟩
  ·rw[Array.getElem?_replicate]at h;split at h<;>cases h
  ·rw[Array.getElem?_replicate]at h;split at h<;>cases h
 obtain⟨o,e,Q⟩:=xx b a.toList [] _ O (by rw[Po];simp;omega);refine⟨o,?_,by simpa using Q⟩;unfold layClean;rw[<- Array.foldl_toList];show Option.map _ (List.foldl _ (some (Array.replicate (mask+1) none,([]:yaf).length)) _)=_;rw[e];rfl
def live(mask:Nat)(owner:Array (Option Nat)):List (Nat×Nat):=(List.range (mask+1)).filterMap λj=>(owner.getD j none).map (j,·)
def iK{mask:Nat}{hs:yaf}{owner:Array (Option Nat)}(O:Ow mask hs owner){j i:Nat}:(j,i)∈live mask owner↔owner[j]?=some (some i):=by
 unfold live;rw[Ye];constructor
 ·rintro⟨y,a,e⟩;rw[Yp]at a;obtain⟨q,c,b⟩:=SN.mp e;cases b;have l:j<owner.size:=by rw[O.size];exact a
  rw[RJ l,<- c];simp[Array.getD,l]
 ·intro h;obtain⟨l,e⟩:=Vs.mp h;refine⟨j,by rw[Yp,<- O.size];exact l,?_⟩;rw[show owner.getD j none=some i by simp[Array.getD,l,e]];rfl
def qH(mask:Nat)(owner:Array (Option Nat)):(live mask owner).map (·.1)=(List.range (mask+1)).filter λj=>(owner.getD j none).isSome:=by
 unfold live
 induction List.range (mask+1)with
 |nil=>rfl
 |cons a r ih =>
  cases e:owner.getD a none with
  |none=>rw[List.filterMap_cons_none (by rw[e];rfl),Z0 (by simp[e]),ih]
  |some q=>rw[ZY (by rw[e];rfl),Z1 (by simp[e]),MN,ih]
def EX{mask:Nat}{hs:yaf}{owner:Array (Option Nat)}(O:Ow mask hs owner):(live mask owner).length=hs.length:=by
 have b:(live mask owner).length=((live mask owner).map (·.1)).length:=by simp
 have a:owner.toList=(List.range (mask+1)).map λj=>owner.getD j none:=by
  apply List.ext_getElem?;intro j;rw[Nj,Rt];by_cases c:j<mask+1
  ·have l:j<owner.size:=by rw[O.size];exact c
   rw[List.getElem?_range c,RJ l];simp[Array.getD,l]
  ·rw[Sr (by rw[List.length_range];lia),X6 (by rw[O.size];lia)];rfl
 rw[b,qH,<- O.cnt,a,List.filter_map,Mq];rfl
def u5(mask:Nat)(owner:Array (Option Nat)):((live mask owner).map (·.1)).Pairwise (·<·):=by rw[qH];exact List.Pairwise.filter _ List.pairwise_lt_range
def HU{l:yag}(h:l.Pairwise (·<·)):jA l.toArray:=by
 intro a b e d;have c:b<l.length:=by simpa using d
 have:=TG.mp h a b (by lia) c e;simp[Array.getD,show a<l.length by lia,c];exact this
def He{mask k:Nat}(H:mask+1=2 ^ (k+1))(finger moves:Nat)(led plain:Bool){V:Type}(es:Array (Int×V))(w:es.size<=mask) :
  ∃ t c,laid mask finger moves led plain (es.map (·.1))=some (t,c)/\t.mask=mask/\t.led=led/\t.plain=plain ∧
   ∃ d:List (Int×V),(c.filterMap (es[·]?)).toList=d/\d.length=es.size/\Tab t (d.map (·.1))/\t.place.size=es.size ∧
    (∀(a:Nat) (e:Int×V),d[a]?=some e->∃i:Nat,c[a]?=some i/\es[i]?=some e)/\(∀i:Nat,i<es.size->∃a:Nat,c[a]?=some i)/\∀(a b i:Nat),c[a]?=some i->c[b]?=some i->a=b:=by
 obtain⟨c,eo,O⟩:=yJ H (es.map (·.1)) (by rw[Array.size_map];lia);have G:(es.map (·.1)).toList.length=es.size:=by simp
 refine⟨{mask,place:=((live mask c).map (·.1)).toArray,dummies:=#[],finger,led,moves,plain},((live mask c).map (·.2)).toArray,by unfold laid;rw[eo];rfl,rfl,rfl,rfl,?_⟩;have u:=EX O;rw[G]at u;have t:∀p∈live mask c,p.2<es.size:=λp Q=>by have:=O.lt p.1 p.2 ((iK O).mp Q);rw[G]at this;exact this
 have f:∀l:List (Nat×Nat),(∀p∈l,p.2<es.size)->(((l.map (·.2)).filterMap λi=>es[i]?).map some)=l.map λp=>es[p.2]?:=λl w=>by
  induction l with
  |nil=>rfl
  |cons p r ih =>
   have m:=w p (by simp);rw[MN,ZY (RJ m),MN,MN,ih λq d=>w q (by simp[d]),RJ m]
 have I:∀a:Nat,((((live mask c).map (·.2)).filterMap λi=>es[i]?)[a]?).map some=((live mask c)[a]?).map λp=>es[p.2]?:=λa=>by have:=congrArg (λl=>l[a]?) (f _ t);simp only[Nj]at this;exact this
 refine⟨((live mask c).map (·.2)).filterMap λi=>es[i]?,by simp,?_,?_,?_,?_,?_,?_⟩
 ·have:=congrArg List.length (f _ t);rw[Mq,Mq]at this;rw[this,u]
 ·refine⟨⟨k,H⟩,HU (u5 mask c),?_,rfl,?_,?_,?_⟩
  ·intro x s;have n:x∈(live mask c).map (·.1):=by simpa using s
   rw[qH,Yl,Yp]at n;show x<=mask
   lia
  ·have:=congrArg List.length (f _ t);rw[Mq,Mq]at this;show((live mask c).map (·.1)).toArray.size=_;rw[Og,Mq,Mq,this]
  ·show((live mask c).map (·.1)).toArray.size<=mask;rw[Og,Mq,u];exact w
  ·intro a x h s A;have n:((live mask c).map (·.1))[a]?=some x:=by simpa using s
   rw[Nj]at n;obtain⟨p,d,E⟩:=SN.mp n;have g:=I a;rw[d]at g;have m:=t p (NF d);rw[Nj]at A;obtain⟨e,Y,U⟩:=SN.mp A;rw[Y,Option.map_some,Option.map_some,RJ m]at g;have C:=Pp (Pp g);obtain⟨L,J,o,j,T,q⟩:=O.at_ p.2 h (by rw[<- U,C,<- Rt]at *;rw[Rt,Array.getElem?_map,RJ m];rfl)
   have B:=(iK O).mp (show(p.1,p.2)∈live mask c from NF d);have:=O.inj L p.1 p.2 J B;subst this;subst E;refine⟨o,j,T,λy N=>?_⟩;obtain⟨z,M⟩:=q y N;show y∈((live mask c).map (·.1)).toArray.toList;simp only[M4];exact⟨(y,z),(iK O).mpr M,rfl⟩
 ·show((live mask c).map (·.1)).toArray.size=_;rw[Og,Mq,u]
 ·intro a e U;have g:=I a;rw[U]at g;cases d:(live mask c)[a]? with
  |none=>rw[d]at g;cases g
  |some p =>
   rw[d]at g;exact⟨p.2,by simp[d],(Pp g).symm⟩
 ·intro i T;obtain⟨h,A⟩:∃h,(es.map (·.1)).toList[i]?=some h:=⟨_,M5 (by rw[G];exact T)⟩;obtain⟨j,B,_⟩:=O.at_ i h A;obtain⟨a,x,ea⟩:=TL ((iK O).mpr B);exact⟨a,by simp[M5 x,ea]⟩
 ·intro a b i ha Y;have J:((live mask c).map (·.2))[a]?=some i:=by simpa using ha
  have C:((live mask c).map (·.2))[b]?=some i:=by simpa using Y
  rw[Nj]at J C;obtain⟨p,d,E⟩:=SN.mp J;obtain⟨q,y,e2⟩:=SN.mp C;have M:=(iK O).mp (show(p.1,p.2)∈live mask c from NF d);have L:=(iK O).mp (show(q.1,q.2)∈live mask c from NF y);have ej:=O.inj p.1 q.1 i (by rw[<- E];exact M) (by rw[<- e2];exact L);have r:=u5 mask c;have x:=(Nk.mp d);have N:=(Nk.mp y);obtain⟨s,o⟩:=x;obtain⟨n,j⟩:=N;rcases Wb a b with z|z|z
  ·have:=TG.mp r a b (by rw[Mq];exact s) (by rw[Mq];exact n) z;rw[RL,RL,o,j]at this
   lia
  ·exact z
  ·have:=TG.mp r b a (by rw[Mq];exact n) (by rw[Mq];exact s) z;rw[RL,RL,o,j]at this
   lia
theorem vY:∀(fuel a n:Nat),n<a*2 ^ fuel->∃m,sizeAbove.go n fuel a=a*2 ^ m/\n<a*2 ^ m
 |0,a,n,h=>⟨0,by simp[sizeAbove.go],h⟩
 |fuel+1,a,n,h=>by
  unfold sizeAbove.go;by_cases c:a<=n
  ·rw[Ml c];obtain⟨m,d,b⟩:=vY fuel (a*2) n (by rw[RO]at h;rw[Nat.mul_assoc,Nat.mul_comm 2];exact h);refine⟨m+1,?_,?_⟩
   ·rw[d,RO,Nat.mul_assoc,Nat.mul_comm 2]
   ·rw[RO,Nat.mul_comm (2 ^ m),<- Nat.mul_assoc];exact b
  ·rw[Mj c];exact⟨0,by simp,by simp;lia⟩
def above{n:Nat}(h:n<2 ^ 60):∃k,sizeAbove n - 1+1=2 ^ (k+1)/\n<=sizeAbove n - 1:=by
 obtain⟨m,a,e2⟩:=vY 64 8 n (Of h (by decide));have e:sizeAbove n=8*2 ^ m:=a;have hp:=Yn m;refine⟨m+2,?_,by lia⟩;rw[e,show 2 ^ (m+2+1)=8*2 ^ m by rw[RO,RO,RO];lia]
 lia
end ST
namespace SW
open PySem PySem.SetTable ST
section
variable{prog:Program}{w:World}{A:Around}{E:yaa}{s:Shared}
abbrev TK(prog:Program)(w:World):HeapKind prog w (yaf):=tupleKind (intKind prog w)
theorem items_int:∀{ks:yaf} {vs:yad},ItemsAre (intKind prog w) ks vs->∀v∈vs,∃n t,v=Value.int n t
 |_,_,.nil,v,h=>by cases h
 |_,_,.cons h t,v,a=>by
  rcases MD.mp a with z|z
  ·subst z;obtain⟨t,e⟩:=Value.isInt_shape h;exact⟨_,t,e⟩
  ·exact items_int t v z
def Hm(d:Nat)(n:Int)(t:Tok):ofAClassStatement d (.int n t)=pure false:=by cases d<;>rfl
def u9{Q:Bool->Shared->Prop}(c:(TK prog w).is s.heap k b)(f:Q false s):wpAny (model prog w) A (ofAClassStatement 8 (.ref b)) Q E s:=by
 obtain⟨o,items,n,a,e,d,b⟩:=c;unfold ofAClassStatement;refine Mh (wpAny_typeOf (T := "tuple") ⟨o,a,e⟩ ?_);dsimp only;rw[Ml (by decide)];refine Mh (Mt ?_);rw[Mj (by decide)];refine Mh (SX a d ?_);dsimp only;refine Mh ?_;rw[<- zDi];refine wpAny_forIn_list _ (λrest r a=>r.1=none/\a=s/\∀v∈rest,∃n t,v=Value.int n t) _ ?_ ?_ _ _ ⟨rfl,rfl,items_int b⟩
 ·rintro v rest r a ⟨b,rfl,c⟩;obtain⟨m,t,rfl⟩:=c v OB;rw[Hm];refine Mh (Mt ?_);simp only[Pf,if_false];exact Mt ⟨rfl,rfl,λu d=>c u (Ni _ d)⟩
 ·rintro⟨r1,r2⟩ a ⟨b,rfl,_⟩;simp only at b;subst b;exact Mt f
def G6(d:Nat)(n:Int)(t:Tok):hashByValue d (.int n t)=pure true:=by cases d<;>rfl
def Ct{Q:Bool->Shared->Prop}(c:(TK prog w).is s.heap k b)(g:Q true s):wpAny (model prog w) A (hashByValue 8 (.ref b)) Q E s:=by
 obtain⟨o,items,n,a,f,e,d⟩:=c;unfold hashByValue;refine Mh (Xv (T := "tuple") ⟨o,a,f⟩ F.slot_tuple_hash.lookup ?_);show wpAny _ _ (seqItems? (.ref b) >>= _) _ _ s;refine Mh (SX a e ?_);dsimp only[We];refine Mh ?_;rw[<- zDi];refine wpAny_forIn_list _ (λrest r a=>r.1=none/\a=s/\∀v∈rest,∃n t,v=Value.int n t) _ ?_ ?_ _ _ ⟨rfl,rfl,items_int d⟩
 ·rintro v rest r a ⟨b,rfl,c⟩;obtain⟨m,t,rfl⟩:=c v OB;rw[G6];refine Mh (Mt ?_);simp only[Bool.not_true,Pf,if_false];exact Mt ⟨rfl,rfl,λu d=>c u (Ni _ d)⟩
 ·rintro⟨r1,r2⟩ a ⟨b,rfl,_⟩;simp only at b;subst b;exact Mt g
def Bv{vs:yad}{Q:Bool->Shared->Prop}(f:(TK prog w).is s.heap k b)(l:∀v∈vs,∃a c,v=Value.ref c/\(TK prog w).is s.heap a c)(m:Q false s) :
  wpAny (model prog w) A (searchCouldBeSeen (.ref b) vs) Q E s:=by
 unfold searchCouldBeSeen;refine Mh (wpAny_forIn_list _ (λrest r d=>r.1=none/\d=s/\∀v∈rest,∃a c,v=Value.ref c/\(TK prog w).is s.heap a c) _ ?_ ?_ _ _ ⟨rfl,rfl,l⟩)
 ·rintro v rest r d ⟨e,rfl,j⟩;have i:∀u∈rest,∃a c,u=Value.ref c/\(TK prog w).is d.heap a c:=λu k=>j u (Ni _ k)
  obtain⟨a,c,rfl,g⟩:=j v OB;dsimp only;by_cases h:((b==c) || (carriedByValue (.ref b) && carriedByValue (.ref c)))=true
  ·rw[Ml h];exact Mt ⟨rfl,rfl,i⟩
  ·rw[Mj h];refine Mh ((TK prog w).quiet f ?_);simp only[Bool.not_true,Pf,if_false];refine Mh ((TK prog w).quiet g ?_);simp only[Bool.not_true,Pf,if_false];refine Mh (u9 f ?_);simp only[Pf,if_false];refine Mh (u9 g ?_);simp only[Pf,if_false];exact Mt ⟨rfl,rfl,i⟩
 ·rintro⟨r1,r2⟩ d ⟨e,rfl,_⟩;simp only at e;subst e;exact Mt m
theorem qq{o:Obj}{xs:List (yaf×Addr)}{Q:SetFound->Shared->Prop}(hu:A.units<cLine)(hk:(TK prog w).is s.heap k b)
  (ho:s.heap.get? a=some o) (hd:o.data=.set es ep t) (he:es.toList=xs.map λx=>((TK prog w).hash x.1,Value.ref x.2)) (Vi:∀x∈xs,(TK prog w).is s.heap x.1 x.2) (T:Tab t (xs.map λx=>(TK prog w).hash x.1))
  (Vh:k∈xs.map (·.1)->Q (.there none) s) (XB:k∉xs.map (·.1)->∀j d f,cK t.mask ((TK prog w).hash k)=d++j::f->(∀y∈d,y∈t.place.toList)->j∉t.place.toList->Q (.free j false) s) :
  ∀ (fuel:Nat) (l done:yag) (c:Nat) (st:Option Probe),ahead t.mask c (st.getD (t.probeStart ((TK prog w).hash k)))=l->cK t.mask ((TK prog w).hash k)=done++l →
   (∀y∈done,∃(i:Nat) (x:yaf×Addr),t.place[i]?=some y/\xs[i]?=some x/\x.1≠k)->l.length<fuel->(st.getD (t.probeStart ((TK prog w).hash k))).dummy=none->wpAny (model prog w) A (setSearchFrom a (.ref b) ((TK prog w).hash k) true fuel st) Q E s
 |0,_,_,_,_,_,_,_,hf,_=>absurd hf (Ym _)
 |fuel+1,l,done,c,st,e1,e2,I,hf,hdm=>by
  have sz:es.size=xs.length:=by rw[<- Po,he,Mq]
  have G:t.fits es.size=true:=by have:=T.fits;rw[Mq]at this;rw[sz];exact this
  have psz:t.place.size=xs.length:=by have:=T.len;rw[Mq]at this;exact this
  have n:∀(i:Nat) (x:yaf×Addr),xs[i]?=some x->es[i]?=some ((TK prog w).hash x.1,Value.ref x.2):=λi x p=>by rw[<- Rt,he,Nj,p];rfl
  have g:∀i y:Nat,t.place[i]?=some y->∃x,xs[i]?=some x:=λi y u=>by have:=(dR u).2;exact⟨xs[i]'(by lia),M5 (by lia)⟩
  have O:∀(i:Nat) (x:yaf×Addr),xs[i]?=some x->(es[i]?.map (·.1)).getD 0=(TK prog w).hash x.1:=λi x p=>by rw[n i x p];rfl
  have U:∀y∈done,y∈t.place.toList:=λy u=>let ⟨i,_,r,_⟩:=I y u;get_mem r
  have emp:∃x∈l,x∉t.place.toList:=by
   obtain⟨x,p,e⟩:=T.empty ((TK prog w).hash k);rw[e2]at p;rcases Nu.mp p with z|z
   ·exact absurd (U x z) e
   ·exact⟨x,z,e⟩
  have ll:l.length<=10*turns t.mask:=by
   have:=tB t.mask ((TK prog w).hash k);rw[e2,Od]at this
   lia
  unfold setSearchFrom;refine Mh (Tj ho hd G ?_);dsimp only;rw[T.stays];simp only[Pf,if_false];generalize hm:t.probe _ ((TK prog w).hash k) (st.getD (t.probeStart ((TK prog w).hash k)))=m;rcases xQ T.rise T.dum (λi=>(es[i]?.map (·.1)).getD 0) ((TK prog w).hash k) l (10*turns t.mask) c _ e1 ll emp hdm with⟨d,j,f,q1,Y,H,q4⟩| ⟨d,j,f,i,q,c',q1,Y,H,q4,q5,q6,q7⟩
  ·have em:m=some (.empty j none):=hm.symm.trans q4;subst em;dsimp only;have M:cK t.mask ((TK prog w).hash k)=(done++d)++j::f:=by rw[e2,q1,Ss]
   have hpp:∀y∈done++d,y∈t.place.toList:=λy u=>by
    rcases Nu.mp u with z|z
    ·exact U y z
    ·obtain⟨i,r,_⟩:=Y y z;exact get_mem r
   refine Mt (XB (λN=>?_) j _ f M hpp H);obtain⟨x,p,C⟩:=M4.mp N;obtain⟨e,li,ei⟩:=TL p;have B:xs[e]?=some x:=by rw[M5 li,ei]
   have J:=rX (xs:=t.place) (a:=e) (by lia);obtain⟨Vj,post0,v0,p0⟩:=T.reach e _ ((TK prog w).hash k) J (by rw[Nj,B,<- C];rfl);have x0:t.place.getD e 0∈done++d:=by
    have L:Vj.length<(done++d).length:=by
     refine X3 λnl=>?_
     have h:(cK t.mask ((TK prog w).hash k))[(done++d).length]?=some j:=by rw[M,RI (MS _),Xz];rfl
     rw[v0]at h;by_cases c1:(done++d).length<Vj.length
     ·rw[RK c1]at h;exact H (p0 j (NF h))
     ·have c2:(done++d).length=Vj.length:=by lia
      rw[c2,RI (MS _),Xz]at h;have:t.place.getD e 0=j:=Pp h;exact H (by rw[<- this];exact get_mem J)
    have h:(cK t.mask ((TK prog w).hash k))[Vj.length]?=some (t.place.getD e 0):=by rw[v0,RI (MS _),Xz];rfl
    rw[M,RK L]at h;exact NF h
   have same:∀h:Nat,t.place[h]?=some (t.place.getD e 0)->h=e:=λh h'=>(below_at T.rise h').symm.trans (below_at T.rise J)
   rcases Nu.mp x0 with z|z
   ·obtain⟨h,x',r,L,h3⟩:=I _ z;have:=same h r;subst this;rw[B]at L;cases L;exact h3 C
   ·obtain⟨h,r,L⟩:=Y _ z;have:=same h r;subst this;exact L (by rw[O h x B,C])
  ·have em:m=some (.candidate j i q):=hm.symm.trans q7;subst em;dsimp only;obtain⟨x,B⟩:=g i j H;have p:=Vi x (NF B);have stored:∀v∈(es.filter (·.1==(TK prog w).hash k)).toList.map (·.2),∃k' c,v=Value.ref c/\(TK prog w).is s.heap k' c:=λv M=>by
    obtain⟨e,N,rfl⟩:=M4.mp M;have J:e∈es.toList:=by have:=Array.mem_toList_iff.mp N;exact Array.mem_toList_iff.mpr (Array.mem_filter.mp this).1
    rw[he]at J;obtain⟨y,u,rfl⟩:=M4.mp J;exact⟨y.1,y.2,rfl,Vi y u⟩
   have N:wpAny (model prog w) A (do
     let some (_,y):=es[i]?|unsupported "internal:set-entry"
     let equal←holding [y] (eqBool y (.ref b))
     let (PL,_,t')←setState a
     if true && equal then return SetFound.there none
     let some same:=t'.sameMemory t.moves t.mask|unsupported "set.changed-during-lookup:is-the-new-block-at-the-old-address"
     let Zp←match(if same then t'.slot j else .empty)with
      |.live h=>match PL[h]? with
       |some (_,e)=>do pure (if←isSame e y then some h else none)
       |none=>pure none
      |_=>pure none
     match Zp with
     |none=>rule "set.search.anew"; setSearchFrom a (.ref b) ((TK prog w).hash k) true fuel none
     |some h=>if equal then return .there (some h)else setSearchFrom a (.ref b) ((TK prog w).hash k) true fuel (some q)) Q E s:=by
    rw[n i x B];dsimp only;refine Mh (Qv ((TK prog w).eqBool hu p hk ?_));refine Mh (Tj ho hd G ?_);dsimp only;by_cases C:x.1=k
    ·rw[Ml (by simp[C])];exact Mt (Vh (M4.mpr ⟨x,NF B,C⟩))
    ·rw[Mj (by simp[C])];have sm:t.sameMemory t.moves t.mask=some true:=by unfold SetTable.sameMemory;simp
     rw[sm];dsimp only;rw[Ml rfl,vg T.rise H];dsimp only;rw[n i x B];dsimp only;refine Mh (wpAny_isSame_ref_self ?_);simp only[if_true];refine Mh (Mt ?_);dsimp only;rw[Mj (by simp[C])];refine qq hu hk ho hd he Vi T Vh XB fuel f (done++d++[j]) c' (some q) q5.symm (by rw[e2,q1];simp) (λy u=>?_) (by rw[q1,Od,P5]at hf;lia) q6;rcases Nu.mp u with z|z
     ·rcases Nu.mp z with z|z
      ·exact I y z
      ·obtain⟨h,r,L⟩:=Y y z;obtain⟨x',e⟩:=g h y r;exact⟨h,x',r,e,λJ=>L (by rw[O h x' e,J])⟩
     ·simp at z;subst z;exact⟨i,x,H,B,C⟩
   by_cases e:t.led=true
   ·rw[Mj (by simp[e])];exact N
   ·rw[Ml (by simp[e])];refine Mh (Bv hk stored ?_);simp only[Pf,if_false];exact N
theorem vZ:∀(fuel a n:Nat),sizeAbove.go n fuel a<=max a (2*n)
 |0,a,n=>by unfold sizeAbove.go;lia
 |fuel+1,a,n=>by
  unfold sizeAbove.go;split
  ·have:=vZ fuel (a*2) n
   lia
  ·lia
structure jB(prog:Program)(w:World)(h:Heap)(a:Addr)(xs:List (yaf×Addr)):Prop where
 ex:∃o es ep t,h.get? a=some o/\o.ExactSet/\o.data=.set es ep t/\es.toList=xs.map (λx=>((TK prog w).hash x.1,Value.ref x.2))/\Tab t (xs.map λx=>(TK prog w).hash x.1)/\(t.plain=true/\t.led=!w.params.followText "set-order")/\t.place.size*5<t.mask*3/\t.mask<=8191
 is_:∀x∈xs,(TK prog w).is h x.1 x.2
 nd:(xs.map (·.1)).Nodup
def kU {o:Obj} (e:(TK prog w).is h k b) (i:h.get? a=some o) (l:o.cls=.type "set") (hs:Heap.SameBut a h h'):(TK prog w).is h' k b:=by
 obtain⟨g,c,n,f,d,k,j⟩:=e;have h:b≠a:=λe=>by subst e;rw[i]at f;cases f;rw[l]at d;injection d with z;exact absurd z (by decide)
 exact⟨g,c,n,hs.extBut b g h f,d,k,j⟩
def Fs{xs:List (yaf×Addr)}{o:Obj}{c:Nat}{Q:Unit->Shared->Prop}(B:s.heap.get? a=some o)(m:o.ExactSet)(C:o.data=.set es ep t)(d:es.toList=xs.map λx=>((TK prog w).hash x.1,Value.ref x.2))
  (T:Tab t (xs.map λx=>(TK prog w).hash x.1)) (U:t.plain=true/\t.led=!w.params.followText "set-order") (Vi:∀x∈xs,(TK prog w).is s.heap x.1 x.2) (N:(xs.map (·.1)).Nodup) (hw:c=4*xs.length) (hn:0<xs.length) (hl:xs.length<=1000)
  (hQ:∀h' ys,Heap.SameBut a s.heap h'->jB prog w h' a ys->ys.length=xs.length->(∀y,y∈ys↔y∈xs)->Q () {s with heap:=h'}):wpAny (model prog w) A (setRelay a c) Q E s:=by
 have G:es.size=xs.length:=by rw[<- Po,d,Mq]
 have u:t.fits es.size=true:=by have:=T.fits;rw[Mq]at this;rw[G];exact this
 obtain⟨k,l,eb⟩:=above (n:=c) (by lia);have up:sizeAbove c<=max 8 (2*c):=vZ 64 8 c;generalize hzs:(xs.map λx=>((TK prog w).hash x.1,x)).toArray=f;have n:f.size=xs.length:=by rw[<- hzs];simp
 have g:∀i:Nat,f[i]?=xs[i]?.map λx=>((TK prog w).hash x.1,x):=λi=>by rw[<- hzs];simp
 have j:∀i:Nat,es[i]?=xs[i]?.map λx=>((TK prog w).hash x.1,Value.ref x.2):=λi=>by rw[<- Rt,d,Nj]
 have e:es.map (·.1)=f.map (·.1):=by apply Array.ext_getElem?;intro i;rw[Array.getElem?_map,Array.getElem?_map,g,j];cases xs[i]?<;>rfl
 obtain⟨h,b,k,O,m2,m3,d,p,L,T,f3,I,Q,f6⟩:=He l t.finger (t.movedTo (sizeAbove c - 1)) t.led t.plain f (by lia);have er:t.relaid (es.map (·.1)) c=some (h,b):=by unfold SetTable.relaid;rw[e];exact k
 generalize Vk:d.map (·.2)=ys;have t:∀l:yag,(l.filterMap λi=>es[i]?)=(l.filterMap λi=>f[i]?).map λz=>(z.1,Value.ref z.2.2):=λl=>by
  induction l with
  |nil=>rfl
  |cons i r ih =>
   cases e:xs[i]? with
   |none=>rw[List.filterMap_cons_none (by rw[j,e];rfl),List.filterMap_cons_none (by rw[g,e];rfl),ih]
   |some x=>rw[ZY (by rw[j,e];rfl),ZY (by rw[g,e];rfl),MN,ih]
 have k:b.toList.filterMap (λi=>f[i]?)=d:=by rw[<- p];simp
 have p:∀z∈d,z=((TK prog w).hash z.2.1,z.2)/\z.2∈xs:=λz c=>by obtain⟨q,l,j⟩:=TL c;obtain⟨i,_,f⟩:=I q z (by rw[M5 l,j]);rw[g]at f;obtain⟨x,J,e⟩:=SN.mp f;subst e;exact⟨rfl,NF J⟩
 have f:(b.filterMap λi=>es[i]?).toList=ys.map λx=>((TK prog w).hash x.1,Value.ref x.2):=by
  have:(b.filterMap λi=>es[i]?).toList=b.toList.filterMap λi=>es[i]?:=by simp
  rw[this,t,k,<- Vk,NY];apply Us;intro z c;obtain⟨e,_⟩:=p z c;show(z.1,Value.ref z.2.2)=((TK prog w).hash z.2.1,Value.ref z.2.2);rw[show z.1=(TK prog w).hash z.2.1 from congrArg (·.1) e]
 have H:d.map (·.1)=ys.map λx=>(TK prog w).hash x.1:=by rw[<- Vk,NY];apply Us;intro z c;obtain⟨e,_⟩:=p z c;exact congrArg (·.1) e
 have M:ys.length=xs.length:=by rw[<- Vk,Mq,L,n]
 have L:∀y,y∈ys↔y∈xs:=λy=>by
  rw[<- Vk];constructor
  ·intro j;obtain⟨z,c,rfl⟩:=M4.mp j;exact(p z c).2
  ·intro j;obtain⟨i,p,t⟩:=TL j;obtain⟨q,r⟩:=Q i (by rw[n];exact p);have c:((TK prog w).hash y.1,y)∈d:=by
    rw[<- k,Ye];refine⟨i,?_,by rw[g,M5 p,t];rfl⟩;rw[<- Rt]at r;exact NF r
   exact M4.mpr ⟨_,c,rfl⟩
 have r:(ys.map (·.1)).Nodup:=by
  rw[<- Vk,NY];refine TG.mpr λp q c l hpq e=>?_
  rw[Mq]at c l;simp only[RL,Function.comp]at e;obtain⟨i,Y,Q⟩:=I p d[p] (M5 c);obtain⟨k,t,c⟩:=I q d[q] (M5 l);rw[g]at Q c;obtain⟨x,J,I⟩:=SN.mp Q;obtain⟨l,g,d⟩:=SN.mp c;rw[<- I,<- d]at e;have I:x.1=l.1:=e;obtain⟨l,e⟩:=Nk.mp J;obtain⟨d,c⟩:=Nk.mp g;have g:i=k:=by
   rcases Wb i k with z|z|z
   ·have:=TG.mp N i k (by rw[Mq];exact l) (by rw[Mq];exact d) z;rw[RL,RL,e,c]at this;exact absurd I this
   ·exact z
   ·have:=TG.mp N k i (by rw[Mq];exact d) (by rw[Mq];exact l) z;rw[RL,RL,e,c]at this;exact absurd I.symm this
  subst g;have:=f6 p q i Y t
  lia
 unfold setRelay;refine Mh (Tj B C u ?_);dsimp only;rw[Mj (by rw[sizeLine_eq];lia),er];have c:(b.filterMap λi=>es[i]?).size=es.size:=by rw[<- Po,f,Mq,M,G]
 refine Mh ?_;show wpAny _ _ (if((b.filterMap λi=>es[i]?).size != es.size)=true then _ else pure (b.filterMap (λi=>es[i]?),h)) _ _ _;rw[Mj (by rw[c];simp)];refine Mt ?_;refine wpAny_storeSet_of B C ?_ (by rw[c,G,sizeLine_eq];lia);have c:(s.heap.update a (Obj.putSet (b.filterMap λi=>es[i]?) h)).get? a=some {o with data:=.set (b.filterMap λi=>es[i]?) (ep+1) h}:=by have:=TH (Obj.putSet (b.filterMap λi=>es[i]?) h) B (by rw[putSet_of _ _ C];rfl);rw[putSet_of _ _ C]at this;exact this
 rw[H]at T;refine hQ _ ys (Vw ..) ⟨⟨_,_,ep+1,h,c,m,rfl,f,T,⟨by rw[m3];exact U.1,by rw[m2];exact U.2⟩,by rw[O,f3,n];lia,by rw[O];lia⟩,λy j=>kU (Vi y ((L y).mp j)) B m.1 (Vw ..),r⟩ M L
def IJ{Q:Bool->Shared->Prop}(e:A.units<cLine)(S:jB prog w s.heap a xs)(H:(TK prog w).is s.heap k b)(hl:xs.length<1000)
  (M:∀h' ys c,Heap.SameBut a s.heap h'->jB prog w h' a ys->ys.length<=xs.length+1->(∀i,i∈ys.map (·.1)↔i∈xs.map (·.1)∨i=k)->(∀y∈ys,y∈xs∨y=(k,b))->Q c {s with heap:=h',toks:=s.toks+(TK prog w).draws k}) :
  wpAny (model prog w) A (setAdd a (.ref b)) Q E s:=by
 unfold setAdd;refine Qv (Mh ((TK prog w).pyHash e H ?_));generalize hs':({s with toks:=s.toks+(TK prog w).draws k}:Shared)=d;have I:d.heap=s.heap:=by rw[<- hs']
 obtain⟨⟨o,l,N,t,m,g,u,B,T,p,f,G⟩,h,L⟩:=S;rw[<- I]at m H;have O:∀x∈xs,(TK prog w).is d.heap x.1 x.2:=by rw[I];exact h
 have U:l.size=xs.length:=by rw[<- Po,B,Mq]
 have n:t.fits l.size=true:=by have:=T.fits;rw[Mq]at this;rw[U];exact this
 have psz:t.place.size=xs.length:=by have:=T.len;rw[Mq]at this;exact this
 have h:∀(h':Heap) (c:Bool),Q c {s with heap:=h',toks:=s.toks+(TK prog w).draws k}->Q c {d with heap:=h'}:=λh' c q=>by rw[<- hs'];exact q
 unfold setAddHashed;refine Qv ?_;unfold setAddHashedIn;refine Mh (Tj m u n ?_);dsimp only;rw[Mj (by unfold byScan;simp[Value.scannable])];obtain⟨c,z⟩:=yw t ((TK prog w).hash k);have r:=tB t.mask ((TK prog w).hash k);unfold setSearch;refine Mh (qq e H m u B O T (λY=>?_) (λXB j pre post C J Q=>?_) 100000 _ [] c none z.symm (by simp) (by simp) (by unfold turns at r;lia) rfl)
 ·dsimp only;refine Mt ?_;have e:d={d with heap:=d.heap}:=by cases d;rfl
  rw[e];refine h _ _ (M d.heap xs _ (by rw[I];exact Heap.SameBut.refl a s.heap) ⟨⟨o,l,N,t,m,g,u,B,T,p,f,G⟩,O,L⟩ (by lia) (λi=>⟨.inl,λz=>z.elim id λz=>by subst z;exact Y⟩) λy f=>.inl f)
 ·dsimp only;refine Mh (Tj m u n ?_);dsimp only;obtain⟨T',c,Y,ps⟩:=T.put Q C J (by lia);rw[Mq]at c;have c:(t.put j).1.plain=true:=p.1;have C:(t.put j).1.plain=true/\(t.put j).1.led=!w.params.followText "set-order" := p;rw[c];simp only[if_true];refine Mh (Ct H ?_);simp only[if_true];generalize hp2:(t.put j).2=p at *;generalize ht2:(t.put j).1=j at *;have r:(insertAt l p ((TK prog w).hash k,Value.ref b)).toList=(xs.take p++(k,b)::xs.drop p).map λx=>((TK prog w).hash x.1,Value.ref x.2):=by
   rw[mL,B,OC,MN,List.map_take,List.map_drop]
  have n:(xs.take p++(k,b)::xs.drop p).length=xs.length+1:=by
   rw[Od,RZ,P5,Xn]
   lia
  have B:(insertAt l p ((TK prog w).hash k,Value.ref b)).size=xs.length+1:=by rw[<- Po,r,Mq,n]
  have c:∀y,y∈xs.take p++(k,b)::xs.drop p↔y=(k,b)∨y∈xs:=λy=>by
   rw[Nu,MD];constructor
   ·rintro(z|z|z)
    ·exact .inr (List.mem_of_mem_take z)
    ·exact .inl z
    ·exact .inr (List.mem_of_mem_drop z)
   ·rintro(z|z)
    ·exact .inr (.inl z)
    ·rw[<- Xg p xs]at z;rcases Nu.mp z with q|q
     ·exact .inl q
     ·exact .inr (.inr q)
  have t:((xs.take p++(k,b)::xs.drop p).map (·.1)).Nodup:=by
   rw[OC,MN];have J:=L;have L:=XB;rw[<- Xg p xs,OC]at J L;rw[List.nodup_append]at J ⊢;obtain⟨n1,T,Q⟩:=J;rw[Nu,not_or]at L;refine⟨n1,R0.mpr ⟨L.2,T⟩,λx J y f=>?_⟩;rcases MD.mp f with z|z
   ·intro e;subst e;subst z;exact L.1 J
   ·exact Q x J y z
  have Q:∀L:List (yaf×Addr),(∀y,y∈L↔y∈xs.take p++(k,b)::xs.drop p)->∀i,i∈L.map (·.1)↔i∈xs.map (·.1)∨i=k:=λL L i=>by
   constructor
   ·intro h1;obtain⟨y,f,e⟩:=M4.mp h1;rcases(c y).mp ((L y).mp f)with q|q
    ·subst q;exact .inr e.symm
    ·exact .inl (M4.mpr ⟨y,q,e⟩)
   ·rintro(h1|h1)
    ·obtain⟨y,f,e⟩:=M4.mp h1;exact M4.mpr ⟨y,(L y).mpr ((c y).mpr (.inr f)),e⟩
    ·subst h1;exact M4.mpr ⟨(i,b),(L _).mpr ((c _).mpr (.inl rfl)),rfl⟩
  refine Mh (wpAny_storeSet_of m u ?_ (by rw[B,sizeLine_eq];lia));have B:(d.heap.update a (Obj.putSet (insertAt l p ((TK prog w).hash k,Value.ref b)) j)).get? a=some {o with data:=.set (insertAt l p ((TK prog w).hash k,Value.ref b)) (N+1) j}:=by have:=TH (Obj.putSet (insertAt l p ((TK prog w).hash k,Value.ref b)) j) m (by rw[putSet_of _ _ u];rfl);rw[putSet_of _ _ u]at this;exact this
  have sb:=Vw d.heap a (Obj.putSet (insertAt l p ((TK prog w).hash k,Value.ref b)) j);generalize hh2:d.heap.update a (Obj.putSet (insertAt l p ((TK prog w).hash k,Value.ref b)) j)=e at B sb ⊢;have l:Tab j ((xs.take p++(k,b)::xs.drop p).map λx=>(TK prog w).hash x.1):=by rw[OC,MN,List.map_take,List.map_drop];exact T'
  have a:∀x∈xs.take p++(k,b)::xs.drop p,(TK prog w).is e x.1 x.2:=λx J=>by
   rcases(c x).mp J with z|z
   ·subst z;exact kU H m g.1 sb
   ·exact kU (O x z) m g.1 sb
  by_cases i:j.tooFull=true
  ·rw[Ml (by simp[i])];refine Mh (Fs (s:={d with heap:=e}) (xs:=xs.take p++(k,b)::xs.drop p) B g rfl r l C a t ?_ (by lia) (by lia) λk ys b m yl d=>?_)
   ·rw[n,U];unfold SetTable.grown;rw[Mj (by lia)]
    lia
   ·refine Mt (h k true (M k ys true (by rw[<- I];exact sb.trans b) m ?_ (Q ys d) λy f=>?_))
    ·lia
    ·rcases(c y).mp ((d y).mp f)with q|q
     ·exact .inr q
     ·exact .inl q
  ·rw[Mj (by simp[i])];refine Mt (h e true (M e _ true (by rw[<- I];exact sb) ⟨⟨_,_,N+1,j,B,g,rfl,r,l,C,?_,by rw[Y];exact G⟩,a,t⟩ (by lia) (Q _ λ_=>Iff.rfl) λy f=>?_))
   ·have a:j.tooFull=false:=by simpa using i
    unfold SetTable.tooFull SetTable.fill at a;rw[l.dum]at a;simp at a
    lia
   ·rcases(c y).mp f with q|q
    ·exact .inr q
    ·exact .inl q
end
def uT:entryFor table "set.update.loop" = some Builtin.«set.update.loop»:=entryFor_of_tree (by kernel_rfl)
def oO:plainId "set.update.loop" = true:=by decide +kernel
section
variable{prog:Program}{w:World}{A:Around}{E:yaa}{s:Shared}
def lZ{h':Heap}(c:(TK prog w).is h k b)(e:∀o,h.get? b=some o->h'.get? b=some o):(TK prog w).is h' k b:=by obtain⟨b,a,n,d,r⟩:=c;exact⟨b,a,n,e b d,r⟩
def key_ne {o:Obj} (d:(TK prog w).is h k b) (c:h.get? a=some o) (f:o.cls=.type T) (g:T ≠ "tuple"):b≠a:=λe=>by subst e;obtain⟨o',items,n,b,a,_⟩:=d;rw[c]at b;cases b;rw[f]at a;injection a with z;exact g z
def jB.ext{h':Heap}(S:jB prog w h a xs)(e:∀o,h.get? a=some o->h'.get? a=some o)(c:∀x∈xs,(TK prog w).is h' x.1 x.2):jB prog w h' a xs:=by obtain⟨⟨o,d,f,t,b,r⟩,_,a⟩:=S;exact⟨⟨o,d,f,t,e o b,r⟩,c,a⟩
def Hj {a I l : Addr} {items : yao} {R : Result -> Shared -> Prop} (e : A.handled = none) (J : A.in1.units < cLine) (h : a ≠ I) (B : a ≠ l) (d : l ≠ I) (hn : items.size <= 900) (ks : Nat -> yaf) :
  ∀ (m i : Nat) (s : Shared) (xs : List (yaf × Addr)), items.size - i = m -> i <= items.size -> (s.heap.IsListIter I l i /\ s.heap.IsList l items) -> jB prog w s.heap a xs -> xs.length <= i →
   (∀ (j : Nat) (v : Value), items[j]? = some v -> ∃ c, v = .ref c /\ (TK prog w).is s.heap (ks j) c) -> (∀ k, k ∈ xs.map (·.1) ↔ ∃ j, j < i /\ k = ks j) -> (∀ x ∈ xs, ∃ j, j < i /\ items[j]? = some (.ref x.2)) →
   (∀ h' r ys, (∀ b o, b ≠ a -> b ≠ I -> s.heap.get? b = some o -> h'.get? b = some o) -> jB prog w h' a ys -> ys.length <= items.size -> (∀ k, k ∈ ys.map (·.1) ↔ ∃ j, j < items.size /\ k = ks j) -> (∀ x ∈ ys, ∃ j, j < items.size /\ items[j]? = some (.ref x.2)) →
    R (.ok (.ret .none)) { s with heap := h', toks := r }) -> codeAny (model prog w) A (.builtin "set.update.loop" ⟨[.ref a, .ref I], []⟩) R s := by
 have W := Walks.list (prog := prog) (w := w) (A := A.in1) (show A.in1.handled = none from e) I l d items;intro m
 induction m with
 | zero =>
  intro i s xs H L st S G y g f C;have e : i = items.size := by lia
  subst e;refine UT uT ?_;rw [Around.under_plainId oO _];show wpAny _ A.in1 (pyNext (.ref I) >>= _) _ _ s;refine Mh (W.done s _ _ st λh' r q => ?_);obtain ⟨⟨o, u, z, _⟩, _⟩ := st;have n : ∀ b o, b ≠ I -> s.heap.get? b = some o -> h'.get? b = some o := λb o d e => q b o (by simpa using d) e
  refine Mt (C h' r xs (λb o _ d e => n b o d e) (S.ext (λo e => n a o h e) λx p => ?_) G g f);exact lZ (S.is_ x p) λt e => n _ t (key_ne (S.is_ x p) u z (by decide)) e
 | succ m ih =>
  intro i s xs H L st S G y g f C;have H : i < items.size := by lia
  refine UT uT ?_;rw [Around.under_plainId oO _];show wpAny _ A.in1 (pyNext (.ref I) >>= _) _ _ s;refine Mh (W.item i s _ _ H st λv h' r G O q => ?_);obtain ⟨⟨o, u, z, _⟩, _⟩ := id st;have n : ∀ b o, b ≠ I -> s.heap.get? b = some o -> h'.get? b = some o := λb o d e => q b o (by simpa using d) e
  have m : ∀ {k : yaf} {c : Addr}, (TK prog w).is s.heap k c -> (TK prog w).is h' k c := λq => lZ q λt e => n _ t (key_ne q u z (by decide)) e
  have u : jB prog w h' a xs := S.ext (λo e => n a o h e) λx p => m (S.is_ x p)
  obtain ⟨c, rfl, t⟩ := y i v G;show wpAny _ A.in1 (holding [.ref c] (setAdd a (.ref c)) >>= _) _ _ _;refine Mh (Qv (IJ (s := { s with heap := h', toks := r }) J u (m t) (by lia) λr ys b' sb N yl L J => ?_));obtain ⟨⟨o2, _, _, _, t, a, _⟩, _, _⟩ := id u;have M : ∀ {k : yaf} {c : Addr}, (TK prog w).is h' k c -> (TK prog w).is r k c := λq => kU q t a.1 sb
  have a : r.IsListIter I l (i + 1) /\ r.IsList l items := W.frame _ _ _ O λb d o e => by
   refine sb.extBut b o (λq => ?_) e;subst q;simp only [MD, OX, or_false] at d;rcases d with z | z
   ·exact h z
   ·exact B z
  refine Mt ⟨Xy oO _, ih (i + 1) _ ys (by lia) H a N (by lia) (λj v a => ?_) (λk => ?_) (λx p => ?_) λu c h d H l r t => ?_⟩
  ·obtain ⟨B, e, q⟩ := y j v a;exact ⟨B, e, M (m q)⟩
  ·rw [L k, g k];constructor
   ·rintro (⟨j, a, e⟩ | e)
    ·exact ⟨j, by lia, e⟩
    ·exact ⟨i, by lia, e⟩
   ·rintro ⟨j, a, e⟩;by_cases z : j < i
    ·exact .inl ⟨j, z, e⟩
    ·have : j = i := by lia
     subst this;exact .inr e
  ·rcases J x p with z | z
   ·obtain ⟨j, a, e⟩ := f x z;exact ⟨j, by lia, e⟩
   ·subst z;exact ⟨i, by lia, G⟩
  ·exact C u c h (λb o a c e => d b o a c (sb.extBut b o a (n b o c e))) H l r t
end
def vF (a:Value):checkTypeCall "set" ⟨[a],[]⟩=pure ():=by kernel_rfl
def xG (a:Value):checkBuiltinCall "set.__new__" ⟨[.type "set", a],[]⟩=pure ():=by kernel_rfl
section
variable{prog:Program}{w:World}{A:Around}{E:yaa}{s:Shared}
def vw(a:Value){Q₁:yaa}
  (h:∀led:Bool,led=(!w.params.followText "set-order")->Q₁ (.ref s.heap.objs.size) {s with heap:=s.heap.push {cls:=.type "set", dict:=none,data:=.set #[] 0 (.fresh 0 0 led)} }) :
  codeAny (model prog w) A (.call (.builtin "set.__new__") ⟨[.type "set", a],[]⟩) (wants Q₁ E) s:=by
 refine codeAny_of_tree ?_;show wpAny _ A.in1 (do checkBuiltinCall "set.__new__" ⟨[.type "set", a],[]⟩;again (.builtin "set.__new__" ⟨[.type "set", a],[]⟩)) _ _ s;refine Mh (wpAny_of_eq (xG a) (Mt ⟨Xy F.plain_set_new _,UT F.entry_set_new ?_⟩));rw[Around.under_plainId F.plain_set_new _];unfold Builtin.«set.__new__» Builtin.Frozenset.newClass;have Zd:=sub_set_self;obtain⟨hp,g,d,tk,os⟩:=s;dsimp only;wp_walk;refine Yj (Mt ?_);dsimp only;simp only[newObj];refine Mh (wpAny_alloc (Mt ?_));exact Mt (h _ rfl)
def yA {x:Value} {Q:Unit->Shared->Prop} (a:s.TypeIs self "set") (c:Q () s):wpAny M A (checkBuiltinCall "set.__init__" ⟨[self,x],[]⟩) Q E s:=by
 simp only[checkBuiltinCall,kind_set_init,split_set_init,sig_set_init];refine Mh (Wf a sub_set_self ?_);simp only[Bool.not_true,Pf,if_false];unfold Bind.checkArgs;dsimp only;refine Mh (m:=Bind.printed "set" true _ _) (PyProof.Rows.printed_name (by decide) ?_);refine Mh (m:=Bind.printed "*" false _ _) (PyProof.Rows.printed_star (self:=self) rfl a λa=>?_);have b:(Manifest.Receiver.self==Manifest.Receiver.none)=false:=by decide
 rw[show(if(Manifest.Receiver.self==Manifest.Receiver.none)=true then[self,x].length else[self,x].length - 1)=1 by simp[b]];simp only[Sv];rw[show Bind.check ⟨.positional,"set", "*", .self,[⟨"iterable", .posOnly,false⟩]⟩ "set" a 1 []=pure ()by(simp[Bind.check,Bind.checkCount,Bind.isPositional];intro z;exact absurd z (by decide))];exact Mt c
set_option maxHeartbeats 1000000 in
def B4 {x:Value} {Q:yaa} (h:∀led:Bool,led=(!w.params.followText "set-order")->wpAny (model prog w) A.in1.in1 (Builtin.«set.__init__» ⟨[.ref s.heap.objs.size,x],[]⟩)
   (λc b=>match c with|.done f=>wants (λr a=>r=.none/\Q (.ref s.heap.objs.size) a) E (.ok f) b|.again d=>d.quiet=true/\codeAny (model prog w) A.in1 d (wants (λr a=>r=.none/\Q (.ref s.heap.objs.size) a) E) b)
   (λe b=>wants (λr a=>r=.none/\Q (.ref s.heap.objs.size) a) E (.error e) b) {s with heap:=s.heap.push {cls:=.type "set", dict:=none,data:=.set #[] 0 (.fresh 0 0 led)} }) :
  wpAny (model prog w) A (call (.type "set") [x]) Q E s:=by
 obtain⟨c,tl,hmro⟩:=F.called_set.mro;have hmade:=F.called_set.made;have Zd:=F.called_set.sub;refine wpAny_call (codeAny_of_tree ?_);show wpAny _ _ (callAny (.type "set") _) _ _ _;refine Mt ⟨Code.quiet_builtin _ (by decide +kernel),UT F.entry_type_call ?_⟩;rw[Around.under_plain (weight_type_call_type "set" [x] []) rfl];have h1:=F.called_set.notType;have h2:=F.called_set.canCreate;have hct:=vF x
 repeat (any_goals (first|assumption|wp_step))
 refine codeAny_mono (vw (E:=E) x (Q₁:=λc d=>∃led:Bool,led=(!w.params.followText "set-order")/\c=.ref s.heap.objs.size/\d={s with heap:=s.heap.push {cls:=.type "set", dict:=none,data:=.set #[] 0 (.fresh 0 0 led)} }) λled b=>⟨led,b,rfl,rfl⟩) λr d d=>?_
 cases r with
 |error e=>exact d
 |ok f =>
  cases f with
  |ret c =>
   obtain⟨led,b,rfl,rfl⟩:=d;have c:Shared.TypeIs {s with heap:=s.heap.push {cls:=.type "set", dict:=none,data:=.set #[] 0 (.fresh 0 0 led)} } (.ref s.heap.objs.size) "set" := ⟨_,OI _ rfl,rfl⟩;have hli:=F.called_set.init.lookup;have hbi:=F.called_set.init.bind (.ref s.heap.objs.size)
   repeat (any_goals (first|assumption|wp_step))
   refine codeAny_mono (codeAny_call_builtin (R:=wants (λr a=>r=.none/\Q (.ref s.heap.objs.size) a) E) F.called_set.init.plain F.entry_set_init (yA c (h led b))) λb a a=>?_
   cases b with
   |error e=>exact a
   |ok b =>
    cases b with
    |ret r =>
     obtain⟨rfl,hq⟩:=a
     repeat (any_goals (first|assumption|wp_step))
    |_=>exact a.elim
  |_=>exact d.elim
def G2 (led:Bool) (a:led=!w.params.followText "set-order"):jB prog w (s.heap.push {cls:=.type "set", dict:=none,data:=.set #[] 0 (.fresh 0 0 led)}) s.heap.objs.size []:=by refine⟨⟨_,#[],0,_,OI _ rfl,⟨rfl,rfl,rfl⟩,rfl,rfl,?_,⟨rfl,a⟩,by show 0*5<7*3;decide,by show 7<=8191;decide⟩,by simp,by simp⟩;refine⟨⟨2,rfl⟩,λa b _ b=>absurd b (Ym _),(λx b=>by cases b),rfl,rfl,N9 _,λa x h b=>?_⟩;have:(#[]:yap)[a]?=some x:=b;simp at this
def KA:isSubtype (.type "list") (.type "set")=pure false:=by rw[isSubtype_type];kernel_rfl
def Kz:isSubtype (.type "list") (.type "frozenset")=pure false:=by rw[isSubtype_type];kernel_rfl
def call_set_list{Q:yaa}(p:A.handled=none)(i:A.in1.in1.in1.units<cLine)(e:s.heap.IsList l items)(m:items.size<=900)(ks:Nat->yaf)
  (n:∀(j:Nat) (v:Value),items[j]?=some v->∃c,v=.ref c/\(TK prog w).is s.heap (ks j) c)
  (r:∀h' f ys,(∀b o,s.heap.get? b=some o->h'.get? b=some o)->jB prog w h' s.heap.objs.size ys->ys.length<=items.size->(∀k,k∈ys.map (·.1)↔∃ j,j<items.size/\k=ks j)->(∀x∈ys,∃j,j<items.size/\items[j]?=some (.ref x.2)) →
   Q (.ref s.heap.objs.size) {s with heap:=h',toks:=f}):wpAny (model prog w) A (call (.type "set") [.ref l]) Q E s:=by
 refine B4 λled d=>?_
 have a:(s.heap.push {cls:=.type "set", dict:=none,data:=.set #[] 0 (.fresh 0 0 led)}).get? s.heap.objs.size=some {cls:=.type "set", dict:=none,data:=.set #[] 0 (.fresh 0 0 led)}:=OI _ rfl;have hT:Shared.TypeIs {s with heap:=s.heap.push {cls:=.type "set", dict:=none,data:=.set #[] 0 (.fresh 0 0 led)} } (.ref s.heap.objs.size) "set" := ⟨_,a,rfl⟩;have h:l<s.heap.objs.size:=by obtain⟨o,a,_⟩:=e;exact MV a
 have g:Shared.TypeIs {s with heap:=s.heap.push {cls:=.type "set", dict:=none,data:=.set #[] 0 (.fresh 0 0 led)} } (.ref l) "list" := by obtain⟨o,a,k,_⟩:=e;exact⟨o,Nd _ a,k⟩
 have k:=G2 (prog:=prog) (w:=w) (s:=s) led d;have d:(s.heap.push {cls:=.type "set", dict:=none,data:=.set #[] 0 (.fresh 0 0 led)}).IsList l items:=e.push _;have XG:(s.heap.push {cls:=.type "set", dict:=none,data:=.set #[] 0 (.fresh 0 0 led)}).objs.size=s.heap.objs.size+1:=TM ..;have a:∀b o,s.heap.get? b=some o->(s.heap.push {cls:=.type "set", dict:=none,data:=.set #[] 0 (.fresh 0 0 led)}).get? b=some o:=λb o e=>Nd _ e
 unfold Builtin.«set.__init__» noKeywords
 wp_walk
 refine wpAny_of_eq KA ?_;show wpAny _ _ (isInstance (.ref l) (.type "frozenset")) _ _ _;refine Wf g Kz ?_;simp only[Pf,if_false];refine Mh (wpAny_typeOf g ?_);rw[Mj (by decide)];generalize s.heap.push {cls:=.type "set", dict:=none,data:=.set #[] 0 (.fresh 0 0 led)}=h1 at *;refine Mh (wpAny_pyIter_list d ?_);refine Mh (wpAny_runValue ?_);have g:s.heap.objs.size≠h1.objs.size:=by lia
 refine Hj (A:=A.in1.in1) (I:=h1.objs.size) (l:=l) (items:=items) p i g (RN h) (NG (by rw[XG];exact UP h)) m ks items.size 0 {s with heap:=h1.push {cls:=.type "list_iterator", data:=.fields #[.ref l,.int 0 0]} } [] (by lia) (N9 _) ⟨⟨_,OI _ rfl,rfl,rfl⟩,d.push _⟩ (k.ext (λo e=>Nd _ e) (by simp)) (MS _) (λj v k=>?_) (by simp) (by simp) λh' f ys i S d g h=>?_
 ·obtain⟨c,e,q⟩:=n j v k;exact⟨c,e,lZ q λo e=>Nd _ (a c o e)⟩
 ·refine Mt (Mt ⟨rfl,r h' f ys (λb o e=>?_) S d g h⟩);have c:b<s.heap.objs.size:=MV e;exact i b o (NG c) (NG (by rw[XG];exact UP c)) (Nd _ (a b o e))
end
theorem rQ{a:Type}:∀(l:List a) (i:Nat) (h:i<l.length),(l[i]::l.eraseIdx i).Perm l
 |[],_,h=>absurd h (Ym _)
 |x::l,0,_=>List.Perm.refl _
 |x::l,i+1,h=>by have r:=rQ l i (by simpa using h);show(l[i]'(by simpa using h)::x::l.eraseIdx i).Perm (x::l);exact(List.Perm.swap x _ _).trans (List.Perm.cons x r)
theorem zS{b:Type}(next:Nat->Nat):∀(fuel k:Nat) (left:List b) (a:Array b),left.length=fuel->(pickOrder.go next fuel k left a).toList.Perm (a.toList++left)
 |0,k,left,a,e=>by have:left=[]:=List.length_eq_zero_iff.mp e;subst this;simp[pickOrder.go]
 |fuel+1,k,left,a,e=>by
  have c:0<left.length:=by lia
  have b:next k % left.length<left.length:=Tq _ c;unfold pickOrder.go;rw[M5 b];dsimp only;have r:=zS next fuel (k+1) (left.eraseIdx (next k % left.length)) (a.push left[next k % left.length]) (by rw[List.length_eraseIdx,Ml b];lia);refine r.trans ?_;rw[Array.toList_push,Ss];exact(List.perm_append_left_iff _).mpr (rQ left _ b)
def De{a:Type}(next:Nat->Nat)(xs:Array a):(pickOrder next xs).toList.Perm xs.toList:=by have:=zS next xs.size 0 xs.toList #[] (by simp);simpa [pickOrder]using this
def AO(a:jA xs):below xs 0=0:=by
 obtain⟨h1,b,h3⟩:=jQ a 0;rcases Nat.eq_zero_or_pos (below xs 0)with z|z
 ·exact z
 ·have:=b 0 z;lia
def AN(c:jA xs){a j:Nat}(h:xs[a]?=some j):below xs (j+1)=a+1:=by
 obtain⟨h1,e,d⟩:=jQ c (j+1);obtain⟨b,f⟩:=Vs.mp h;have ga:xs.getD a 0=j:=by simp[Array.getD,b,f]
 rcases Wb (below xs (j+1)) (a+1)with z|z|z
 ·have:=d a (by lia) b
  lia
 ·exact z
 ·have q:=e (a+1) z;have b:a+1<xs.size:=by lia
  have:=c a (a+1) (by lia) b
  lia
def xP:Manifest.owners.lookup (String.ofList ['r','o','t','a','r','e','t','i','_','t','e','s'].reverse)=some Manifest.sig_set_iterator:=by kernel_rfl
def dG:Slot "set_iterator" "__next__" "set_iterator.__next__" :=
 .of (owner := "set_iterator") (n := "__next__") (by rw[typeLookup_type,Z5];kernel_rfl) (by decide +kernel) (by decide +kernel) (by decide +kernel) (.inl (by decide +kernel)) (by rw[isSubtype_type];kernel_rfl)
def oY:Slot "set_iterator" "__iter__" "set_iterator.__iter__" :=
 .of (owner := "set_iterator") (n := "__iter__") (by rw[typeLookup_type,Z5];kernel_rfl) (by decide +kernel) (by decide +kernel) (by decide +kernel) (.inl (by decide +kernel)) (by rw[isSubtype_type];kernel_rfl)
def nN:entryFor table "set_iterator.__next__" = some Builtin.«set_iterator.__next__»:=entryFor_of_tree (by kernel_rfl)
def vx:entryFor table "set_iterator.__iter__" = some Builtin.«dict_keyiterator.__iter__»:=entryFor_alias (id' := "dict_keyiterator.__iter__") (by kernel_rfl) rfl (by decide +kernel) (by kernel_rfl)
def w7:entryFor table "set.__iter__" = some Builtin.«frozenset.__iter__»:=entryFor_alias (id' := "frozenset.__iter__") (by kernel_rfl) rfl (by decide +kernel) (by kernel_rfl)
def nX (a:Value):argsOk "set_iterator.__next__" ⟨[a],[]⟩:=by unfold argsOk;rw[signature?_of (id := "set_iterator.__next__") (n:=['_','_','t','x','e','n','_','_']) (o:=['r','o','t','a','r','e','t','i','_','t','e','s']) (by kernel_rfl) xP];kernel_rfl
def we (a:Value):argsOk "set_iterator.__iter__" ⟨[a],[]⟩:=by unfold argsOk;rw[signature?_of (id := "set_iterator.__iter__") (n:=['_','_','r','e','t','i','_','_']) (o:=['r','o','t','a','r','e','t','i','_','t','e','s']) (by kernel_rfl) xP];kernel_rfl
noncomputable def fg (w:World) (a:Addr) (es:Array (Int×Value)) (ep:Nat):Array (Int×Value):=if w.params.followText "set-order" = true then pickOrder (w.params.setOrder a ep) es else es
def qv(w:World)(a:Addr)(es:Array (Int×Value))(ep:Nat):(fg w a es ep).toList.Perm es.toList:=by
 unfold fg;split
 ·exact De _ _
 ·exact List.Perm.refl _
def lS(w:World)(a:Addr)(es:Array (Int×Value))(ep:Nat):(fg w a es ep).size=es.size:=by have:=(qv w a es ep).length_eq;simpa using this
def tM(w:World)(h:Heap)(I a:Addr)(t:SetTable)(n ep i:Nat):Prop :=
 ∃ o b,h.get? I=some o/\o.cls=.type "set_iterator" /\ o.data=.fields #[.int (b:Nat) 0,.int (i:Nat) 0,.ref a,.int (n:Nat) 0,.int (ep:Nat) 0]/\(w.params.followText "set-order" = false->below t.place b=i)
section
variable{prog:Program}{w:World}{A:Around}{E:yaa}{s:Shared}
def um (x:tM w s.heap I a t n ep i):s.TypeIs (.ref I) "set_iterator" := by obtain⟨o,_,a,b,_⟩:=x;exact⟨o,a,b⟩
def sQ{a:Addr}{o:Obj}{es:Array (Int×Value)}{ep b i:Nat}{t:SetTable}{hs:yaf}{Q:Option (Value×Nat)->Shared->Prop}(d:s.heap.get? a=some o)(e:o.data=.set es ep t)(T:Tab t hs)(f:hs.length=es.size)
  (k:t.plain=true/\t.led=!w.params.followText "set-order") (g:w.params.followText "set-order" = false->below t.place b=i)
  (j:∀z,(fg w a es ep)[i]?.map (·.2)=z.map (·.1)->(∀p,z=some p->w.params.followText "set-order" = false->below t.place p.2=i+1)->Q z s):wpAny (model prog w) A (setNext a b i ep) Q E s:=by
 have b:t.fits es.size=true:=by rw[<- f];exact T.fits
 unfold setNext;refine Mh (Tj d e b ?_);dsimp only;unfold setsByText;refine Mh (Mh (Yj (Mt ?_)));show wpAny _ _ (if w.params.followText "set-order" = true then _ else _) _ _ _;by_cases c:w.params.followText "set-order" = true
 ·rw[Ml c];simp only[Yf,Pf,if_false];unfold setWalk setsByText;refine Mh (Mh (Tj d e b ?_));dsimp only;refine Mh (Mh (Yj (Mt ?_)));show wpAny _ _ (if w.params.followText "set-order" = true then _ else _) _ _ _;rw[Ml c];refine Mh (Yj (Mt ?_));show wpAny _ _ (pure _) _ _ _;refine Mt (j _ ?_ ?_)
  ·unfold fg;rw[Ml c];show _=Option.map _ (Option.map _ (pickOrder (w.params.setOrder a ep) es)[i]?);cases(pickOrder (w.params.setOrder a ep) es)[i]?<;>rfl
  ·intro p _ h;rw[c]at h;cases h
 ·have a:w.params.followText "set-order" = false:=by simpa using c
  rw[Mj c];split
  ·rename_i h;have b:(!t.plain && decide (es.size > 1))=true:=h;rw[k.1]at b;simp at b
  ·refine Mh ?_;show wpAny _ _ (if(!t.led && !es.isEmpty)=true then unsupported "set:maker-not-led" else pure ()) _ _ _;rw[Mj (by rw[k.2,a];simp)];refine Mt (Mt (j _ ?_ ?_))
   ·unfold fg;rw[Mj c,g a];cases e:es[i]? with
    |none=>rfl
    |some z =>
     have b:i<es.size:=(Vs.mp e).1;have c:t.place[i]?=some (t.place[i]'(by rw[T.len,f];exact b)):=RJ _;rw[c];rfl
   ·intro p b _;rw[g a]at b;split at b
    ·rename_i j e;cases b;exact AN T.rise e
    ·cases b
def Ih{o:Obj}{x:Int×Value}{Q:yan->Shared->Prop}(c:s.heap.get? a=some o)(g:o.data=.set es ep t)(T:Tab t hs)(f:hs.length=es.size)
  (l:t.plain=true/\t.led=!w.params.followText "set-order") (st:tM w s.heap I a t es.size ep i) (j:(fg w a es ep)[i]?=some x)
  (k:∀h',tM w h' I a t es.size ep (i+1)->Heap.SameBut I s.heap h'->Q (some x.2) {s with heap:=h'}):wpAny (model prog w) A (pyNext (.ref I)) Q E s:=by
 obtain⟨oi,slot,e,d,b,i⟩:=id st;have h:=um st;have a:t.fits es.size=true:=by rw[<- f];exact T.fits
 unfold pyNext;refine Mh (VD (UM (name:=Str.ofString "__next__") h dG (SU dG h nN ?_ (nX _))));unfold Builtin.«set_iterator.__next__»;refine Mh (m:=slotArgs "__next__" 0 ⟨[.ref I],[]⟩) (Mt ?_);dsimp only;refine Mh (wpAny_fieldsOf e b ?_);dsimp only;unfold setEntries;refine Mh (Mh (Tj c g a (Mt ?_)));dsimp only;rw[Mj (by simp)];simp only[Xk];refine Mh (sQ c g T f l i λz c g=>?_);rw[j]at c;cases z with
 |none=>cases c
 |some p =>
  obtain⟨v,a⟩:=p;have f:x.2=v:=Pp c;subst f;dsimp only;refine Mh (Xx e b (by simp) ?_);have f:=TH (Obj.mapFields (·.setIfInBounds 0 (rawInt (a:Nat)))) e (Obj.isFreed_of_fields (Obj.data_mapFields b _));have c:=Obj.data_mapFields b (·.setIfInBounds 0 (rawInt (a:Nat)));refine Mh (Xx f c (by simp) ?_);refine Mt ⟨_,rfl,Mt (k _ ⟨_,a,TH _ f (Obj.isFreed_of_fields (Obj.data_mapFields c _)),(Obj.cls_mapFields ..).trans ((Obj.cls_mapFields ..).trans d),?_,g _ rfl⟩ ((Vw ..).trans (Vw ..)))⟩;rw[Obj.data_mapFields c];simp[rawInt]
def Kx{o:Obj}{Q:yan->Shared->Prop}(k:A.handled=none)(c:s.heap.get? a=some o)(e:o.data=.set es ep t)(T:Tab t hs)(d:hs.length=es.size)
  (n:t.plain=true/\t.led=!w.params.followText "set-order") (st:tM w s.heap I a t es.size ep i) (j:(fg w a es ep)[i]?=none)
  (l:∀h',Heap.ExtBut I s.heap h'->Q none {s with heap:=h'}):wpAny (model prog w) A (pyNext (.ref I)) Q E s:=by
 obtain⟨oi,slot,h,hci,g,i⟩:=id st;have f:=um st;have b:t.fits es.size=true:=by rw[<- d];exact T.fits
 unfold pyNext;refine Mh (VD (UM (name:=Str.ofString "__next__") f dG (SU dG f nN ?_ (nX _))));unfold Builtin.«set_iterator.__next__»;refine Mh (m:=slotArgs "__next__" 0 ⟨[.ref I],[]⟩) (Mt ?_);dsimp only;refine Mh (wpAny_fieldsOf h g ?_);dsimp only;unfold setEntries;refine Mh (Mh (Tj c e b (Mt ?_)));dsimp only;rw[Mj (by simp)];simp only[Xk];refine Mh (sQ c e T d n i λz b hn=>?_);rw[j]at b;cases z with
 |some p=>cases b
 |none =>
  dsimp only;refine Mh (Xx h g (by simp) ?_);show wpAny _ _ (newExc (.type "StopIteration") [] >>= _) _ _ _;refine Mh ?_;simp only[newExc,newTuple];refine Mh (SO ?_ (by size_fits));refine Mh (m:=firstArgMember _ _) (wpAny_of_eq (a:=Value.none) (by first|rfl|(simp only[firstArgMember];rfl)) ?_);refine SO ?_ (by size_fits);simp only[raiseNew];refine Mh (wpAny_handled ?_);rw[show A.in1.handled=none from k];refine Mh (Mt (wpAny_throw ?_));refine Mh (Wf (T := "StopIteration") (b:=true) ⟨_,OI _ rfl,rfl⟩ isSubtype_stop ?_);exact Mt (l _ (((Vw ..).extBut.push _).push _))
def Ii{Q:yaa}(st:tM w s.heap I a t n ep i)(h:Q (.ref I) s):wpAny (model prog w) A (pyIter (.ref I)) Q E s:=by have a:=um st;refine wpAny_pyIter_slot a oY (SU oY a vx ?_ (we _));show wpAny _ _ (ret (.ref I)) _ _ s;exact Mt ⟨_,rfl,"set_iterator", _,a,dG.lookup,h⟩
def DX (l:A.handled=none) (I a:Addr) (m:a≠I) {o:Obj} (j:o.data=.set es ep t) (T:Tab t hs) (g:hs.length=es.size) (k:t.plain=true/\t.led=!w.params.followText "set-order") :
  Walks prog w A I [I,a] [I] es.size (λi v=>∃x,(fg w a es ep)[i]?=some x/\x.2=v) (λi h=>tM w h I a t es.size ep i/\h.get? a=some o) where
 sub:=λb c=>by simp at c;simp[c]
 frame:=λ_ _ _ st d=>⟨by obtain⟨⟨o,e,f,r⟩,_⟩:=st;exact⟨o,e,d I (by simp) o f,r⟩,d a (by simp) o st.2⟩
 item:=λi s Q E f st d=>by
  have e:i<(fg w a es ep).size:=by rw[lS];exact f
  refine Ih st.2 j T g k st.1 (RJ e) λf i sb=>?_
  exact d _ f s.toks ⟨_,RJ e,rfl⟩ ⟨i,sb.extBut a o m st.2⟩ λb o c e=>sb.extBut b o (λh=>c (by simp[h])) e
 done:=λs Q E st d=>Kx l st.2 j T g k st.1 (by rw[X6];rw[lS];exact MS _) λf sb=>d f s.toks λb o c e=>sb b o (λh=>c (by simp[h])) e
 self:=λ_ _ _ _ st d=>Ii st.1 d
def ES {o:Obj} {Q:yaa} (c:s.heap.get? a=some o) (b:o.cls=.type "set") (d:o.data=.set es ep t) (T:Tab t hs) (f:hs.length=es.size) (i:t.plain=true)
  (g:Q (.ref s.heap.objs.size) {s with heap:=s.heap.push {cls:=.type "set_iterator", data:=.fields #[.int 0 0,.int 0 0,.ref a,.int (es.size:Nat) 0,.int (ep:Nat) 0]} }):wpAny (model prog w) A (pyIter (.ref a)) Q E s:=by
 have e:s.TypeIs (.ref a) "set" := ⟨o,c,b⟩;have b:t.fits es.size=true:=by rw[<- f];exact T.fits
 refine wpAny_pyIter_slot e F.slot_set_iter (SU F.slot_set_iter e w7 ?_ (F.args_set_iter_1 _));unfold Builtin.«frozenset.__iter__»;refine Mh (m:=Builtin.Frozenset.slot0 "__iter__" ⟨[.ref a],[]⟩) (Mt ?_);unfold Builtin.Frozenset.sizeOf setEntries setDrawn setEpoch setsByText;refine Mh (Mh (Mh (Tj c d b (Mt (Mt ?_)))));refine Mh (Mh (Tj c d b ?_));dsimp only;refine Mh (Mh (Yj (Mt (Mt ?_))));split
 ·rename_i h;have a:(!(w.params.followText "set-order") && (!t.plain && decide (es.size > 1)))=true:=h;rw[i]at a;simp at a
 ·refine Mh (Mt ?_);refine Mh (Mh (Tj c d b (Mt ?_)));unfold newFields;refine Mh (SO ?_ (by size_fits));exact Mt ⟨_,rfl,"set_iterator", _,⟨_,OI _ rfl,rfl⟩,dG.lookup,g⟩
def yB {o:Obj} {Q:yad->Shared->Prop} (r:A.handled=none) (f:s.heap.get? a=some o) (e:o.cls=.type "set") (p:o.data=.set es ep t) (T:Tab t hs) (n:hs.length=es.size) (q:t.plain=true/\t.led=!w.params.followText "set-order") (hn:es.size<=1000)
  (u:∀c (d:yad),(∀b o,s.heap.get? b=some o->c.heap.get? b=some o)->c.gens=s.gens->c.drawn=s.drawn->c.os=s.os->s.heap.objs.size<=c.heap.objs.size->d=(fg w a es ep).toList.map (·.2)->Q d c):wpAny (model prog w) A (collect (.ref a)) Q E s:=by
 unfold collect;have h:a<s.heap.objs.size:=MV f;refine Mh (wpAny_runValue (UT F.entry_proto_collect ?_));rw[Around.under_plainId F.plain_proto_collect _];show wpAny _ A.in1 (newList [] >>= λl=>again (.builtin "list.__iadd__" ⟨[l,.ref a],[]⟩)) _ _ s;refine Mh (SO ?_);refine Mt ⟨Xy F.plain_list_iadd _,UT F.entry_list_iadd ?_⟩;rw[Around.under_plainId F.plain_list_iadd _];show wpAny _ A.in1 (Builtin.List.listExtendWith (.ref s.heap.objs.size) (.ref a) (.ref s.heap.objs.size)) _ _ _;generalize hH:s.heap.push {cls:=.type "list", data:=.seq ([]:yad).toArray}=H;have g:H.objs.size=s.heap.objs.size+1:=by rw[<- hH,TM]
 have j:H.get? a=some o:=hH ▸ Nd _ f;have d:Shared.TypeIs {s with heap:=H} (.ref a) "set" := ⟨o,j,e⟩;unfold Builtin.List.listExtendWith;refine Mh (wpAny_typeOf d ?_);have i:Builtin.List.listSameRef (.ref s.heap.objs.size) (.ref a)=false:=by have:s.heap.objs.size≠a:=RN h;simp[Builtin.List.listSameRef,this]
 have f:(Value.type "set" == Value.type "list")=false:=by decide
 have d:(Value.type "set" == Value.type "tuple")=false:=by decide
 simp only[i,f,d,Bool.or_false,Pf,if_false];refine Mh (ES j e p T n q.1 ?_);generalize Tc:H.push {cls:=.type "set_iterator", data:=.fields #[.int 0 0,.int 0 0,.ref a,.int (es.size:Nat) 0,.int (ep:Nat) 0]}=d;have f:Shared.TypeIs {s with heap:=d} (.ref a) "set" := ⟨o,Tc ▸ Nd _ j,e⟩;refine Mh (Qv ?_);unfold Builtin.List.listLengthHint;refine Mh (Xv f F.slot_set_len.lookup ?_)
 wp_delta
 refine Mh (Wf (T := "set") (b:=true) f (by rw[isSubtype_type];kernel_rfl) ?_);show wpAny _ A.in1 (typeOf (Value.ref a) >>= _) _ _ _;refine Mh (wpAny_typeOf f ?_);refine Mt ?_;rw[Ml (by decide)];show wpAny _ A.in1 (rule "list.extend.makes-room" >>= λ_=>Builtin.List.listTouch (.ref s.heap.objs.size) >>= λ_ =>
  again (.builtin "list.extend.loop" ⟨[.ref s.heap.objs.size,.ref H.objs.size,.ref s.heap.objs.size],[]⟩)) _ _ _
 refine Mh (wpAny_rule ?_);refine Mh ?_;show wpAny _ A.in1 (updateSeq s.heap.objs.size (·.push .none) >>= λ_=>updateSeq s.heap.objs.size (·.pop)) _ _ _;have e:d.get? s.heap.objs.size=some {cls:=.type "list", data:=.seq ([]:yad).toArray}:=Tc ▸ Nd _ (hH ▸ OI _ rfl);refine Mh (Xw e rfl ?_);have f:=TH (Obj.mapSeq (·.push Value.none)) e rfl;refine Xw (hz:=by seq_fits) f rfl ?_;have x:=TH (Obj.mapSeq (·.pop)) f rfl;have m:∀b o,b≠s.heap.objs.size->d.get? b=some o->((d.update s.heap.objs.size (Obj.mapSeq (·.push Value.none))).update s.heap.objs.size (Obj.mapSeq (·.pop))).get? b=some o :=
  λb o i e=>(Ti _ _ (Ne.symm i)).trans ((Ti _ _ (Ne.symm i)).trans e)
 have t:d.get? H.objs.size=some {cls:=.type "set_iterator", data:=.fields #[.int 0 0,.int 0 0,.ref a,.int (es.size:Nat) 0,.int (ep:Nat) 0]}:=Tc ▸ OI _ rfl;have f:H.objs.size≠s.heap.objs.size:=by lia
 have k:a≠H.objs.size:=NG (by rw[g];exact UP h);have l:s.heap.objs.size ∉ [H.objs.size,a]:=λd=>by
  rcases MD.mp d with z|z
  ·exact f z.symm
  ·exact absurd (Oy.mp z) (RN h)
 have W:=DX (prog:=prog) (w:=w) (A:=A.in1) r H.objs.size a k p T n q;refine Mt ⟨Xy F.plain_extend_loop _,codeAny_extend_loopS W.toS (by rw[sizeLine_eq];lia) _ l _ es.size 0 _ _ _ rfl (N9 _)
  ⟨⟨_,0,m _ _ f t,rfl,rfl,λ_=>AO T.rise⟩,m _ _ (NG h) (Tc ▸ Nd _ j)⟩ x (ItemsOf.nil _) λc k c' d h l=>?_⟩
 show wpAny _ A (load s.heap.objs.size >>= _) _ _ c;refine Mh (wpAny_load h ?_);have f:∀b o,s.heap.get? b=some o->c.heap.get? b=some o:=λb j e=>by
  have a:=MV e;refine d.heap b j (λi=>?_) (m _ _ (NG a) (Tc ▸ Nd _ (hH ▸ Nd _ e)));rcases MD.mp i with z|z
  ·exact absurd a (z ▸ Ru _)
  ·rw[Oy.mp z,g]at a;exact absurd a (Sy.mpr (Nat.le_succ _))
 refine Mt (u c k.toList f d.gens d.drawn d.os (Sx (MV h)) ?_);obtain⟨q1,b⟩:=l;apply List.ext_getElem?;intro j;rw[Rt,Nj,Rt];by_cases lj:j<es.size
 ·have a:j<k.size:=by lia
  obtain⟨x,c,d⟩:=b j _ (RJ a);rw[RJ a,c];simp[d]
 ·rw[X6 (by lia),X6 (by rw[lS];lia)];rfl
end
end SW
namespace SS
open PySem PySem.W PyProof.Rows
def good{a:Type}(r:Nat->Nat)(n:Nat)(G:a->Prop):KasT a->Prop
 |.ret a=>G a
 |.ask i j k=>i<n/\j<n/\good r n G (k (decide (r i<r j)))
theorem gI{b c:Type}{r:Nat->Nat}{n:Nat}{G:b->Prop}{e:c->Prop}{f:b->KasT c}(d:∀a,G a->good r n e (f a)):∀t:KasT b,good r n G t->good r n e (t.bind f)
 |.ret a,h=>d a h
 |.ask _ _ k,⟨c,b,a⟩=>⟨c,b,gI d _ a⟩
theorem good_mono{b:Type}{G d:b->Prop}(c:∀a,G a->d a):∀t:KasT b,good r n G t->good r n d t
 |.ret a,h=>c a h
 |.ask _ _ _,⟨d,b,a⟩=>⟨d,b,good_mono c _ a⟩
theorem zG{c:Type}{r:Nat->Nat}{n:Nat}{G:c->Prop}{b:Nat->Nat->(Bool->Shared->Prop)->Shared->Prop}{Q:c->Shared->Prop}(e:∀i j C,i<n->j<n->C (decide (r i<r j)) s->b i j C s)(d:∀a,G a->Q a s):∀t:KasT c,good r n G t->t.kasWp b Q s
 |.ret a,h=>d a h
 |.ask i j k,⟨c,b,a⟩=>e i j _ c b (zG e d _ a)
section
variable{r:Nat->Nat}{n:Nat}
def v(r:Nat->Nat)(p:yap)(k:Nat):Nat:=r (p.getD k 0)
def S(r:Nat->Nat)(p:yap)(k:Nat):Prop:=∀i j,i<=j->j<k->v r p i<=v r p j
def D(r:Nat->Nat)(p:yap)(k:Nat):Prop:=∀i j,i<=j->j<k->v r p j<=v r p i
structure Ok(n:Nat)(p:yap):Prop where
 perm:p.Perm (List.toArray (List.range n))
theorem Ok.size(h:Ok n p):p.size=n:=by have:=h.perm.size_eq;simpa using this
def Ok.lt(h:Ok n p){k:Nat}(b:k<n):p.getD k 0<n:=by
 have a:=h.size;have e:p.getD k 0=p[k]'(by lia):=by simp[Array.getD,a,b]
 have m:p[k]'(by lia)∈p.toList:=by simp
 have:=(zDZ.mp h.perm).mem_iff.mp m;rw[e];simpa using this
def yj{p q:yap}{a b:Nat}(h:p[a]?=q[b]?):v r p a=v r q b:=by unfold v;rw[Array.getD_eq_getD_getElem?,Array.getD_eq_getD_getElem?,h]
def BH{p:yap}{j:Nat}(a:j<=p.size)(k:Nat):v r (kas_rev p i j) k=if i<=k/\k<j then v r p (i+j - 1 - k)else v r p k:=by
 have h:=getElem?_mirror_all (i:=i) a k;unfold kas_rev;split
 ·rename_i c;rw[Ml c]at h;exact yj h
 ·rename_i c;rw[Mj c]at h;exact yj h
def Ok.rev(h:Ok n p)(i j:Nat):Ok n (kas_rev p i j):=⟨(mirror_perm p i j _).trans h.perm⟩
theorem Ok.bubble(h:Ok n p)(k d:Nat):Ok n (PyProof.Rows.bubble p k d):=⟨(bubble_perm p k d).trans h.perm⟩
def yh{p:yap}{k l:Nat}(b:k<p.size)(hl:l<=k)(a:Nat):v r (PyProof.Rows.bubble p k (k - l)) a=if a=l then v r p k else if l<a/\a<=k then v r p (a - 1)else v r p a:=by
 have h:=getElem?_bubble b (k - l) (by lia) a;rw[show k - (k - l)=l by lia]at h;split
 ·rename_i c;rw[Ml c]at h;exact yj h
 ·rename_i c;rw[Mj c]at h;split
  ·rename_i a;rw[Ml a]at h;exact yj h
  ·rename_i a;rw[Mj a]at h;exact yj h
theorem wg(O:Ok n p):∀(f m:Nat),1<=m->m+f<=n->S r p m->good r n (λa=>m<=a/\a<=m+f/\S r p a/\(a<m+f->v r p a<v r p (a - 1))) (kas_asc p f m)
 |0,m,_,_,h=>⟨MS _,MS _,h,λz=>absurd z (Ru _)⟩
 |f+1,m,h1,h2,h=>by
  unfold kas_asc;refine⟨O.lt (by lia),O.lt (by lia),?_⟩;by_cases c:r (p.getD m 0)<r (p.getD (m - 1) 0)
  ·simp only[c,decide_true,if_true];exact⟨MS _,by lia,h,λ_=>c⟩
  ·simp only[c,decide_false,Pf,if_false];have b:S r p (m+1):=λi j d hj=>by
    rcases UX j m with z|z
    ·exact h i j d z
    ·have:j=m:=by lia
     subst this;rcases UX i j with y|y
     ·have:=h i (j - 1) (by lia) (by lia);have c':v r p (j - 1)<=v r p j:=US c
      lia
     ·have:i=j:=by lia
      subst this;exact MS _
   exact good_mono (λa d=>(by obtain⟨a1,a2,c,a⟩:=d;exact⟨by lia,by lia,c,λz=>a (by lia)⟩)) _ (wg O f (m+1) (by lia) (by lia) b)
def v_eq{p:yap}{i j:Nat}(b:j<=p.size)(h:∀a,i<=a->a<j->v r p a=v r p (j - 1))(k:Nat):v r (kas_rev p i j) k=v r p k:=by
 rw[BH b];split
 ·rename_i c;rw[h k c.1 c.2,h (i+j - 1 - k) (by omega) (by omega)]
 ·rfl
def D.Zv(e:∀a,v r q a=v r p a)(h:D r p k):D r q k:=λi j a b=>by rw[e,e];exact h i j a b
theorem pK:∀(f:Nat) (p:yap) (m q:Nat),Ok n p->m+f<=n->q+1<=m->D r p m->(∀a,m - (q+1)<=a->a<m->v r p a=v r p (m - 1)) →
  good r n (λz=>Ok n z.1/\m<=z.2.1/\z.2.1<=m+f/\D r z.1 z.2.1/\z.2.2+1<=z.2.1/\∀a,z.2.1 - (z.2.2+1)<=a->a<z.2.1->v r z.1 a=v r z.1 (z.2.1 - 1)) (kas_desc f p m q)
 |0,p,m,q,O,_,l,d,b=>⟨O,MS _,MS _,d,l,b⟩
 |f+1,p,m,q,O,hm,l,d,b=>by
  have os:=O.size;unfold kas_desc;refine⟨O.lt (by lia),O.lt (by lia),?_⟩;have o:v r p m<=v r p (m - 1)->D r p (m+1):=λc i j e hj=>by
   rcases UX j m with z|z
   ·exact d i j e z
   ·have:j=m:=by lia
    subst this;rcases UX i j with y|y
    ·have:=d i (j - 1) (by lia) (by lia)
     lia
    ·have:i=j:=by lia
     subst this;exact MS _
  by_cases c:r (p.getD m 0)<r (p.getD (m - 1) 0)
  ·simp only[c,decide_true,if_true];have t:D r p (m+1):=o (Sx c);split
   ·have e:=v_eq (r:=r) (p:=p) (i:=m - (q+1)) (j:=m) (by lia) b;exact good_mono (λz k=>(by obtain⟨j,w,u,i,h,g⟩:=k;exact⟨j,by lia,by lia,i,h,g⟩)) _ (pK f (kas_rev p (m - (q+1)) m) (m+1) 0 (O.rev _ _) (by lia) (by lia) (t.Zv e) λa s e=>by
     have:a=m:=by lia
     subst this;rfl)
   ·exact good_mono (λz k=>(by obtain⟨j,w,u,i,h,g⟩:=k;exact⟨j,by lia,by lia,i,h,g⟩)) _ (pK f p (m+1) 0 O (by lia) (by lia) t λa s e=>by
     have:a=m:=by lia
     subst this;rfl)
  ·simp only[c,decide_false,Pf,if_false];refine⟨O.lt (by lia),O.lt (by lia),?_⟩;by_cases c:r (p.getD (m - 1) 0)<r (p.getD m 0)
   ·simp only[c,decide_true,if_true];exact⟨O,MS _,Vz _ _,d,l,b⟩
   ·simp only[c,decide_false,Pf,if_false];have c:v r p m=v r p (m - 1):=by unfold v;lia
    exact good_mono (λz k=>(by obtain⟨j,w,u,i,h,g⟩:=k;exact⟨j,by lia,by lia,i,h,g⟩)) _ (pK f p (m+1) (q+1) O (by lia) (by lia) (o (Nat.le_of_eq c)) λa s e=>by
     rcases UX a m with z|z
     ·rw[b a (by lia) z];exact c.symm
     ·have:a=m:=by lia
      subst this;rfl)
def Ai{p:yap}{m:Nat}(O:Ok n p)(a:1<=m)(hm:m<=n)(c:D r p m):good r n (λz=>Ok n z.2/\1<=z.1/\z.1<=n/\S r z.2 z.1) (kas_tail3 m n p):=by
 have os:=O.size;unfold kas_tail3;have b:S r (kas_rev p 0 m) m:=λi j Oe hj=>by rw[BH (by lia),BH (by lia),Ml (by lia),Ml (by lia)];exact c _ _ (by lia) (by lia)
 refine gI (λm' e=>?_) _ (wg (O.rev 0 m) (n - m) m a (by lia) b);obtain⟨d,c,b,_⟩:=e;exact⟨O.rev _ _,Pa a d,Pa c (by lia),b⟩
def zR{p:yap}{m:Nat}(O:Ok n p)(hm:m+1<=n)(a:D r p (m+1)):good r n (λz=>Ok n z.2/\1<=z.1/\z.1<=n/\S r z.2 z.1) (kas_descPart m n p):=by
 unfold kas_descPart;refine gI (λz ⟨b,a2,a3,c,a5,d⟩=>?_) _ (pK (n - (m+1)) p (m+1) 0 O (by omega) (by omega) a λa h2 h3=>by
  have:a=m:=by omega
  subst this;rfl)
 have os:=b.size;split
 ·exact Ai (b.rev _ _) (by omega) (by omega) (c.Zv (v_eq (by omega) d))
 ·exact Ai b (by omega) (by omega) c
def Eo(O:Ok n p)(hn:1<=n):good r n (λz=>Ok n z.2/\1<=z.1/\z.1<=n/\S r z.2 z.1) (kas_count n p):=by
 have os:=O.size;unfold kas_count;refine gI (λm ⟨a,a2,d,e⟩=>?_) _ (wg (r:=r) O (n - 1) 1 (MS _) (by lia) λi j h g=>by
  have:i=j:=by lia
  subst this;exact MS _)
 split
 ·rename_i c;have b:m=n:=by simpa using c
  exact⟨O,a,by lia,d⟩
 ·rename_i c;have b:m≠n:=by simpa using c
  have f:=e (by lia);split
  ·refine⟨O.lt (by lia),O.lt (by lia),?_⟩;by_cases c:r (p.getD 0 0)<r (p.getD (m - 1) 0)
   ·simp only[c,decide_true,if_true];exact⟨O,a,by lia,d⟩
   ·simp only[c,decide_false,Pf,if_false];have b:∀a,0<=a->a<m->v r p a=v r p (m - 1):=λa _ e=>by
     have h1:=d 0 a (by lia) e;have h2:=d a (m - 1) (by lia) (by lia);have h3:v r p (m - 1)<=v r p 0:=US c
     lia
    have e:=v_eq (r:=r) (p:=p) (i:=0) (j:=m) (by lia) b;refine zR (O.rev _ _) (by lia) λi j h g=>?_
    rw[e,e];rcases UX j m with z|z
    ·rw[b i (by lia) (by lia),b j (by lia) z];exact MS _
    ·have:j=m:=by lia
     subst this;rcases UX i j with y|y
     ·rw[b i (by lia) y];exact Sx f
     ·have:i=j:=by lia
      subst this;exact MS _
  ·have a:m=1:=by lia
   subst a;refine zR O (by lia) λi j h g=>?_
   rcases UX i j with y|y
   ·have b:i=0:=by lia
    have a:j=1:=by lia
    subst b a;exact Sx f
   ·have:i=j:=by lia
    subst this;exact MS _
theorem qP{k:Nat}(O:Ok n p)(g:k<n)(hs:S r p k):∀(f l h:Nat),l<=h->h<=k->h - l<=f->(∀a,a<l->v r p a<=v r p k)->(∀a,h<=a->a<k->v r p k<=v r p a) →
  good r n (λb=>b<=k/\(∀a,a<b->v r p a<=v r p k)/\∀a,b<=a->a<k->v r p k<=v r p a) (kas_place p k f l h)
 |0,l,h,i,c,e,d,b=>by
  have:l=h:=by lia
  subst this;exact⟨c,d,b⟩
 |f+1,l,h,i,c,e,d,b=>by
  unfold kas_place;split
  ·have:l=h:=by lia
   subst this;exact⟨c,d,b⟩
  ·refine⟨O.lt (by lia),O.lt (by lia),?_⟩;by_cases c:r (p.getD k 0)<r (p.getD ((l+h) / 2) 0)
   ·simp only[c,decide_true,if_true];refine qP O g hs f l ((l+h) / 2) (by lia) (by lia) (by lia) d λa e d=>?_
    have:=hs ((l+h) / 2) a e d;have d:v r p k<v r p ((l+h) / 2):=c
    lia
   ·simp only[c,decide_false,Pf,if_false];refine qP O g hs f ((l+h) / 2+1) h (by lia) (by lia) (by lia) (λa ha=>?_) b;have:=hs a ((l+h) / 2) (by lia) (by lia);have d:v r p ((l+h) / 2)<=v r p k:=US c
    lia
theorem BW:∀(f:Nat) (p:yap) (k:Nat),Ok n p->k+f=n->S r p k->good r n (λz=>Ok n z/\S r z n) (kas_bin f p k)
 |0,p,k,O,a,b=>by
  have:k=n:=by lia
  subst this;exact⟨O,b⟩
 |f+1,p,k,O,a,b=>by
  have os:=O.size;unfold kas_bin;refine gI (λl ⟨c,g,e⟩=>BW f _ (k+1) (O.bubble k (k - l)) (by lia) λi j Oe hj=>?_) _ (qP O (by lia) b k 0 k (by lia) (by lia) (by lia) (λa d=>absurd d (Ym _)) λa h1 h2=>by lia);rw[yh (by lia) c,yh (by lia) c]
  repeat' split
  all_goals first
   |exact MS _
   |(exfalso;lia)
   |exact e _ (by lia) (by lia)
   |exact g _ (by lia)
   |exact b _ _ (by lia) (by lia)
def Ij(a:1<=n):good r n (λz=>Ok n z/\S r z n) (kas_sort n):=by
 unfold kas_sort;refine gI (λz c=>?_) _ (Eo (r:=r) ⟨Array.Perm.refl _⟩ a);obtain⟨b,a2,a3,a⟩:=c;split
 ·rw[show max z.1 1=z.1 by lia];exact BW _ _ _ b (by lia) a
 ·have:z.1=n:=by lia
  rw[this]at a;exact⟨b,a⟩
end
end SS
namespace SW
open PySem PySem.SetTable ST PySem.W PyProof.Rows
noncomputable def lexLt:yaf->yaf->Bool
 |_,[]=>false
 |[],_::_=>true
 |a::x,b::y=>if a=b then lexLt x y else decide (a<b)
theorem kB:∀x,lexLt x x=false
 |[]=>rfl
 |a::x=>by unfold lexLt;rw[Ml rfl];exact kB x
theorem qn:∀x y z,lexLt x y=true->lexLt y z=true->lexLt x z=true
 |_,[],_,h,_=>by unfold lexLt at h;cases h
 |_,_::_,[],_,h=>by unfold lexLt at h;cases h
 |[],_::_,_::_,_,_=>rfl
 |a::x,b::y,c::z,e,d=>by
  unfold lexLt at e d ⊢;split at e<;>split at d
  ·rename_i g f;rw[Ml (g.trans f)];exact qn x y z e d
  ·rename_i g f;subst g;rw[Mj f];exact d
  ·rename_i g f;subst f;rw[Mj g];exact e
  ·have q1:a<b:=by simpa using e
   have q2:b<c:=by simpa using d
   rw[Mj (by omega)];simp;omega
theorem lC:∀x y,lexLt x y=false->x=y∨lexLt y x=true
 |[],[],_=>.inl rfl
 |[],_::_,h=>by unfold lexLt at h;cases h
 |_::_,[],_=>.inr rfl
 |a::x,b::y,h=>by
  unfold lexLt at h ⊢;split at h
  ·rename_i e;subst e;rw[Ml rfl];rcases lC x y h with z|z
   ·exact .inl (by rw[z])
   ·exact .inr z
  ·rename_i e;have q:¬a<b:=by simpa using h
   right
   rw[Mj (λz=>e z.symm)];simp
   lia
theorem wG{a:Type}(p q:a->Bool):∀l:List a,(∀z∈l,p z=true->q z=true)->(∃z∈l,p z=false/\q z=true)->l.countP p<l.countP q
 |[],_,⟨_,h,_⟩=>by cases h
 |x::l,h,⟨z,a,c,b⟩=>by
  rw[List.countP_cons,List.countP_cons];have le:l.countP p<=l.countP q:=List.countP_mono_left λz a=>h z (Ni _ a)
  rcases MD.mp a with y|y
  ·subst y;rw[c,b];simp;omega
  ·have ih:=wG p q l (λz a=>h z (Ni _ a)) ⟨z,y,c,b⟩;by_cases b:p x=true
   ·have:=h x OB b;simp[b,this];omega
   ·have a:p x=false:=by simpa using b
    rw[a];cases q x with
    |true=>simp;omega
    |false=>simpa using ih
def rank(K:List (yaf))(x:yaf):Nat:=K.countP λy=>lexLt y x
def zV{K:List (yaf)}{x y:yaf}(g:x∈K)(f:y∈K):decide (rank K x<rank K y)=lexLt x y:=by
 have c:∀a b,a∈K->lexLt a b=true->rank K a<rank K b:=λa b e h=>wG _ _ K (λz _ d=>qn z a b d h) ⟨a,e,kB a,h⟩
 cases e:lexLt x y with
 |true=>simpa using c x y g e
 |false =>
  rcases lC x y e with z|z
  ·subst z;simp
  ·have:=c y x f z;simp
   lia
section
variable{prog:Program}{w:World}{A:Around}{E:yaa}{s:Shared}
def J1{c:Bool}{Q:Bool->Shared->Prop}:∀{k a:yaf} {e vs:yad} (i:Nat),PySem.ItemsAre (intKind prog w) k e->PySem.ItemsAre (intKind prog w) a vs->c=decide (k.length<a.length)->Q (lexLt k a) s->KatLex prog w A b c Q (e.zip vs) i s:=by
 intro k a e vs i h
 induction h generalizing a vs i with
 |nil =>
  intro c d q;refine kat_nil ?_;cases c with
  |nil=>rw[d];exact q
  |cons _ _=>rw[d];exact q
 |@cons a u x e g t1 ih =>
  intro c d q;cases c with
  |nil=>refine kat_nil ?_;rw[d];exact q
  |@cons c u' y vs e f =>
   obtain⟨t,rfl⟩:=Value.isInt_shape g;obtain⟨t',rfl⟩:=Value.isInt_shape e;refine kat_cons (wpAny_eqBool_int ?_);by_cases e:a=c
   ·subst e;rw[show(a==a)=true by simp];refine kat_yes (ih (i+1) f ?_ ?_)
    ·rw[d];simp
    ·unfold lexLt at q;rw[Ml rfl]at q;exact q
   ·rw[show(a==c)=false by simp[e]];unfold lexLt at q;rw[Mj e]at q;refine kat_no ?_;cases(b && i==0)with
    |true=>exact oneLt_int q
    |false=>exact kat_one _ _ (PySem.P.lt_int q)
def B6{Q:Bool->Shared->Prop}(d:(TK prog w).is s.heap k x)(a:(TK prog w).is s.heap k' y)(q:Q (lexLt k k') s):wpAny (model prog w) A (keyLt' (tuples' b) (.ref x) (.ref y)) Q E s:=by
 obtain⟨o,items,n,e,hc,f,c⟩:=d;obtain⟨o',items',n',g,Ry,i,d⟩:=a;have a:∀{k:yaf} {b:yad},PySem.ItemsAre (intKind prog w) k b->k.length=b.length:=λh=>by
  induction h with
  |nil=>rfl
  |cons _ _ ih=>simp[ih]
 refine kat_lt e f g i (J1 0 c d ?_ q);rw[a c,a d,Po,Po]
theorem Ak:∀{cs:yae} (K:Nat->yaf) (a:Nat),(∀(j:Nat) (c:Addr),cs[j]?=some c->(TK prog w).is s.heap (K (a+j)) c/\K (a+j) ≠ [])->∃e,KatTups s.heap (cs.map Value.ref) e/\e.length=cs.length/\∀v∈e,∃n t,v=Value.int n t
 |[],_,_,_=>⟨[],KatTups.nil,rfl,λ_ h=>by cases h⟩
 |c::cs,K,a,h=>by
  obtain⟨e,t,l,i⟩:=Ak (cs:=cs) K (a+1) λj c b=>by have:=h (j+1) c b;rw[show a+(j+1)=a+1+j by lia]at this;exact this
  obtain⟨⟨o,d,n,g,k,j,b⟩,f⟩:=h 0 c rfl;rw[Nat.add_zero]at b f;generalize K a=k0 at b f;generalize hL:d.toList=L at b;cases b with
  |nil=>exact absurd rfl f
  |@cons a u x us c t1 =>
   obtain⟨b,rfl⟩:=Value.isInt_shape c;refine⟨.int a b::e,KatTups.cons g k j ?_ t,by simp[l],λv c=>?_⟩
   ·rw[<- Rt,hL];rfl
   ·rcases MD.mp c with z|z
    ·exact⟨a,b,z⟩
    ·exact i v z
def yH{cs:yae}{K:Nat->yaf}{Q:SortKind->Shared->Prop}(M6:0<cs.length)(h:∀(j:Nat) (c:Addr),cs[j]?=some c->(TK prog w).is s.heap (K j) c/\K j ≠ [])(q:Q (tuples' true) s):wpAny (model prog w) A (keyKind' (cs.map Value.ref).toArray) Q E s:=by
 obtain⟨fs,t,l,b⟩:=Ak (s:=s) (cs:=cs) K 0 λj c a=>by rw[QM];exact h j c a
 refine kat_kind (T:=.type "int") t (by lia) (λv a=>?_) (by decide) q;obtain⟨n,tk,rfl⟩:=b v a;exact Looks.of_pure rfl
def Gz{cs:yae}{K:Nat->yaf}{G:yap->Shared->Prop}(g:1<=cs.length)(h:∀(j:Nat) (c:Addr),cs[j]?=some c->(TK prog w).is s.heap (K j) c)
  (e:∀p:yap,SS.Ok cs.length p->(∀i j,i<=j->j<cs.length->lexLt (K (p.getD j 0)) (K (p.getD i 0))=false)->G p s):(kas_sort cs.length).kasWp (kas_ask prog w A (tuples' true) (cs.map Value.ref)) G s:=by
 have a:∀i,i<cs.length->K i∈(List.range cs.length).map K:=λi c=>M4.mpr ⟨i,Yp.mpr c,rfl⟩
 refine SS.zG (r:=λi=>rank ((List.range cs.length).map K) (K i)) (n:=cs.length) (λi j C c b d=>?_) (λp ⟨O,S⟩=>e p O λi j f b=>?_) _ (SS.Ij g)
 ·unfold kas_ask;have g:(cs.map Value.ref).getD i Value.none=.ref cs[i]:=by simp[c]
  have e:(cs.map Value.ref).getD j Value.none=.ref cs[j]:=by simp[b]
  rw[g,e];refine B6 (h i _ (M5 c)) (h j _ (M5 b)) ?_;rw[zV (a i c) (a j b)]at d;exact d
 ·have:=S i j f b;unfold SS.v at this;have e:=zV (a _ (O.lt b)) (a _ (O.lt (V8 f b)));rw[<- e];exact SV (Sy.mpr this)
theorem Aq{a:Type}:∀l:List a,(l.zip l).map (·.2)=l
 |[]=>rfl
 |x::l=>by simp[Aq l]
def range_getD{a:Type}(l:List a)(d:a):(List.range l.length).map (λi=>l.getD i d)=l:=by
 apply List.ext_getElem
 ·simp
 ·intro i h1 a;simp;rw[M5 a];rfl
def xF {cs:yae} {K:Nat->yaf} {P:PySem.Fin->Shared->Prop} (k:s.heap.get? a=some (seqObj "list" (cs.map Value.ref).toArray n)) (t:cs.length<64)
  (h:∀(j:Nat) (c:Addr),cs[j]?=some c->(TK prog w).is s.heap (K j) c/\K j ≠ [])
  (r:∀h' (p:yap) m,SS.Ok cs.length p->(∀i j,i<=j->j<cs.length->lexLt (K (p.getD j 0)) (K (p.getD i 0))=false)->(∀b o,b≠a->s.heap.get? b=some o->h'.get? b=some o) →
   h'.get? a=some (seqObj "list" (List.toArray (p.toList.map λi=>(cs.map Value.ref).getD i Value.none)) m)->P (.done (.ret .none)) {s with heap:=h'}):wpAny (model prog w) A (Builtin.«list.sort» ⟨[.ref a],[]⟩) P E s:=by
 have ha:a<s.heap.objs.size:=MV k;have f:(cs.map Value.ref).length=cs.length:=Mq ..;obtain⟨d,e⟩:∃d,(s.heap.update a (Obj.mapSeq λ_=>(#[]:yao))).get? a=some (seqObj "list" #[] d):=⟨_,get?_update_seq k λ_=>#[]⟩;rw[list_sort_plain];refine Mh (listItems_at k rfl ?_);refine Mh (listUpdate_at k rfl ?_ (by rw[Og,sizeLine_eq];lia) (N9 _));refine Mh (seqEpoch_at e rfl ?_);refine Mh (wpAny_newTuple ?_ (by show(cs.map Value.ref).length<=_;rw[sizeLine_eq];lia));refine Mh (wpAny_newList ?_ (N9 _));refine Qv ?_;show wpAny (model prog w) A _ P E {s with heap:=((s.heap.update a (Obj.mapSeq λ_=>(#[]:yao))).push (seqObj "tuple" (cs.map Value.ref).toArray 0)).push (seqObj "list" #[] 0)};have g:(((s.heap.update a (Obj.mapSeq λ_=>(#[]:yao))).push (seqObj "tuple" (cs.map Value.ref).toArray 0)).push (seqObj "list" #[] 0)).get? a=some (seqObj "list" #[] d):=Nd _ (Nd _ e);have q:∀b o,b≠a->s.heap.get? b=some o->(((s.heap.update a (Obj.mapSeq λ_=>(#[]:yao))).push (seqObj "tuple" (cs.map Value.ref).toArray 0)).push (seqObj "list" #[] 0)).get? b=some o:=λb o n e =>
  Nd _ (Nd _ ((Ti _ _ (Ne.symm n)).trans e))
 generalize ((s.heap.update a (Obj.mapSeq λ_=>(#[]:yao))).push (seqObj "tuple" (cs.map Value.ref).toArray 0)).push (seqObj "list" #[] 0)=H at g q ⊢;have l:∀(p:yap) (d:yao),SS.Ok cs.length p->(∀i j,i<=j->j<cs.length->lexLt (K (p.getD j 0)) (K (p.getD i 0))=false)->d=List.toArray (p.toList.map λi=>(cs.map Value.ref).getD i Value.none)->P (.done (.ret .none)) {s with heap:=H.update a (Obj.mapSeq λ_=>d)}:=λp d O S e=>by subst e;obtain⟨m,d⟩:∃m,(H.update a (Obj.mapSeq λ_=>List.toArray (p.toList.map λi=>(cs.map Value.ref).getD i Value.none))).get? a=some (seqObj "list" (List.toArray (p.toList.map λi=>(cs.map Value.ref).getD i Value.none)) m):=⟨_,get?_update_seq g λ_=>List.toArray (p.toList.map λi=>(cs.map Value.ref).getD i Value.none)⟩;exact r _ p m O S (λb o n e=>(Ti _ _ (Ne.symm n)).trans (q b o n e)) d
 dsimp only;by_cases a:(cs.map Value.ref).toArray.size<2
 ·rw[Ml a,Ml a];refine Mh (Mt ?_);rw[StateT.run_pure];refine Mh (Mt ?_);dsimp only;refine Mh (seqEpoch_at g rfl ?_);refine Mh (listUpdate_at g rfl ?_ (hsz2:=by rw[Array.size_map];show(pairsOf (cs.map Value.ref)).size<=_;rw[pairsOf_size,sizeLine_eq];lia));simp only[Yf,Pf,if_false];refine Mt (l (List.toArray (List.range cs.length)) _ ⟨Array.Perm.refl _⟩ (λi j Oe b=>?_) ?_)
  ·have:i=j:=by rw[Og,f]at a;lia
   subst this;exact kB _
  ·show((cs.map Value.ref).toArray.zip (cs.map Value.ref).toArray).map (·.2)=_;have e:=range_getD (cs.map Value.ref) Value.none;rw[f]at e;show _=List.toArray ((List.range cs.length).map λi=>(cs.map Value.ref).getD i Value.none);rw[e];simp[Aq]
 ·rw[Mj a,Mj a];rw[Og,f]at a;have m:∀(j:Nat) (c:Addr),cs[j]?=some c->(TK prog w).is H (K j) c/\K j ≠ []:=λj c b=>by
   obtain⟨a,d⟩:=h j c b;exact⟨lZ a λo e=>q c o (key_ne a k rfl (by decide)) e,d⟩
  refine Mh (yH (s:={s with heap:=H}) (by lia) m ?_);refine Mh (P6 (kat_run (s:={s with heap:=H}) (ks:=cs.map Value.ref) (vs:=cs.map Value.ref) (Q:=λd a=>a={s with heap:=H}/\∃p:yap,arrOf d=p.map (kas_item ((cs.map Value.ref).toArray.zip (cs.map Value.ref).toArray))/\failedOf d=none/\SS.Ok cs.length p/\∀i j,i<=j->j<cs.length->lexLt (K (p.getD j 0)) (K (p.getD i 0))=false)
   (G:=λp a=>a={s with heap:=H}/\SS.Ok cs.length p/\∀i j,i<=j->j<cs.length->lexLt (K (p.getD j 0)) (K (p.getD i 0))=false)
   rfl (by rw[f];lia) (by rw[f];exact t) (λp d a a1 o n q=>(by obtain⟨k,i,h⟩:=q;exact⟨k,p,o,n,i,h⟩)) ?_) ?_ λ_ _ e=>e)
  ·rw[f];exact Gz (s:={s with heap:=H}) (by lia) (λj c b=>(m j c b).1) λp O S=>⟨rfl,O,S⟩
  ·rintro⟨⟨⟩,d⟩ a ⟨rfl,p,b,c,O,S⟩;dsimp only;have a:=kat_snds (ks:=cs.map Value.ref) (vs:=cs.map Value.ref) rfl b;rw[a];refine Mh (seqEpoch_at g rfl ?_);refine Mh (listUpdate_at g rfl ?_ (N9 _) (by rw[Og,Mq,Po,O.size,sizeLine_eq];lia));rw[c];simp only[Yf,Pf,if_false];exact Mt (l p _ O S rfl)
def Fi{a b:Type}{f:a->b}{l m:List b}(h:l.Perm m):∀xs:List a,m=xs.map f->∃c:List a,c.Perm xs/\l=c.map f:=by
 induction h with
 |nil=>intro xs e;exact⟨xs,List.Perm.refl _,e⟩
 |cons a _ ih =>
  intro xs e;cases xs with
  |nil=>cases e
  |cons x xs =>
   rw[MN]at e;injection e with f d;obtain⟨c,p,q⟩:=ih xs d;exact⟨x::c,p.cons x,by rw[MN,q,f]⟩
 |swap a b l =>
  intro xs e
  match xs,e with
  |[],e=>cases e
  |[_],e=>simp at e
  |x::y::xs,e =>
   simp only[MN,SQ]at e;obtain⟨f,d,a⟩:=e;exact⟨y::x::xs,List.Perm.swap x y xs,by simp only[MN];rw[f,d,a]⟩
 |trans _ _ b a =>
  intro xs e;obtain⟨c,p,q⟩:=a xs e;obtain⟨a,e,d⟩:=b c q;exact⟨a,e.trans p,d⟩
def By{a:Addr}{xs:List (yaf×Addr)}{Q:yaa}(i:A.handled=none)(X:jB prog w s.heap a xs)(Zw:xs.length<64)(G:∀x∈xs,x.1 ≠ [])
  (r:∀s' (D:Addr) (ys:List (yaf×Addr)) c,(∀b o,s.heap.get? b=some o->s'.heap.get? b=some o)->s'.gens=s.gens->s'.drawn=s.drawn->s'.os=s.os->s.heap.objs.size<=D->ys.Perm xs->ys.Pairwise (λx y=>lexLt x.1 y.1=true) →
   s'.heap.get? D=some (seqObj "list" (ys.map λy=>Value.ref y.2).toArray c)->Q (.ref D) s'):wpAny (model prog w) A (call (.builtin "sorted") [.ref a]) Q E s:=by
 obtain⟨⟨o,h,l,t,f,d,j,g,T,k,_,_⟩,u,q⟩:=X;have e:h.size=xs.length:=by rw[<- Po,g,Mq]
 refine Calls.call_function_entry kind_sorted plain_sorted entry_sorted (args_sorted1 _) ?_;unfold Builtin.«sorted»;refine Mh (m:=checkCount "sorted" 1 1 _) (Mt ?_);refine Mh (yB (show A.in1.handled=none from i) f d.1 j T (by rw[Mq,e]) k (by lia) λf e j y x g3 m n=>?_);obtain⟨d,k,i⟩:=Fi (qv w a h l) xs g;have a:e=(d.map (·.2)).map Value.ref:=by rw[n,i,NY,NY];rfl
 have l:d.length=xs.length:=k.length_eq;have h:(d.map (·.2)).length=xs.length:=by rw[Mq,l]
 subst a;refine Mh (wpAny_newList ?_ (by rw[Mq,h,sizeLine_eq];lia));have a:(f.heap.push (seqObj "list" ((d.map (·.2)).map Value.ref).toArray 0)).get? f.heap.objs.size=some (seqObj "list" ((d.map (·.2)).map Value.ref).toArray 0):=OI _ rfl;have n:∀b o,s.heap.get? b=some o->(f.heap.push (seqObj "list" ((d.map (·.2)).map Value.ref).toArray 0)).get? b=some o:=λb o e=>Nd _ (j b o e)
 show wpAny _ _ _ _ _ {f with heap:=f.heap.push (seqObj "list" ((d.map (·.2)).map Value.ref).toArray 0)};refine Mh (Qv (SU slot_list_sort ⟨_,a,rfl⟩ entry_list_sort ?body (args_list_sort _)))
 case body =>
  refine xF (s:={f with heap:=f.heap.push (seqObj "list" ((d.map (·.2)).map Value.ref).toArray 0)}) (K:=λj=>(d.getD j ([],0)).1) a (by lia) (λj c a=>?_) λh' p B O S C t=>?_
  ·rw[Nj]at a;obtain⟨z,i,e⟩:=SN.mp a;have g:d.getD j ([],0)=z:=by rw[Nz,i];rfl
   have c:z∈xs:=k.mem_iff.mp (NF i);subst e;dsimp only;rw[g];exact⟨lZ (u z c) λo e=>n _ o e,G z c⟩
  ·have g:(p.toList.map λi=>d.getD i ([],0)).Perm xs:=by
    have u:=(zDZ.mp O.perm).map λi=>d.getD i ([],0)
    have c:=range_getD d ([],0);rw[l,<- h]at c;refine(u.trans ?_).trans k;show((List.range (d.map (·.2)).length).map λi=>d.getD i ([],0)).Perm d;rw[c]
   refine⟨_,rfl,Mt ⟨_,rfl,r _ f.heap.objs.size (p.toList.map λi=>d.getD i ([],0)) B (λb o e=>?_) y x g3 m g ?_ ?_⟩⟩
   ·exact C b o (NG (Of (MV e) m)) (n b o e)
   ·refine TG.mpr λi j b a h=>?_
    have c:((p.toList.map λi=>d.getD i ([],0)).map (·.1)).Nodup:=(g.map (·.1)).nodup_iff.mpr q;have f:=TG.mp c i j (by rw[Mq];exact b) (by rw[Mq];exact a) h;rw[Mq,Po]at b a;have c:=S i j (by lia) (by rw[<- O.size];exact a);have h:p.getD i 0=p[i]:=by simp[Array.getD,b]
    have g:p.getD j 0=p[j]:=by simp[Array.getD,a]
    rw[h,g]at c;simp only[RL,Array.getElem_toList]at f ⊢;rcases lC _ _ c with e|e
    ·exact absurd e.symm f
    ·exact e
   ·refine t.trans ?_;congr 3;rw[NY (l:=p.toList)];refine Us λi b=>?_
    have a:i<d.length:=by have:=(zDZ.mp O.perm).mem_iff.mp b;simpa using this
    simp[a]
end
end SW
namespace PD
open PySem PySem.Spec PyProof.Rows L2
section
variable{X:Cx}{pos:Pos}
def boot_sorted:bootBuiltins "sorted" = some (.builtin "sorted"):=by kernel_rfl
def boot_set:bootBuiltins "set" = some (.type "set"):=by kernel_rfl
theorem rZ:∀{ns:yaf} {a:yad},Vals (ns.map V.int) a->PySem.ItemsAre (intKind prog w) ns a
 |[],a,r=>by rw[Sv]at r;cases r;exact .nil
 |n::ns,a,r=>by
  rw[MN]at r;cases r with
  |cons h t =>
   obtain⟨tk,rfl⟩:=h;exact .cons (by simp[intKind,Value.isInt]) (rZ t)
def zJ{k:yaf}(I:Inv X pins σ H s)(h:MW X.K H a (k.map V.int)):(SW.TK X.prog X.w).is s.heap k a:=by obtain⟨c,r,⟨o,e,b,n,a⟩,_⟩:=I.tuple h.w;exact⟨o,c.toArray,n,e,b,a,by simpa using rZ r⟩
def JO(a:cF k A):A.in1.in1.in1.units<cLine:=V8 (Nat.add_le_add_left (by decide:3<=64) _) a.units
def tupI(k:yaf):D:=.tup (k.map D.int)
def Lx{K:yac}{P:yak}{H:Hp}{k:yaf}{v:V}(h:Den K P H (tupI k) v):∃a,v=.ref a/\MW K H a (k.map V.int):=by obtain⟨a,vs,e,q,b⟩:=h.Oi;rw[du b]at q;exact⟨a,e,q⟩
def BP(ys ks:List (yaf)):Prop:=ys.Pairwise (λx y=>SW.lexLt x y=true)/\∀k,k∈ys↔k∈ks
def Eu(te:DE):DA:=λa Q=>te a λd=>∃t a,d=.lst t (a.map tupI)/\a.length<64/\(∀k∈a,k ≠ [])/\∀b,BP b a->Q (b.map tupI)
def A0 {e:Expr} {te:DE} {p M w:Pos} (hc:X.calm=true) (hu:X.A.in1.in1.in1.units<cLine) (hg:Gl X "sorted") (hm:X.mg "sorted" = none) (hg2:Gl X "set") (hm2:X.mg "set" = none) (he:MI X e te)
  (Pn:starEach [.Call (.Name "set" M) [e] [] w] X.env=(false,eval (.Call (.Name "set" M) [e] [] w) X.env)::starEach [] X.env:=by rfl) (N6:(backTo pos (starEach [] X.env)).any (·.1)=false:=by rfl)
  (U8:starEach [e] X.env=(false,eval e X.env)::starEach [] X.env:=by rfl) (C:(backTo w (starEach [] X.env)).any (·.1)=false:=by rfl) :
  QS X (.Call (.Name "sorted" p) [.Call (.Name "set" M) [e] [] w] [] pos) (Eu te):=by
 intro g s U H W ρ Q I r h;refine Vx (dD I hg hm boot_sorted ?_ (by decide) (by decide));refine PyProof.Rows.callWith_builtin1 ?_ Pn N6;rw[Pn];show wpAny _ _ (spliced ((false,eval (.Call (.Name "set" M) [e] [] w) X.env)::backTo pos (starEach [] X.env))) _ _ s;refine Calls.spliced_cons ?_;refine Vx (dD I hg2 hm2 boot_set ?_ (by decide) (by decide));refine PyProof.Rows.callWith_type1 ?_ U8 C;rw[U8];show wpAny _ _ (spliced ((false,eval e X.env)::backTo w (starEach [] X.env))) _ _ s;refine Calls.spliced_cons (Mw (he g s U H W ρ _ I r h) λu J Mx=>?_);obtain⟨v,m,d,x,L,e1,hd,t,f,ed,lk,M6,q⟩:=Mx;subst ed;obtain⟨l,vs,ev,_,hq,hw⟩:=hd.OF;subst ev;cases L;refine Mt ?_;obtain⟨T,L,pl,_⟩:=x.list hq;have hh:=x.ok.hd hc;have lvs:vs.length=f.length:=by rw[hw.len,Mq]
 have l:T.length=f.length:=by rw[<- L.length,lvs]
 have G:∀(j:Nat) (k:yaf),f[j]?=some k->∃c:Addr,T[j]?=some (Value.ref c)/\MW X.K m c (k.map V.int):=λj k hk=>by obtain⟨v,ev,hv⟩:=hw.get (i:=j) (d:=tupI k) (by rw[Nj,hk];rfl);obtain⟨c,rfl,hc⟩:=Lx hv;obtain⟨u,eu,ru⟩:=L.get ev;cases ru;exact⟨c,eu,hc⟩
 refine SW.call_set_list hh hu pl.isList (by rw[Og];lia) (λj=>f.getD j []) (λj v hj=>?_) λh2 t Y kp S yl yk yi=>?_
 ·have QG:T[j]?=some v:=by simpa using hj
  have a:j<f.length:=by rw[<- l];exact(Nk.mp QG).1
  obtain⟨c,E,O⟩:=G j f[j] (M5 a);rw[QG]at E;cases E;rw[show f.getD j []=f[j]by simp[a]];exact⟨c,rfl,zJ x O⟩
 ·have I2:L2.Inv X g U m {J with heap:=h2,toks:=t}:=x.kept kp;refine Mt ?_;rw[Og]at yl yk yi;have Zx:∀k,k∈Y.map (·.1)↔k∈f:=λk=>by
   rw[yk k];constructor
   ·rintro⟨j,a,e⟩;rw[l]at a;rw[e,show f.getD j []=f[j]by simp[a]];exact Rf a
   ·intro hk;obtain⟨j,a,e⟩:=TL hk;exact⟨j,by rw[l];exact a,by rw[<- e];simp[a]⟩
  have den:∀y∈Y,MW X.K m y.2 (y.1.map V.int):=λy N=>by
   obtain⟨j,a,n⟩:=yi y N;have b:T[j]?=some (.ref y.2):=by simpa using n
   rw[l]at a;obtain⟨c,E,O⟩:=G j f[j] (M5 a);rw[b]at E;cases E;have i:=zJ I2 O;rw[(SW.TK X.prog X.w).inj (S.is_ y N) i];exact O
  refine SW.By (s:={J with heap:=h2,toks:=t}) hh S (by lia) (λy N=>M6 _ ((Zx _).mp (M4.mpr ⟨y,N,rfl⟩))) λA D i c Uh g1 g2 g3 le B sz hD=>?_
  have lz:i.length=Y.length:=B.length_eq;have es:A={J with heap:=A.heap,toks:=A.toks}:=by cases A;dsimp only at g1 g2 g3 ⊢;subst g1 g2 g3;rfl
  have o:J.heap.objs.size<=D:=by obtain⟨_,_,_,_,ho,_⟩:=S.ex;exact Sx (Of (MV ho) le)
  have nD:m D=none:=x.MF.fresh o;have I3:L2.Inv X g U (L2.upd m D (.lst (i.map λz=>V.ref z.2))) A:=by
   rw[es];refine x.laid (λb u e=>Uh b u (kp b u e)) o ⟨by rw[Mq,sizeLine_eq];lia,i.map λz=>Value.ref z.2,c,?_,hD⟩;clear B sz hD lz
   induction i with
   |nil=>exact .nil
   |cons z i ih=>exact .cons rfl ih
  have dz:af X.K W.bad m ((i.map (·.1)).map tupI) (i.map λz=>V.ref z.2):=by
   have b:∀z∈i,MW X.K m z.2 (z.1.map V.int):=λz o=>den z (B.mem_iff.mp o)
   clear B sz hD lz I3
   induction i with
   |nil=>exact rfl
   |cons z i ih =>
    refine af.cons (Den.tup (b z OB) ?_) (ih λz o=>b z (Ni _ o));show af X.K W.bad m (z.1.map PD.D.int) (z.1.map V.int);generalize z.1=k
    induction k with
    |nil=>exact rfl
    |cons n k XU=>exact af.cons (Den.int n) XU
  have b:=Inv.Zg I3 aI;refine⟨D,_,_,_,rfl,I3,e1.trans (av.upd nD),e1.free nD,b,aI,af.apart nD b dz,q _ ⟨?_,λk=>?_⟩⟩
  ·exact List.pairwise_map.mpr sz
  ·rw[(B.map (·.1)).mem_iff];exact Zx k
end
end PD
namespace HT
open PySem PyProof.Rows
section
open PySem.SeqAt
open PySem.AutoSeq1 (wpAny_loadPart')
open PySem.MeetsSeq PySem.MeetsSeq2 PySem.MeetsSeq3
end
end HT
namespace PD
open PySem PySem.Spec PyProof.Rows L2
section
variable{X:Cx}{pos:Pos}
def GH (E:X.calm=true):eB X (.builtin "min") (λds Q=>∃(t:Bool) (ns:yaf),ds=[.lst t (ns.map D.int)]/\0<ns.length/\∀m,m∈ns->(∀n∈ns,m<=n)->Q (.int m)):=by
 intro pins s σ H W ds vs us Q I tr r C q;obtain⟨t,ns,e,h,q⟩:=q;subst e;obtain⟨v,rfl,G⟩:=pI C;obtain⟨a,ws,L,_,A,z⟩:=G.OF;subst L;cases r with
 |cons p o =>
  cases o;cases p;obtain⟨Mp,i,u,_⟩:=I.list A;rw[du z]at i;have k:=intsAre_of i;obtain⟨b,m⟩:=k.allInts.items;have B:s.heap.IsList a (intItems b):=by rw[<- m];exact u.isList
  have d:ns=b.toList.map (·.1):=by rw[<- k.numsOf,<- nums_intItems,<- m]
  have f:0<b.size:=by rw[d,Mq,Po]at h;exact h
  refine min_intList (I.ok.hd E) B f λy h' tk x w=>?_
  obtain⟨tt,rfl⟩:=intItems_at x;obtain⟨g1,J⟩:=argBest_lt (numAt b) (b.size - 1);have g:∀j,j<b.size->b.toList.map (·.1) ≠ []->numAt b j∈ns:=λj c _=>by
   rw[d,numAt_eq];have:(b.toList.map (·.1))[j]?=some ((b.toList.map (·.1)).getD j 0):=by simp[c]
   exact NF this
  refine⟨.int _,H,_,I.kept w,⟨_,rfl⟩,av.refl H,Den.int _,q _ (g _ (by omega) (by rw[<- d];exact UL h)) λn l=>?_⟩;rw[d]at l;obtain⟨j,c,M⟩:=TL l;have:numAt b j=n:=by rw[numAt_eq,<- M];simp only[Nz,M5 c,We]
  rw[<- this];rw[Mq,Po]at c;exact J j (by omega)
end
end PD
namespace SW
open PySem PySem.SetTable ST PySem.W PyProof.Rows
section
variable{prog:Program}{w:World}{A:Around}{E:yaa}{s:Shared}
structure Me(prog:Program)(w:World)(h:Heap)(a:Addr)(xs:List (Int×Tok)):Prop where
 ex:∃o es ep t,h.get? a=some o/\o.ExactSet/\o.data=.set es ep t/\es.toList=xs.map (λx=>((intKind prog w).hash x.1,Value.int x.1 x.2))/\Tab t (xs.map λx=>(intKind prog w).hash x.1)/\(t.plain=true/\t.led=!w.params.followText "set-order")/\7<=t.mask
 nd:(xs.map (·.1)).Nodup
theorem sd:∀ps:List (Int×Value),(∀p∈ps,∃t,p.2=Value.int p.1 t)->IntsAre (ps.map (·.2)) (ps.map (·.1))
 |[],_=>.nil
 |(k,v)::r,h=>by obtain⟨t,e⟩:=h (k,v) OB;have a:v=Value.int k t:=e;subst a;exact .cons _ _ (sd r λp a=>h p (Ni _ a))
theorem xt:∀{vs:yad} {ns:yaf},IntsAre vs ns->∀p∈ns.zip vs,∃t,p.2=Value.int p.1 t
 |_,_,.nil,p,h=>by cases h
 |_,_,.cons _ _ r,p,h=>by
  rcases MD.mp h with z|z
  ·exact⟨_,by rw[z]⟩
  ·exact xt r p z
def Be {vs:yad} {P:PySem.Fin->Shared->Prop} (e:s.heap.get? a=some (seqObj "list" vs.toArray n)) (h:IntsAre vs ns) (y:vs.length<64)
  (x:∀h' (c:yad) (d:yaf) i,IntsAre c d->d.Perm ns->d.Pairwise (·<=·)->(∀b o,b≠a->s.heap.get? b=some o->h'.get? b=some o)->h'.get? a=some (seqObj "list" c.toArray i)->P (.done (.ret .none)) {s with heap:=h'}):wpAny (model prog w) A (Builtin.«list.sort» ⟨[.ref a],[]⟩) P E s:=by
 have u:ns.length=vs.length:=h.length.symm;obtain⟨c,d⟩:∃c,(s.heap.update a (Obj.mapSeq λ_=>(#[]:yao))).get? a=some (seqObj "list" #[] c):=⟨_,get?_update_seq e λ_=>#[]⟩;rw[list_sort_plain];refine Mh (listItems_at e rfl ?_);refine Mh (listUpdate_at e rfl ?_ (by rw[Og,sizeLine_eq];lia) (N9 _));refine Mh (seqEpoch_at d rfl ?_);refine Mh (wpAny_newTuple ?_ (by show vs.length<=_;rw[sizeLine_eq];lia));refine Mh (wpAny_newList ?_ (N9 _));refine Qv ?_;show wpAny (model prog w) A _ P E {s with heap:=((s.heap.update a (Obj.mapSeq λ_=>(#[]:yao))).push (seqObj "tuple" vs.toArray 0)).push (seqObj "list" #[] 0)};have f:(((s.heap.update a (Obj.mapSeq λ_=>(#[]:yao))).push (seqObj "tuple" vs.toArray 0)).push (seqObj "list" #[] 0)).get? a=some (seqObj "list" #[] c):=Nd _ (Nd _ d);have q:∀b o,b≠a->s.heap.get? b=some o->(((s.heap.update a (Obj.mapSeq λ_=>(#[]:yao))).push (seqObj "tuple" vs.toArray 0)).push (seqObj "list" #[] 0)).get? b=some o:=λb o j e =>
  Nd _ (Nd _ ((Ti _ _ (Ne.symm j)).trans e))
 generalize ((s.heap.update a (Obj.mapSeq λ_=>(#[]:yao))).push (seqObj "tuple" vs.toArray 0)).push (seqObj "list" #[] 0)=H at f q ⊢;have k:∀d:Array Keyed,d.Perm (vs.toArray.zip vs.toArray)->SortedTo d d.size->P (.done (.ret .none)) {s with heap:=H.update a (Obj.mapSeq λ_=>d.map (·.2))}:=λd g m=>by
  obtain⟨c,n,p,t⟩:=ksk_out (b:=false) (keys:=vs.toArray) (vs:=vs) (kz:=ns) h g m;have l:d.map (·.2)=List.toArray (c.map Prod.snd):=by have:(d.map (·.2)).toList=c.map Prod.snd:=p;rw[<- this,Array.toArray_toList]
  have r:=xt h;rw[l];obtain⟨i,d⟩:∃i,(H.update a (Obj.mapSeq λ_=>List.toArray (c.map Prod.snd))).get? a=some (seqObj "list" (List.toArray (c.map Prod.snd)) i):=⟨_,get?_update_seq f λ_=>List.toArray (c.map Prod.snd)⟩;refine x _ (c.map Prod.snd) (c.map Prod.fst) i (sd c λp a=>r p (n.mem_iff.mp a)) ?_ (List.pairwise_map.mpr t) (λb o j e=>(Ti _ _ (Ne.symm j)).trans (q b o j e)) d;have:=n.map Prod.fst;rw[Xo (Nat.le_of_eq u)]at this;exact this
 dsimp only;have b:(vs.toArray.zip vs.toArray).size=vs.length:=by rw[Array.size_zip,Og,Nat.min_self]
 by_cases a:vs.toArray.size<2
 ·rw[Ml a,Ml a];refine Mh (Mt ?_);rw[StateT.run_pure];refine Mh (Mt ?_);dsimp only;refine Mh (seqEpoch_at f rfl ?_);refine Mh (listUpdate_at f rfl ?_ (hsz2:=by rw[Array.size_map];show(vs.toArray.zip vs.toArray).size<=_;rw[b,sizeLine_eq];lia));simp only[Yf,Pf,if_false];refine Mt (k (vs.toArray.zip vs.toArray) (Array.Perm.refl _) λi j Oe c=>?_);rw[b]at c;rw[Og]at a;have:i=j:=by lia
  subst this;exact PR _
 ·rw[Mj a,Mj a];rw[Og]at a;rw[ksk_kind (keys:=vs.toArray) h (by rw[Og];lia)];refine Mh (Mt ?_);refine Mh (P6 (wpS_sortRuns (a₀:=vs.toArray.zip vs.toArray) (st:=SortSt.mk' oneType' (vs.toArray.zip vs.toArray) #[] 7 none)
   (Q:=λ_ a=>(arrOf a).Perm (vs.toArray.zip vs.toArray)/\failedOf a=none/\SortedTo (arrOf a) (vs.toArray.zip vs.toArray).size)
   (ksk_intKeys (keys:=vs.toArray) h) ⟨Array.Perm.refl _,rfl,rfl,rfl⟩ (by rw[b];lia) (by rw[b];exact y) λa h d c=>⟨h,d,c⟩) ?_ λ_ _ e=>e)
  rintro⟨⟨⟩,a⟩ s' ⟨rfl,g,c,m⟩;dsimp only;refine Mh (seqEpoch_at f rfl ?_);refine Mh (listUpdate_at f rfl ?_ (N9 _) (by rw[Array.size_map,g.size_eq,b,sizeLine_eq];lia));rw[c];simp only[Yf,Pf,if_false];exact Mt (k (arrOf a) g (by rw[g.size_eq];exact m))
end
end SW
namespace PD
open PySem PySem.Spec PyProof.Rows L2
section
variable{X:Cx}{pos:Pos}
theorem jw:∀{a:yad} {b:yaf},IntsAre a b->Vals (b.map V.int) a
 |_,_,.nil=>.nil
 |_,_,.cons n t r=>.cons ⟨t,rfl⟩ (jw r)
theorem mD{K:yac}{P:yak}{H:Hp}:∀a:yaf,af K P H (a.map D.int) (a.map V.int)
 |[]=>rfl
 |n::a=>af.cons (Den.int n) (mD a)
end
section
variable{X:Cx}
def BDP(X:Cx)(a:yab)(W:Own)(Q:D->Prop)(f:Flow)(c:Shared):Prop :=
 ∃ u v d e b,f=.ret u/\Inv X a e b c/\RelV v u/\av X.MR b/\Den X.K (λt a=>W.B a∨(t=true/\W.S a)) b d v/\Q d
abbrev DB:=(D->Prop)->Ro->Prop
def Te(X:Cx)(d:yal)(t:DB):Prop :=
 ∀ (b:yab) (s:Shared) (a:St) (H:Hp) (W:Own) (c:Ro) (Q:D->Prop),Inv X b a H s->Rel X W H a c->(∀a o,X.MR a=some o->W.S a)->t Q c →
  wpAny (model X.prog X.w) X.A (execs d X.env) (BDP X b W Q) X.xe s
theorem ML.ent(f:ML W H W' H')(r:Rel X W H σ ρ):av X.MR H' where
 kp:=λb o e n=>f.kp b o (λi z=>by have:=r.ke i b z;rw[e]at this;cases this) (r.ent.kp b o e n) n
 tb:=λb a e=>by obtain⟨c,g⟩:=r.ent.tb b a e;obtain⟨a,d⟩:=f.tb b _ g;exact⟨c++a,by rw[d,Yd]⟩
 ok:=λk=>f.ok (r.ent.ok k)
def wW{K:yac}{W b:Own}{H H':Hp}{d:D}{v:V}(f:ML W H b H')(h:Den K b.bad H' d v):Den K (λt a=>W.B a∨(t=true/\W.S a)) H' d v:=h.My λt a z=>by
 rcases z with z|z
 ·exact .inl (by rw[f.B];exact z)
 ·exact .inr (.inr ⟨z.1,by rw[f.S];exact z.2⟩)
def Ce(t:DS)(u:DB):DB:=λQ a=>t {nx:=u Q,rt:=Q} a
def iF{st:Stmt}{rest:yal}{t:DS}{u:DB}(e:OJ X st t)(j:Te X rest u):Te X (st::rest) (Ce t u):=by
 intro a s b H W c Q I r d h;refine Xp (Mw (e a s b H W c _ I r h) λf c e=>?_);obtain⟨k,g,i,h,b,q⟩:=e;cases f with
 |next =>
  obtain⟨f,e,q⟩:=q;refine Mw (j a c g i k f Q h e (by rw[b.S];exact d) q) λf2 s2 ⟨w,v,d,k,m,e,l,c,j,a,f⟩=>⟨w,v,d,k,m,e,l,c,j,?_,f⟩
  rw[b.B,b.S]at a;exact a
 |ret w =>
  obtain⟨v,d,c,a,f⟩:=q;exact⟨w,v,d,g,i,rfl,h,c,b.ent r,wW b a,f⟩
 |brk=>obtain⟨_,_,q⟩:=q;exact q.elim
 |cont=>obtain⟨_,_,q⟩:=q;exact q.elim
def Ga(t:DS):DB:=λQ a=>t {nx:=λ_=>False,rt:=Q} a
def IM{st:Stmt}{t:DS}(d:OJ X st t):Te X [st] (Ga t):=by
 intro a s b H W c Q I r s0 h;refine Xp (Mw (d a s b H W c _ I r h) λf s1 b=>?_);obtain⟨W',g,i,h,a,q⟩:=b;cases f with
 |next=>obtain⟨_,_,q⟩:=q;exact q.elim
 |ret w =>
  obtain⟨v,d,b,e,c⟩:=q;exact⟨w,v,d,g,i,rfl,h,b,a.ent r,wW a e,c⟩
 |brk=>obtain⟨_,_,q⟩:=q;exact q.elim
 |cont=>obtain⟨_,_,q⟩:=q;exact q.elim
def K8(X:Cx)(t:DB):TS:=λD a H=>∃W b Q,Rel X W H a b/\(∀a o,X.MR a=some o->W.S a)/\t Q b/\∀b v d,av X.MR b->Den X.K (λt a=>W.B a∨(t=true/\W.S a)) b d v->Q d->D.rt v b
def Te.ps(h:Te X ss t):PSs X ss (K8 X t):=by
 intro a s b H D I q;obtain⟨W,c,Q,r,d,e,k⟩:=q;refine Mw (h a s b H W c Q I r d e) λf s1 h=>?_
 obtain⟨u,v,d,i,a,e,j,c,b,g,f⟩:=h;subst e;exact⟨v,i,a,j,c,k a v d b g f⟩
theorem Te.VJ(h:Te X.VJ ss t):Te X ss t:=λa s b H W c Q I r d e =>
 P6 (h a s b H W c Q (I.wish _) (r.wish _) d e) (λ_ _ a=>(by obtain⟨u,v,d,b,f,e,c,q⟩:=a;exact⟨u,v,d,b,f,e,c.NZ,q⟩)) λ_ _ z=>False.elim z
end
section
variable{P:Program}{w:World}{K:yac}{mg:yam}{base:Heap}
def az.Zy{x a:Str}{st:Stmt}{f:Addr}{d:FuncData}{N ps:yah}{k:Nat}{sp:DSp}(F:az K x a st f d)(S:aB N ps (ar st))(c:∀ds Q E,sp ds Q E->ds.length=ps.length)
  (l:∀(b:Value) (A:Around) (outer:List Env) (s:Shared) (H:Hp) (E:XK),cF k (A.deeper (envOfC a (ar st) s.heap.objs.size f b)) →
   ∃ t,Te (dI (CX1 P w) P w K mg base N a (ar st) f b A outer s H E).VJ (cN st) t/\∀ds Q Ed,sp ds Q Ed->t Q (c8 N ds)):aM P w K mg base (CX1 P w) (k+1) f d ps (aN K sp):=by
 obtain⟨oc,od,dV,kV,doc,pm,an,b,ct,Uy,rfl,lk,a⟩:=F.ex;refine Gd lk a S (λa H Q E h=>?_) λA outer s H a Q E g h=>?_
 ·obtain⟨_,ds,_,_,_,_,e,d,_⟩:=h;rw[e.len];exact c ds _ _ d
 ·obtain⟨m,ds,c,Ed,i,j,e,d,f,ke⟩:=h;obtain⟨t,a,k⟩:=l b A outer s H E g;refine⟨_,a.VJ.ps,⟨m,λ_=>none,λa=>∃o,H a=some o⟩,_,c,Rel.start j e rfl i,λa o e=>⟨o,e⟩,k ds c Ed d,λc v d a b q=>?_⟩;exact f d v c a b q
end
section
variable{X:Cx}
def Rel.forget(r:Rel X W H σ ρ)(i:Nat):Rel X W H σ (ρ.set i none) where
 val:=λj d h=>by
  by_cases e:j=i
  ·subst e;by_cases l:j<ρ.length
   ·rw[O9 l]at h;cases h
   ·rw[Sr (by rw[Su];lia)]at h;cases h
  ·rw[Ov (Ne.symm e)]at h;exact r.val j d h
 own:=λj d h=>by
  by_cases e:j=i
  ·subst e;by_cases l:j<ρ.length
   ·rw[O9 l]at h;cases h
   ·rw[Sr (by rw[Su];lia)]at h;cases h
  ·rw[Ov (Ne.symm e)]at h;exact r.own j d h
 inj:=r.inj
 kn:=r.kn
 ke:=r.ke
 bt:=r.bt
 st:=r.st
 ent:=r.ent
 tab:=r.tab
def Rel.apart{H':Hp}{Z:Addr->Prop}(r:Rel X W H σ ρ)(g:∀a,¬Z a->H' a=H a)(l:∀a,Z a->∃h o,H a=some (.lst h)/\H' a=some (.lst o))(p:∀i a,W.O i=some a->¬Z a)
  (A:∀(j:Nat) (d:D) (v:V),ρ[j]?=some (some (Sl.val d))->σ[j]?=some (some v)->Den X.K W.bad H d v->Den X.K (λt a=>W.bad t a∨Z a) H d v)
  (B:∀(j:Nat) (x:OS),ρ[j]?=some (some (Sl.ob x))->∃f,x=OS.lst f/\fu f=true) (m:av X.MR H') (k:iC X.K H'):Rel X W H' σ ρ:=by
 have y:∀c e,MW X.K H c e->MW X.K H' c e:=λc e q=>by have i:H c=some (.tup e):=q;show H' c=_;rw[g c λz=>by obtain⟨h,_,b,_⟩:=l c z;rw[b]at i;cases i];exact i
 have s:∀c u,Tt u->H c=some u->H' c=some u:=λc u n q=>by rw[g c λz=>by obtain⟨h,_,b,_⟩:=l c z;rw[b]at q;cases q;exact n];exact q
 have w:∀t c e,¬(W.bad t c∨Z c)->Oh X.K H t c e->¬W.bad t c/\Oh X.K H' t c e:=λt c e n q=>by
  have e:=g c λz=>n (.inr z)
  refine⟨λz=>n (.inl z),?_,λz=>⟨by rw[e];exact(q.2 z).1,(q.2 z).2⟩⟩;rcases q.1 with(q|⟨u,q⟩)|q
  ·exact .inl (.inl (by rw[e];exact q))
  ·exact .inl (.inr ⟨u,by rw[e];exact q⟩)
  ·exact .inr q
 have i:∀c u,H c=some u->∃e,H' c=some e:=λc u q=>by
  by_cases z:Z c
  ·obtain⟨_,o,_,e⟩:=l c z;exact⟨_,e⟩
  ·exact⟨u,by rw[g c z];exact q⟩
 refine⟨λj d h=>?_,λj x h=>?_,r.inj,λj a h=>?_,r.ke,λa h=>let ⟨u,q⟩:=r.bt a h;i a u q,λa h=>let ⟨u,q⟩:=r.st a h;i a u q,m,k⟩
 ·obtain⟨v,b,e⟩:=r.val j d h;exact⟨v,b,Den.map y w s d v (A j d v h b e)⟩
 ·obtain⟨f,rfl,d⟩:=B j x h;obtain⟨a,c,b,e,k,i⟩:=r.eV j f h;refine⟨a,.lst c,b,e,by rw[g a (p j a b)];exact k,.lst ?_⟩;exact af.map y w s f c (af.Uc f c d i)
 ·obtain⟨e,d,o,c,b⟩:=r.kn j a h;exact⟨e,d,o,by rw[g a (p j a h)];exact c,b⟩
end
def FL(K:yac)(x:Str)(st:Stmt):Prop:=∃(f:Addr) (e:Value) (d:Option Addr) (kV g c:Value) (i:Option Addr) (a h:Value) (b:Array (yan)),
 PySem.W.nsIn K mainGlobals x=some (some (.ref f))/\K.lookup f=some ⟨e,d,.func (PySem.W.fnOf x x (fi st) (cN st) (ar st) .none kV g c i a h),b⟩/\PySem.W.codeIn K a x=true/\PySem.W.keepIn K (.ref f)=true
def FL.mk{K:yac}{x:Str}{st:Stmt}{f:Addr}{j:Value}{i:Option Addr}{kV k h:Value}{m:Option Addr}{e l:Value}{g:Array (yan)}(a:PySem.W.nsIn K mainGlobals x=some (some (.ref f)))
  (b:K.lookup f=some ⟨j,i,.func (PySem.W.fnOf x x (fi st) (cN st) (ar st) .none kV k h m e l),g⟩) (c:PySem.W.codeIn K e x=true) (d:PySem.W.keepIn K (.ref f)=true):FL K x st:=⟨f,j,i,kV,k,h,m,e,l,g,a,b,c,d⟩
def LP{c:Type}:∀{b:List c},b.length=1->∃a,b=[a]
 |[a],_=>⟨a,rfl⟩
def LQ{d:Type}:∀{c:List d},c.length=2->∃a b,c=[a,b]
 |[a,b],_=>⟨a,b,rfl⟩
def LR{e:Type}:∀{d:List e},d.length=3->∃a b c,d=[a,b,c]
 |[a,b,c],_=>⟨a,b,c,rfl⟩
def LS{f:Type}:∀{e:List f},e.length=4->∃a b c d,e=[a,b,c,d]
 |[a,b,c,d],_=>⟨a,b,c,d,rfl⟩
def LU{g:Type}:∀{f:List g},f.length=5->∃a b c d e,f=[a,b,c,d,e]
 |[a,b,c,d,e],_=>⟨a,b,c,d,e,rfl⟩
def FL.has{K:yac}{x:Str}{st:Stmt}{h:Heap}{a:yam}{k:Nat}{ps:yah}{sp:DSp}(e:FL K x st)(P:Program)(w:World)(base:Heap)(X:K.In h)(G:h.Ns mainGlobals a)
  (p:∀{f:Addr} {b:FuncData},az K x x st f b->aM P w K a base (CX1 P w) k f b ps (aN K sp))
  (q:∀(kV l j:Value) (o:Option Addr) (n m:Value) (i:yad),i.length=ps.length->bindArgs (PySem.W.fnOf x x (fi st) (cN st) (ar st) .none kV l j o n m) ⟨i,[]⟩=pure (ps.zip i):=by
   intro _ _ _ _ _ _ i g
   first
    |(obtain⟨_,rfl⟩:=LP g;rfl)
    |(obtain⟨_,_,rfl⟩:=LQ g;rfl)
    |(obtain⟨_,_,_,rfl⟩:=LR g;rfl)
    |(obtain⟨_,_,_,_,rfl⟩:=LS g;rfl)
    |(obtain⟨_,_,_,_,_,rfl⟩:=LU g;rfl)
    |(cases V5 g;rfl)):Nw P w K a base x k ps sp:=by
 obtain⟨f,oc,od,kV,l,j,o,n,m,sl,a,b,c,d⟩:=e;exact⟨f,_,p (zF b c d),PySem.W.mg_of X G a,d,.all λi g=>q kV l j o n m i g⟩
section
variable{X:Cx}
def wQ(i:Nat)(t:DB):DB:=λQ a=>t Q (a.set i none)
def BU(i:Nat)(h:Te X ss t):Te X ss (wQ i t):=λa s b H W ρ Q I r c d=>h a s b H W _ Q I (r.forget i) c d
end
end PD
namespace HT
open PySem PyProof.Rows
section
open PySem.SeqAt
open PySem.AutoSeq1 (wpAny_loadPart')
open PySem.MeetsSeq PySem.MeetsSeq2 PySem.MeetsSeq3
end
end HT
namespace PD
open PySem PySem.Spec PyProof.Rows L2
section
variable{prog:Program}{w:World}{A:Around}{E:yaa}{s:Shared}{p:Addr}{us:yad}{Q:yaa}
def KI{x:Int}(c:s.heap.IsList p us.toArray)(hz:us.length*x.toNat<=256)(h0:0<=x)(hn:x<=4096)
  (h:Q (.ref s.heap.objs.size) {s with heap:=s.heap.push {cls:=.type "list", data:=.seq (List.replicate x.toNat us).flatten.toArray} }):wpAny (model prog w) A (binaryOp .Mult (.ref p) (.int x tk)) Q E s:=by
 obtain⟨⟨c1,g,x1,d⟩,b,a,f,g3⟩:=id c;simp only at a g3;subst a g3;have z:us.toArray.size*x.toNat<=256:=by simpa using hz
 have e:∀a:Shared,a.TypeIs (.int x tk) "int" := λa=>typeIs_int a _ tk
 have a:s.TypeIs (.ref p) "list" := ⟨_,b,rfl⟩;have c:=lm_list_mul_any p us.toArray f g d x tk
  (by simp[Builtin.List.listFitsIndex];lia)
  (by lia)
  (by simp[Builtin.List.listTooLong,sizeLine];lia)
 refine wpAny_binaryOp_repeat_ref (U := "int") (by decide) a e noFill_list_mul PySem.F.fills_int_mul PySem.F.slot_int_rmul repeat_list PySem.F.slot_int_index.lookup ?_;refine call_meets PySem.F.slot_int_rmul (e s) PySem.F.entry_int_rmul (PySem.F.args_int_rmul_2 _ _) (lm_int_rmul_list_any x tk p us.toArray f g d) ⟨b,rfl,a,?_⟩;refine call_meets PySem.F.slot_list_mul a PySem.F.entry_list_mul (PySem.F.args_list_mul_2 _ _) c ⟨b,?_⟩;rw[listMul_foldl_if];exact h
end
section
variable{X:Cx}{pos:Pos}
theorem yn(h:Vals vs us):∀n,Vals (List.replicate n vs).flatten (List.replicate n us).flatten
 |0=>by simp only[List.replicate_zero,List.flatten_nil];exact .nil
 |n+1=>by simp only[List.replicate_succ,List.flatten_cons];exact h.append (yn h n)
theorem wY{K:yac}{P:yak}{H:Hp}{ds:yas}{vs:yar}(h:af K P H ds vs):∀n,af K P H (List.replicate n ds).flatten (List.replicate n vs).flatten
 |0=>by simp only[List.replicate_zero,List.flatten_nil];simp[af]
 |n+1=>by simp only[List.replicate_succ,List.flatten_cons];exact h.append (wY h n)
def HR:RD2:=λx y Q=>∃t a n,x=.lst t a/\y=.int (Int.ofNat n)/\n<=4096/\a.length*n<=256/\Q (.lst true (List.replicate n a).flatten)
def E5:NW X (binaryOp .Mult) HR:=by
 intro pins s σ H W x y v u vv uu Q I h d g j i q;obtain⟨t,xs,n,b,a,k,e,q⟩:=q;subst b a;obtain⟨p,c,b,_,l,f⟩:=j.OF;have a:=i.M9;subst b a;cases d;obtain⟨tk,rfl⟩:=g;obtain⟨g,d,i,_⟩:=I.list l;have b:=f.len;have j:=d.length;have a:H s.heap.objs.size=none:=I.MF.fresh (MS _);have l:g.length*n<=256:=by rw[<- j,b];exact e
 refine KI (x:=Int.ofNat n) i.isList l (Int.natCast_nonneg n) (Int.ofNat_le.mpr k) ?_;have sz:256<=sizeLine:=by decide
 have lz:(List.replicate n c).flatten.length<=256:=by simp;rw[b,Nat.mul_comm];exact e
 exact⟨.ref s.heap.objs.size,L2.upd H s.heap.objs.size (.lst (List.replicate n c).flatten),_,I.laid (t':=s.toks) (λb u e=>Nd _ e) (MS _) ⟨by lia,(List.replicate n g).flatten,0,yn d n,OI _ rfl⟩,rfl,av.upd a,Den.lst (zN h a) (.new aI (Inv.NA I)) ((wY f n).same (av.upd a)),q⟩
end
open PySem PySem.Spec PyProof.Rows L2 PX
section
variable{X:Cx}
def Own.Qm(W:Own)(n i:Nat)(D:Addr)(a:yaj):Own:=⟨W.B,λj=>if j=i then some D else if j % n=i/\n<=j then a (j / n - 1)else W.O j,W.S⟩
def mq{n i:Nat}(h:i<n):OU n i k % n=i:=by unfold OU;rw[Nat.mul_add_mod,Pm h]
def DV{n:Nat}:n<=OU n i k:=by unfold OU;rw[Nat.mul_add];lia
def Iu{n i:Nat}(h:i<n):OU n i k / n - 1=k:=by
 unfold OU;rw[Nat.mul_add_div (by lia),Nat.div_eq_of_lt h]
 lia
def KL{n i j:Nat}(h:j % n=i)(b:n<=j)(a:0<n):j=OU n i (j / n - 1):=by unfold OU;have c:=Nat.div_add_mod j n;have h2:1<=j / n:=Nat.div_pos b a;rw[show j / n - 1+1=j / n by lia,<- h,c]
def Own.Pz{W:Own}{n i:Nat}{D:Addr}{c:yaj}(d:i<n){j:Nat}{a:Addr}(h:(W.Qm n i D c).O j=some a):(j=i/\a=D)∨(∃k,j=OU n i k/\c k=some a)∨(j≠i/\(∀k,j≠OU n i k)/\W.O j=some a):=by
 have b:(if j=i then some D else if j % n=i/\n<=j then c (j / n - 1)else W.O j)=some a:=h;by_cases e:j=i
 ·rw[Ml e]at b;cases b;exact .inl ⟨e,rfl⟩
 ·rw[Mj e]at b;by_cases a:j % n=i/\n<=j
  ·rw[Ml a]at b;exact .inr (.inl ⟨_,KL a.1 a.2 (by lia),b⟩)
  ·rw[Mj a]at b;exact .inr (.inr ⟨e,λk z=>a (by rw[z];exact⟨mq d,DV⟩),b⟩)
def Own.WS{W:Own}{n i:Nat}{D:Addr}{a:yaj}(b:i<n)(k:Nat):(W.Qm n i D a).O (OU n i k)=a k:=by show(if OU n i k=i then some D else if OU n i k % n=i/\n<=OU n i k then a (OU n i k / n - 1)else W.O (OU n i k))=a k;rw[Mj (iu b),Ml ⟨mq b,DV⟩,Iu b]
def Own.Uj{W:Own}{n i:Nat}{D:Addr}{a:yaj}{j:Nat}(c:j≠i)(b:j % n≠i∨j<n):(W.Qm n i D a).O j=W.O j:=by show(if j=i then some D else if j % n=i/\n<=j then a (j / n - 1)else W.O j)=_;rw[Mj c,Mj λz=>b.elim (λq=>q z.1) λq=>by lia]
theorem Rel.Qm{W:Own}{H H':Hp}{g:St}{ρ:Ro}{i:Nat}{D:Addr}{f:yaj}{a:List LI}{vs:yar}(r:Rel X W H g ρ)(m:i<g.length)(c:av H H')(I:H D=none)(d:X.K.lookup D=none)(M:H' D=some (.lst vs))
  (A:gL X.K H D a.length f) (O:∀k b,f k=some b->∃E,H' b=some (.lst E)) (Q:aA X.K (λt b=>W.bad t b∨b=D∨∃ k,f k=some b) H' f 0 a vs) :
  Rel X (W.Qm g.length i D f) H' (g.set i (some (.ref D))) (ρ.set i (some (.ob (.ll a))))/\ML W H (W.Qm g.length i D f) H':=by
 have L:∀t a,(W.Qm g.length i D f).bad t a->W.bad t a∨a=D∨∃ k,f k=some a:=λt a z=>by
  rcases z with z|⟨j,z⟩| z
  ·exact .inl (.inl z)
  ·rcases Own.Pz m z with⟨_,q⟩| ⟨k,_,q⟩| ⟨_,_,q⟩
   ·exact .inr (.inl q)
   ·exact .inr (.inr ⟨k,q⟩)
   ·exact .inl (.inr (.inl ⟨j,q⟩))
  ·exact .inl (.inr (.inr z))
 have u:∀a,(a=D∨∃ k,f k=some a)->H a=none/\X.K.lookup a=none:=λa z=>by
  rcases z with z|⟨k,z⟩
  ·subst z;exact⟨I,d⟩
  ·exact⟨(A.ok k a z).2.1,(A.ok k a z).2.2.1⟩
 have h:∀{t:Bool} {a:Addr} {s:yar},Oh X.K H t a s->¬(a=D∨∃ k,f k=some a):=fun {t a s} q z=>by
  obtain⟨B,J⟩:=u a z;rcases q.1 with(q|⟨o,q⟩)|⟨o,Mp,n,q,_⟩
  ·rw[B]at q;cases q
  ·rw[B]at q;cases q
  ·rw[J]at q;cases q
 have N:∀(d:PD.D) (v:V),Den X.K W.bad H d v->Den X.K (W.Qm g.length i D f).bad H' d v:=Den.map (λ_ _ q=>MW.same c q) (λt a s n q=>⟨λz=>(L t a z).elim n (h q),q.same c⟩) (λa _ n q=>c.kp a _ q n.nt);have G:∀(l:List PD.D) (e:yar),af X.K W.bad H l e->af X.K (W.Qm g.length i D f).bad H' l e:=af.map (λ_ _ q=>MW.same c q) (λt a s n q=>⟨λz=>(L t a z).elim n (h q),q.same c⟩) (λa _ n q=>c.kp a _ q n.nt);have y:∀j a,W.O j=some a->¬(a=D∨∃ k,f k=some a):=λj a q z=>by obtain⟨_,_,o,C,_⟩:=r.kn j a q;rw[(u a z).1]at C;cases C
 refine⟨⟨λj d h=>?_,λj x h=>?_,λj l a p t=>?_,λj a p=>?_,λj a p=>?_,λa h=>let ⟨_,q⟩:=r.bt a h;c.ex q,λa h=>let ⟨_,q⟩:=r.st a h;c.ex q,r.ent.trans c,r.tab.same c⟩,rfl,rfl,λb o _ q n=>c.kp b o q n,λj a h=>?_,c.tb,c.ok⟩
 ·have n:j≠i:=λe=>by
   subst e;by_cases l:j<ρ.length
   ·rw[O9 l]at h;cases h
   ·rw[Sr (by rw[Su];lia)]at h;cases h
  rw[Ov (Ne.symm n)]at h;obtain⟨w,p,t⟩:=r.val j d h;exact⟨w,by rw[Ov (Ne.symm n)];exact p,N d w t⟩
 ·rw[Su];by_cases n:j=i
  ·subst n;by_cases l:j<ρ.length
   ·rw[O9 l]at h;cases h;refine⟨D,_,?_,by rw[O9 m],M,.ll (Q.map (λ_ _ z=>z.My L) λk b q=>⟨by rw[<- q];exact Own.WS m k,λ_ z=>z⟩)⟩;show(if j=j then some D else _)=some D;rw[Ml rfl]
   ·rw[Sr (by rw[Su];lia)]at h;cases h
  ·rw[Ov (Ne.symm n)]at h;obtain⟨a,s,p,t,C,e⟩:=r.own j x h;have d:j<g.length:=(Nk.mp t).1;refine⟨a,s,(Own.Uj n (.inr d)).trans p,by rw[Ov (Ne.symm n)];exact t,c.kp _ _ C e.S6.nt,e.map G λl b q=>⟨(Own.Uj ?_ (.inl (by rw[mq d];exact n))).trans q,λ_ z=>c _ _ z⟩⟩;exact iu m
 ·rcases Own.Pz m p with⟨n,d⟩| ⟨g,n,d⟩| ⟨_,_,d⟩<;>rcases Own.Pz m t with⟨i,b⟩| ⟨e,i,b⟩| ⟨_,_,b⟩
  ·rw[n,i]
  ·exact absurd (d ▸ rfl) (d ▸ (A.ok e a b).2.2.2)
  ·exact(y l a b (.inl d)).elim
  ·exact absurd (b ▸ rfl) (b ▸ (A.ok g a d).2.2.2)
  ·rw[n,i,A.inj g e a d b]
  ·exact(y l a b (.inr ⟨g,d⟩)).elim
  ·exact(y j a d (.inl b)).elim
  ·exact(y j a d (.inr ⟨e,b⟩)).elim
  ·exact r.inj j l a d b
 ·have fresh:(a=D∨∃ k,f k=some a)->X.K.lookup a=none/\(¬W.B a/\¬W.S a):=λz=>by
   obtain⟨B,J⟩:=u a z;exact⟨J,λq=>(by obtain⟨o,y⟩:=r.bt _ q;rw[B]at y;cases y),λq=>(by obtain⟨o,y⟩:=r.st _ q;rw[B]at y;cases y)⟩
  rcases Own.Pz m p with⟨_,q⟩| ⟨k,_,q⟩| ⟨_,_,q⟩
  ·obtain⟨d,b⟩:=fresh (.inl q);exact⟨d,b,.lst vs,by rw[q];exact M,True.intro⟩
  ·obtain⟨d,b⟩:=fresh (.inr ⟨k,q⟩);obtain⟨E,e⟩:=O k a q;exact⟨d,b,.lst E,e,True.intro⟩
  ·obtain⟨f,e,s,d,b⟩:=r.kn j a q;exact⟨f,e,s,c.kp _ _ d b.nt,b⟩
 ·rcases Own.Pz m p with⟨_,q⟩| ⟨k,_,q⟩| ⟨_,_,q⟩
  ·exact r.ent.free (q ▸ I)
  ·exact r.ent.free (A.ok k a q).2.1
  ·exact r.ke j a q
 ·rcases Own.Pz m h with⟨_,q⟩| ⟨k,_,q⟩| ⟨_,_,q⟩
  ·exact .inr (q ▸ I)
  ·exact .inr (A.ok k a q).2.1
  ·exact .inl ⟨j,q⟩
end
section
variable{X:Cx}{k:Nat}{ps:yah}{sp:DSp}{x:Str}{p pos:Pos}{e:Expr}{es:yai}{t:DA}
def DD{ds:yas}{Pv:Nat->List LI->Prop}{te:DM}{a:Ro}(step:∀j d c,ds[j]?=some d->Pv j c->te (some (.val d)::a) (λe=>Pv (j+1) (c++[e]))) :
  ∀ j d c f,ds[j]?=some d->Pv j c->iA 1 a f->kx 0 d f λg=>iA 1 a g/\qA g λb=>if b=true then te g (λe=>Pv (j+1) (c++[e]))else Pv (j+1) c:=by
 rintro j d c f g b ⟨a,f,rfl⟩
 match a,f with
 |[a],_ =>
  refine⟨⟨[some (.val d)],rfl,rfl⟩,?_⟩;unfold qA;dsimp only;rw[Ml rfl];exact step j d c g b
end
section
variable{X:Cx}{sc:Scope}{ns:yah}{js:yag}{elt iter:Expr}{px pos:Pos}{te:DM}{wi:DA}{x:Str}
def qB(i:Nat)(wi:DA)(js:yag)(te:DM):DS:=λE b=>wi b λc=>c.length<=sizeLine/\∃Pv:Nat->List LI->Prop,Pv 0 [] ∧
 (∀j d a,c[j]?=some d->Pv j a->te (some (.val d)::js.map (bA b)) (λe=>Pv (j+1) (a++[e])))/\∀a,Pv c.length a->E.nx (b.set i (some (.ob (.ll a))))
def KZ{y:Str}{b a:Pos}(i:Nat)(w:X.N.Nodup)(u:X.calm=true)(S:CSc X.env.scope sc [x] ns)(q:aX X.N ns js)(k:QR X (.Name x px) iter wi)
  (t:∀(C:Addr) (j:Shared) (g:Hp) (c:yae) (f:yaa),XH (aZ X sc ns [x] C j g c f) elt te) (l:X.N[i]?=some y:=by rfl) (m:X.env.scope.names.lookup y=some .local:=by rfl) (n:closureFor sc X.env=pure (bR X.env ns):=by rfl) (hs:∀x,foldedSetIterable iter X.env x=pure x:=by intro _;rfl)
  (d:swapsWith (.ListComp elt [⟨.Name x px,iter,[],0⟩] sc pos) (some (.Name y b)) a.line X.env=pure true:=by rfl) :
  OJ X (.Assign [.Name y b] (.ListComp elt [⟨.Name x px,iter,[],0⟩] sc pos) a) (qB i wi js te):=by
 intro a s e H W i E I r h;rw[Z6 _ _ _ _ d];refine Mh (Wi (Mh ?_));show wpAny _ X.A (do let _←comprehension (.ListComp elt [⟨.Name x px,iter,[],0⟩] sc pos) sc X.env _ (newList []) false (eval iter X.env) (some (assign (.Name y b) X.env))) _ _ s;refine Mh (P6 (Vt (use:=some (assign (.Name y b) X.env)) (Q:=λ_ d=>SG X a W H E .next d) rfl hs n S.kind S.names
  (Mw (k a s e H W i _ I r h) λv s1 e=>Mw e λRz s2 k=>?_)) (λ_ d e=>Mt (Mt e)) λ_ _ e=>e)
 obtain⟨it,c,tn,J,H2,ds,e,A,i,T,z,s,n,p,Pv,o,step,h⟩:=k;subst e;refine lA (RR:=λk C=>compPost (model X.prog X.w) X.A X.xe (some (assign (.Name y b) X.env)) (λ_ d=>SG X a W H E .next d) k C) u S q (Ed:=λ_=>False) (λC j g c f _=>t C j g c f) (λC j g c f _=>bW) (λ_ _=>cR.no) A (r.same i) (λC j g c f=>ky S) T z s n p Pv o (DD step) ?_;intro D C d G n c bs a j E B g A f u ⟨o,q,vs,s,d,p,z⟩ pv;obtain⟨k,t⟩:=(r.same i).Qm (Inv.S8 a l) j o q s d p z;show wpAny _ X.A (assign (.Name y b) X.env (.ref D)) _ _ _;refine Yg (ju (v:=.ref D) a w l (.inl m) rfl (λb p o=>?_) (.inr m));obtain⟨a,l,j⟩:=o;have m:C≠a:=by
  rcases j with z|z
  ·rw[z];exact g
  ·exact λq=>f y a z q.symm
 refine⟨n,E.sameBut l m,λh' a=>?_⟩;exact⟨_,_,G,p.turned (t':=b.toks) (λb o d e=>(a.2 b d).trans e) B g (.inr A) f u,(ML.same i).trans t,_,k,h c pv⟩
end
open PySem PySem.Spec PyProof.Rows L2 PZ
def ESt(e b l:Addr)(i:Nat)(h:Heap):Prop:=(∃a,IsEnum h e b (i:Int) a)/\h.IsListIter b l i
def Ite(K:yac)(a:Addr):It :=
 ⟨λi H=>∃b x,SqL K H a b/\b[i]?=some x,
  λi H v c=>∃T x,v=.ref T/\H T=none/\c=L2.upd H T (.tup [.int (i:Int),x])/\∀b,SqL K H a b->b[i]?=some x,
  λi H=>∃b,SqL K H a b/\b[i]?=none⟩
def DL{P:Program}{w:World}{K:yac}{es:yai}{c:Nat}{b:Pos}(a e d:Addr)(D:e≠d) :
  Turn P w K (.Tuple es c b) (Ite K a) [e,d] e (λi h=>ESt e d a i h) where
 mem:=by simp
 obj:=λi h st c b=>by
  obtain⟨⟨g,p⟩,j⟩:=st;simp only[MD,OX,or_false]at b;rcases b with q|q<;>subst q
  ·exact⟨_,p,λv q=>by cases q⟩
  ·obtain⟨o,f,_,k⟩:=j;exact⟨o,f,λv q=>by rw[k]at q;cases q⟩
 keep:=λi h h' st y=>by obtain⟨⟨g,p⟩,j⟩:=st;obtain⟨o,f,r⟩:=j;exact⟨⟨g,y e (by simp) _ p⟩,o,y d (by simp) _ f,r⟩
 item:=by
  intro X N J O b i A s σ H E I l st M;subst N J O;obtain⟨xs,x,f,Q⟩:=M;obtain⟨us,B,G⟩:=QA.list (k:=true) I f;obtain⟨u,j,ru⟩:=B.get Q;obtain⟨⟨g,p⟩,t⟩:=st;have hne1:a≠e:=QA.ne (k:=true) I (l e (by simp)) f;have hne2:a≠d:=QA.ne (k:=true) I (l d (by simp)) f;refine wpAny_pyNext_enum_item p t G (x:=u) (by simpa using j) D λh' j C z sz' y=>⟨_,rfl,wpAny_letOwnedTupleGo_enum j λm U sb=>?_⟩
  have j:s.heap.objs.size<=s.heap.objs.size:=MS _;have L:s.heap.objs.size≠e:=RN (MV p);obtain⟨oi,n,ri⟩:=id t;have T:s.heap.objs.size≠d:=RN (MV n);have w:H s.heap.objs.size=none:=I.MF.fresh j;have j:∀c o,c ∉ [e,d]->s.heap.get? c=some o->m.get? c=some o:=λc o n q=>by simp only[MD,OX,or_false,not_or]at n;exact sb.extBut c o n.1 (y c o n.1 n.2 q)
  have Y:ESt e d a (i+1) m:=by
   refine⟨⟨u,?_⟩,?_⟩
   ·have:((i+1:Nat):Int)=(i:Int)+1:=by lia
    rw[this];exact U
   ·obtain⟨o,f,r⟩:=C;exact⟨o,sb.extBut _ o (Ne.symm D) f,r⟩
  have C:m.get? s.heap.objs.size=some {cls:=.type "tuple", data:=.seq #[.int i s.toks,u]}:=sb.extBut _ _ L z;have lo:∀c ∈ [e,d],c≠s.heap.objs.size:=λc b=>by
   simp only[MD,OX,or_false]at b;rcases b with q|q<;>subst q
   ·exact Ne.symm L
   ·exact Ne.symm T
  refine⟨.ref s.heap.objs.size,L2.upd H s.heap.objs.size (.tup [.int (i:Int),x]),?_,rfl,⟨_,x,rfl,w,rfl,λxs' q=>by rw[I.Qg q f];exact Q⟩,Y,λc b=>by rw[aw (lo c b)];exact(l c b).1⟩;have a:∀c o,H c=some o->c ∉ [e,d]:=λc o q b=>by have:=(l c b).1;rw[q]at this;cases this
  refine L2.Inv.step (s:=s) (h':=m) (g':=s.gens) (d':=s.drawn) (t':=s.toks+1) (ch:=[e,d]) I (λc b=>?_) (λc o _ _ n q _=>j c o n q) (λc o _ _ n q _=>⟨o.slots,j c o n q⟩) (λc o _ q n=>by rw[aw (NG (MV q))];exact n) (λc o n q=>⟨o,j c o n q⟩)
   (λc ls q=>by rw[aw (aY q w)];exact q) (λc o ls q=>by rw[aw (aY q w)];exact q) (λc ps q=>⟨#[],by rw[aw (aY q w),q];simp⟩) (λm L=>?_) (λc o q=>?_) I.bare
  ·obtain⟨f0,Y,f2,U,T,Q⟩:=l c b;exact⟨U,Y,T,Q⟩
  ·obtain⟨o,PL,ep,x,r⟩:=L;exact⟨o,PL,ep,j _ o (λq=>(l _ q).2.1 rfl) x,r⟩
  ·by_cases z:c=s.heap.objs.size
   ·subst z;rw[aI]at q;cases q;exact⟨by rw[sizeLine_eq];show 2<=16777216;decide,[.int i s.toks,u],.cons ⟨_,rfl⟩ (.cons ru .nil),⟨_,C,rfl,_,rfl⟩⟩
   ·rw[aw z]at q;refine(I.MF c o q).Qf (λd' u C z=>j d' u ?_ z) (λd' z=>by rw[aw (aY z w)];exact z) λd' ls z=>by rw[aw (aY z w)];exact z
    rcases C with q'|q'
    ·rw[q'];exact a c o q
    ·exact a d' _ q'
 done:=by
  intro X N J O b i A s σ H E I l st M;subst N J O;obtain⟨xs,f,i⟩:=M;obtain⟨us,B,G⟩:=QA.list (k:=true) I f;obtain⟨⟨g,p⟩,t⟩:=st;refine wpAny_pyNext_enum_end (I.ok.hd b) p t G (by simpa using B.none_of i) λh' y=>⟨rfl,?_⟩
  have j:∀c o,c ∉ [e,d]->s.heap.get? c=some o->h'.get? c=some o:=λc o n q=>by simp only[MD,OX,or_false,not_or]at n;exact y c o n.2 q
  have a:∀c o,H c=some o->c ∉ [e,d]:=λc o q b=>by have:=(l c b).1;rw[q]at this;cases this
  refine L2.Inv.step (s:=s) (h':=h') (g':=s.gens) (d':=s.drawn) (t':=s.toks) (ch:=[e,d]) I (λc b=>?_) (λc o _ _ n q _=>j c o n q) (λc o _ _ n q _=>⟨o.slots,j c o n q⟩) (λ_ _ _ _ n=>n) (λc o n q=>⟨o,j c o n q⟩) (λ_ _ q=>q) (λ_ _ _ q=>q) (λc ps q=>⟨#[],by rw[q];simp⟩) (λm L=>?_) (λc o q=>?_) I.bare
  ·obtain⟨f0,Y,f2,U,T,Q⟩:=l c b;exact⟨U,Y,T,Q⟩
  ·obtain⟨o,PL,ep,x,r⟩:=L;exact⟨o,PL,ep,j _ o (λq=>(l _ q).2.1 rfl) x,r⟩
  ·refine(I.MF c o q).Qf (λd' u C z=>j d' u ?_ z) (λ_ z=>z) λ_ _ z=>z
   rcases C with q'|q'
   ·rw[q'];exact a c o q
   ·exact a d' _ q'
 self:=λ_ _ _ _ _ st h=>by obtain⟨⟨g,p⟩,_⟩:=st;exact wpAny_pyIter_enum p h
section
variable{X:Cx}
def mG:Nat->yas->yas
 |_,[]=>[]
 |n,d::r=>.tup [.int (n:Int),d]::mG (n+1) r
theorem oA:∀(n:Nat) (ds:yas),(mG n ds).length=ds.length
 |_,[]=>rfl
 |n,d::r=>by rw[mG,P5,oA (n+1) r,P5]
theorem oz:∀(n:Nat) (ds:yas) (i:Nat) (d:D),ds[i]?=some d->(mG n ds)[i]?=some (.tup [.int ((n+i:Nat):Int),d])
 |_,[],_,_,h=>by cases h
 |n,x::r,0,d,h=>by rw[List.getElem?_cons_zero]at h;cases h;rfl
 |n,x::r,i+1,d,h=>by
  rw[List.getElem?_cons_succ]at h;rw[mG,List.getElem?_cons_succ,oz (n+1) r i d h];congr 4
  lia
def F2(b:DA):DA:=λa R=>b a λb=>∃t a,b=[.lst t a]/\R (mG 0 a)
def G7 {es:yai} {d:Nat} {c:Pos} {a:Expr} {b:DA} {p pos:Pos} (f:Gl X "enumerate") (e:X.mg "enumerate" = none) (g:Rk X [a] b) (hs:starEach [a] X.env=(false,eval a X.env)::starEach [] X.env:=by rfl) (i:(backTo pos (starEach [] X.env)).any (·.1)=false:=by rfl) :
  QR X (.Tuple es d c) (.Call (.Name "enumerate" p) [a] [] pos) (F2 b):=by
 intro a s b H W c R I r h;refine Call_ (dD I f e boot_enumerate (PyProof.Rows.callWith_type1 (Mw (g pos a s b H W c _ I r h) λus a b=>?_) hs i));obtain⟨vs,n,ds,d,g,j,f,c⟩:=b;obtain⟨t,b,e,q⟩:=c;subst e;obtain⟨v1,rv,rfl,k,rfl⟩:=f;obtain⟨l,f,i,c,h,m⟩:=k.seq (k:=true) (ds:=b) rfl;subst i;cases g with
 |cons i g =>
  cases g;cases i;obtain⟨us1,_,g⟩:=QA.list (k:=true) d c;refine call_enumerate_list g λh' c i sz g=>?_
  refine wpAny_pyIter_enum c ?_;refine⟨a.heap.objs.size+1,[a.heap.objs.size+1,a.heap.objs.size],_,_,n,_,rfl,d.kept (t':=a.toks) g,j,DL l _ _ (by simp),⟨⟨_,c⟩,i⟩,λc g=>?_,?_,q⟩
  ·have i:a.heap.objs.size<=c:=by
    simp only[MD,OX,or_false]at g;rcases g with q|q<;>subst q
    ·exact Vz _ _
    ·exact MS _
   exact d.TQ i (d.MF.fresh i)
  ·intro d a j k n i;have c:SqL X.K a l f:=m d a j k;have n1:=h.len;have hlen:=oA 0 b;refine⟨λd=>?_,λv H3 y d=>?_,λd=>⟨f,c,Sr (by lia)⟩⟩
   ·obtain⟨x,g,_⟩:=h.get (i:=i) (d:=b[i]'(by lia)) (by simp);exact⟨f,x,c,g⟩
   ·obtain⟨T,x,e,l,d,g⟩:=y;subst e d;obtain⟨d,m,e⟩:=h.bA (g f c);have c:av a (L2.upd a T (.tup [.int (i:Int),x])):=av.upd l;refine⟨c,.tup [.int (i:Int),d],by rw[oz 0 b i d m,QM],Den.tup (MW.of aI) (af.cons (Den.int _) (af.one ((Den.map j k n d x e).same c)))⟩
def F4(t:DA):DM:=λa Q=>t a λa=>Q (.own a)
def Jw(h:QS X e ta):XH X e (F4 ta):=λa s b H W c _ I r d =>
 Mw (h a s b H W c _ I r d) λu s1 h=>(by obtain⟨a,b,j,g,f,i,c,n,k,e,d,q⟩:=h;exact⟨.ref a,j,.own g,i,f,c,⟨a,b,rfl,n,k,e,d⟩,q⟩)
def PSV(X:Cx)(st:Stmt)(i:Nat)(t:DE):Prop :=
 ∀ (a:yab) (s:Shared) (b:St) (H:Hp) (W:Own) (c:Ro) (Q:D->Prop),Inv X a b H s->Rel X W H b c->t c Q →
  wpAny (model X.prog X.w) X.A (exec st X.env) (λf e=>f=.next/\∃v c d,Inv X a (b.set i (some v)) c e/\av H c/\Den X.K W.bad c d v/\Q d) X.xe s
end
section
variable{X:Cx}{sc:Scope}{ns:yah}{js:yag}{elt iter:Expr}{ifs:yai}{px pos:Pos}{te:DE}{tc:DT}{wi:DA}{x:Str}
def Il{y:Str}{a:Pos}(i:Nat)(B:X.N.Nodup)(A:X.calm=true)(S:CSc X.env.scope sc [x] ns)(w:aX X.N ns js)(m:QR X (.Name x px) iter wi)(u:∀(C:Addr) (j:Shared) (g:Hp) (c:yae) (f:yaa),Tv (aZ X sc ns [x] C j g c f) ifs tc)
  (z:∀(C:Addr) (j:Shared) (g:Hp) (c:yae) (f:yaa),MI (aZ X sc ns [x] C j g c f) elt te) (t:X.N[i]?=some y:=by rfl) (o:X.env.scope.names.lookup y=some .local:=by rfl) (n:closureFor sc X.env=pure (bR X.env ns):=by rfl) (hs:∀x,foldedSetIterable iter X.env x=pure x:=by intro _;rfl)
  (b:swapsWith (.ListComp elt [⟨.Name x px,iter,ifs,0⟩] sc pos) (some (.Name y py)) a.line X.env=pure true:=by rfl) :
  PSV X (.Assign [.Name y py] (.ListComp elt [⟨.Name x px,iter,ifs,0⟩] sc pos) a) i (kS wi js tc te):=by
 intro a s l H W e Q I r h;rw[Z6 _ _ _ _ b];refine Mh (Wi (Mh ?_));show wpAny _ X.A (do let _←comprehension (.ListComp elt [⟨.Name x px,iter,ifs,0⟩] sc pos) sc X.env _ (newList []) false (eval iter X.env) (some (assign (.Name y py) X.env))) _ _ s;refine Mh (P6 (Vt (use:=some (assign (.Name y py) X.env)) (Q:=λ_ k=>∃v b d,Inv X a (l.set i (some v)) b k/\av H b/\Den X.K W.bad b d v/\Q d) rfl hs n S.kind S.names
  (Mw (m a s l H W e _ I r h) λv s1 e=>Mw e λRz s2 n=>?_)) (λ_ k e=>Mt (Mt ⟨rfl,e⟩)) λ_ _ e=>e)
 obtain⟨it,c,tn,J,H2,ds,e,I,m,T,G,E,p,s,Pv,q,step,h⟩:=n;subst e;refine gO (RR:=λn C=>compPost (model X.prog X.w) X.A X.xe (some (assign (.Name y py) X.env)) (λ_ k=>∃v b d,Inv X a (l.set i (some v)) b k/\av H b/\Den X.K W.bad b d v/\Q d) n C) A S w (Ed:=λ_=>False) (λC j g c f _=>z C j g c f) (λC j g c f _=>u C j g c f) (λ_ _=>cR.no) I (r.same m) (λC j g c f=>ky S) T G E p s Pv q (vP step) ?_;intro D C k b j c q g w s f p d n ⟨a,i,vs,k,l⟩ pv;have u:Den X.K W.bad b (.lst true c) (.ref D):=Den.lst ((r.same m).fresh a) (.new k i) (l.My λ_ _ z=>.inl z);show wpAny _ X.A (assign (.Name y py) X.env (.ref D)) _ _ _;refine Yg (ju (v:=.ref D) q B t (.inl o) rfl (λi r q=>?_) (.inr o));obtain⟨a,l,k⟩:=q;have o:C≠a:=by
  rcases k with z|z
  ·rw[z];exact f
  ·exact λq=>d y a z q.symm
 refine⟨j,w.sameBut l o,λh' j=>?_⟩;exact⟨_,b,_,r.turned (t':=i.toks) (λb o a e=>(j.2 b a).trans e) s f (.inr p) d n,m.trans g,u,h c pv⟩
end
section
variable{X:Cx}
structure Told(K:yac)(H:Hp)(b c t0:Addr)(k0:Int)(us ws qs:yar):Prop where
 hb:H b=some (.lst (.int k0::us))
 hc:H c=some (.lst (.ref t0::ws))
 ht:H t0=some (.tup (.ref b::qs))
 kb:K.lookup b=none
 kc:K.lookup c=none
 kt:K.lookup t0=none
end
end PD
namespace SW
open PySem PySem.SetTable ST PySem.W PyProof.Rows L2
section
variable{prog:Program}{w:World}{A:Around}{E:yaa}{s:Shared}
theorem xr:∀{vs:yad} {ns:yaf},vs.length=ns.length->(∀(j:Nat) (v:Value),vs[j]?=some v->∃n t,ns[j]?=some n/\v=Value.int n t)->IntsAre vs ns
 |[],[],_,_=>.nil
 |v::vs,n::ns,h,k=>by obtain⟨m,t,e,a⟩:=k 0 v rfl;cases(show n=m from Pp e);subst a;exact .cons n t (xr (Nat.succ.inj h) λj u a=>k (j+1) u a)
def yb{a:Addr}{ks:yaf}{Q:yaa}(i:A.handled=none)(j:(a==sysModules)=false)(m:s.heap.DictOf (bZ prog w) a kvs)(p:kvs.map (·.1)=ks.map Sum.inl)(Zw:ks.length<64)
  (z:∀(d:Heap) (l:Nat) s' (f:yad) (g:yaf) c,(∀b o,s.heap.get? b=some o->d.get? b=some o)->(∀b o,d.get? b=some o->s'.heap.get? b=some o)->s'.gens=s.gens->s'.drawn=s.drawn->s'.os=s.os->IntsAre f g->g.Perm ks->g.Pairwise (·<·) →
   s'.heap.get? d.objs.size=some (seqObj "list" f.toArray c)->Q (.ref d.objs.size) s'):wpAny (model prog w) A (call (.builtin "sorted") [.ref a]) Q E s:=by
 obtain⟨o,q,ep,e,c,a,n,k,h⟩:=m;have lk:kvs.length=ks.length:=by have:=congrArg List.length p;simpa using this
 refine Calls.call_function_entry kind_sorted plain_sorted entry_sorted (args_sorted1 _) ?_;unfold Builtin.«sorted»;refine Mh (m:=checkCount "sorted" 1 1 _) (Mt ?_);refine Mh (PySem.W.kdu_collect (PySem.W.kdl_dict (knd:=bZ prog w) (kvs:=kvs) (ep:=ep) j) (show A.in1.handled=none from i) ⟨o,q,e,c,a,n,k,h⟩ (by rw[sizeLine_eq];lia) λd l a r c=>?_);have m:a.toList.length=ks.length:=by rw[Po,c.1,lk]
 have u:IntsAre a.toList ks:=xr m λj v i=>by
  obtain⟨k,x,e,q⟩:=c.2 j v (by simpa using i);have i:(kvs.map (·.1))[j]?=some k:=by rw[Nj,e];rfl
  rw[p,Nj]at i;obtain⟨n,j,c⟩:=SN.mp i;rcases b9 (show mM k v=true from q)with⟨i,t,i,k⟩| ⟨y,t,i,_⟩
  ·rw[i]at c;cases c;exact⟨n,t,j,k⟩
  ·rw[i]at c;cases c
 have c:ks.Nodup:=by rw[p]at h;exact(List.pairwise_map.mp h).imp λh e=>h (by rw[e])
 refine Mh (wpAny_newList ?_ (by rw[m,sizeLine_eq];lia));have h:(d.push (seqObj "list" a.toList.toArray 0)).get? d.objs.size=some (seqObj "list" a.toList.toArray 0):=OI _ rfl;have n:∀b o,d.get? b=some o->(d.push (seqObj "list" a.toList.toArray 0)).get? b=some o:=λb o e=>Nd _ e
 show wpAny _ _ _ _ _ {s with heap:=d.push (seqObj "list" a.toList.toArray 0),toks:=l};refine Mh (Qv (SU slot_list_sort ⟨_,h,rfl⟩ entry_list_sort ?body (args_list_sort _)))
 case body =>
  refine Be (s:={s with heap:=d.push (seqObj "list" a.toList.toArray 0),toks:=l}) h u (by lia) λh' f g k i a h m j=>?_
  refine⟨_,rfl,Mt ⟨_,rfl,z d l _ f g k r (λb o e=>?_) rfl rfl rfl i a ?_ j⟩⟩
  ·exact m b o (NG (MV e)) (n b o e)
  ·have b:g.Nodup:=a.nodup_iff.mpr c;exact(h.and b).imp fun {x y} q=>by have:=q.1;have:=q.2;lia
end
end SW
namespace PD
open PySem PySem.Spec PyProof.Rows L2
section
variable{X:Cx}{pos:Pos}
def zr(i:Nat):DS:=λE a=>E.nx (a.set i (some (.ob (.dk []))))
def Cj{x:Str}(i:Nat)(f:X.N.Nodup)(c:X.N[i]?=some x:=by rfl)(d:Loc X.env.scope x:=by first|exact Or.inl rfl|exact Or.inr rfl)(hs:swapsWith (.Dict [] [] dpos) (some (.Name x pos')) pos.line X.env=pure false:=by rfl)
  (e:X.fn x=true∨X.env.scope.names.lookup x=some .local:=by first|exact .inl rfl|exact .inr rfl|assumption):OJ X (.Assign [.Name x pos'] (.Dict [] [] dpos) pos) (zr i):=by
 intro pins s σ H W ρ E I r q;have b:=I.MF.fresh (MS s.heap.objs.size);have g:=I.laid (a:=s.heap.objs.size) (o:=.dK []) (h':=s.heap.push {cls:=.type "dict", data:=.dict #[]}) (t':=s.toks) (λ_ _ q=>Nd _ q) (MS _) (Ez s.heap I.big);refine wpAny_Assign_Name (wpAny_Dict_empty ?_) hs;have a:=r.YX (x:=.dk []) (Inv.S8 I c) (H':=L2.upd H s.heap.objs.size (.dK [])) (av.upd b) b (Inv.NA I) aI (.dk rfl af.nil);exact fe (v:=.ref s.heap.objs.size) g f c d rfl (λs3 b=>⟨_,_,_,b,a.2,_,a.1,q⟩) e
def F7(i:Nat)(b te:DE):DS:=λE c=>∃a,c[i]?=some (some (.ob (.dk a)))/\te c λd=>b c λk=>∃b:Key,k=ET b/\a.length<sizeLine/\E.nx (c.set i (some (.ob (.dk (putD a b d)))))
def GR {x:Str} (i:Nat) (c:X.A.units+1<cLine) (f:MI X b tb) (d:MI X e te) (g:X.N[i]?=some x:=by rfl) (a:S1 X.env.scope x:=by first|exact Or.inl rfl|exact Or.inr (Or.inl rfl)|exact Or.inr (Or.inr rfl)) (j:(x==("__debug__" : Str))=false:=by decide)
  (h:(x==("__classdict__" : Str))=false:=by decide) (hs:swapsWith e (some (.Subscript (.Name x px) b tpos)) pos.line X.env=pure false:=by rfl):OJ X (.Assign [.Subscript (.Name x px) b tpos] e pos) (F7 i tb te):=by
 refine OJ.of (HI c (gU g a j h) f.pe d.pe hs) λσ H W c E r hl h=>?_
 obtain⟨kvs,l,h⟩:=h;obtain⟨a,b,n,i,k,m,p⟩:=r.WO l;refine⟨W,c,_,r,h,λv H1 d d j q=>⟨.ref a,i,W,c,_,r.same d,q,λv2 H2 d2 c g e=>?_⟩⟩;obtain⟨f,rfl,hz,e⟩:=e;have z:=zx g;subst z;have o:b.length<sizeLine:=by have:=congrArg List.length m;simp at this;lia
 have b:=c _ _ (d _ _ k);obtain⟨h,g⟩:=HJ (k:=f) m (p.same (d.trans c)) (j.same c);obtain⟨f,j⟩:=((r.same d).same c).YY l n i b True.intro (.dk h g);exact⟨a,_,rfl,vR.k b o,W,_,(ML.same (d.trans c)).trans j,f,e⟩
def FZ(i:Nat)(d c:DE):DE:=λb Q=>∃a,b[i]?=some (some (.ob (.dk a)))/\d b λk=>c b λz=>∃b:Key,k=ET b/\Q ((dM a b).getD z)
def GP {x:Str} {a:Pos} (i:Nat) (d:X.A.units+1<cLine) (g:MI X b tb) (e:MI X f tf) (h:X.N[i]?=some x:=by rfl) (c:S1 X.env.scope x:=by first|exact Or.inl rfl|exact Or.inr (Or.inl rfl)|exact Or.inr (Or.inr rfl)) (j:(x==("__debug__" : Str))=false:=by decide)
  (k:(x==("__classdict__" : Str))=false:=by decide) (m:M2 X (.Name x px) "get" a b f pos:=by exact⟨rfl,rfl,rfl,rfl⟩):MI X (.Call (.Attribute (.Name x px) "get" a) [b,f] [] pos) (FZ i tb tf):=by
 refine MI.of (Fh d (gU h c j k) g.pe e.pe m) λσ H W f Q r h=>?_
 obtain⟨g,d,h⟩:=h;obtain⟨a,b,oa,c,k,e,m⟩:=r.WO d;refine⟨.ref a,c,a,rfl,.inl ⟨b,.inl k⟩,W,f,_,r,h,λv H1 d c j q=>⟨W,f,_,r.same c,q,λv2 H2 d2 i h f=>?_⟩⟩;obtain⟨a,rfl,f⟩:=f;have z:=zx j;subst z;refine⟨eA b a,nV.k (i _ _ (c _ _ k)),c.trans i,_,?_,f⟩;cases l:dM g a with
 |none=>rw[xK e m l];exact h
 |some d =>
  obtain⟨v',b,a⟩:=tV e m l;rw[b];exact a.same (c.trans i)
theorem D3{a b:Type}:∀{ks:List a} {kvs:List (a×b)},kvs.map (·.1)=ks->kvs=ks.zip (kvs.map (·.2))
 |[],[],_=>rfl
 |k::ks,p::r,h=>by have b:p.1=k:=(List.cons.inj h).1;have a:=D3 (List.cons.inj h).2;show p::r=(k,p.2)::ks.zip (r.map (·.2));rw[<- a,<- b]
def Rel.Vl{i:Nat}{ks:yaf}{ds:yas}(r:Rel X W H σ ρ)(b:ds.length=ks.length)(e:ρ[i]?=some (some (.ob (.dk ((ks.map Sum.inl).zip ds))))) :
  ∃ a kws,H a=some (.dK kws)/\∀ob,Rel X (W.drop i) (L2.upd H a (.frz ob (.dK kws))) σ (ρ.set i (some (.val (.PN ks ds))))/\ML W H (W.drop i) (L2.upd H a (.frz ob (.dK kws))):=by
 obtain⟨a,kws,m,y,c,w,G⟩:=r.WO e;refine⟨a,kws,c,λob=>?_⟩;have g:jx (HO.dK kws):=True.intro;have o:NT (HO.frz ob (.dK kws)):=True.intro;have lk:((ks.map Sum.inl:List Key).zip ds).map (·.1)=ks.map Sum.inl:=Xo (by rw[Mq,b];exact MS _);have d:((ks.map Sum.inl:List Key).zip ds).map (·.2)=ds:=List.map_snd_zip (by rw[Mq,b];exact MS _);rw[lk]at w;rw[d]at G;have h:i<σ.length:=(Nk.mp y).1;have E:i<ρ.length:=(Nk.mp e).1;have f:∀t,W.bad t a:=λ_=>.inr (.inl ⟨i,m⟩)
 have C:∀b d,MW X.K H b d->MW X.K (L2.upd H a (.frz ob (.dK kws))) b d:=λb d q=>by show L2.upd _ _ _ _=_;rw[aw (gT q c (by intro z;cases z))];exact q
 have B:∀t b d,¬W.bad t b->Oh X.K H t b d->¬W.bad t b/\Oh X.K (L2.upd H a (.frz ob (.dK kws))) t b d:=λt b d n q=>by
  have l:b≠a:=λe=>n (e ▸ f t)
  refine⟨n,?_,λz=>⟨by rw[aw l];exact(q.2 z).1,(q.2 z).2⟩⟩;rcases q.1 with(q|⟨u,q⟩)|q
  ·exact .inl (.inl (by rw[aw l];exact q))
  ·exact .inl (.inr ⟨u,by rw[aw l];exact q⟩)
  ·exact .inr q
 have A:∀b u,Tt u->H b=some u->L2.upd H a (.frz ob (.dK kws)) b=some u:=λb u n q=>by rw[aw (gT q c (by intro z;subst z;exact g.sol n))];exact q
 have s:∀j k b,W.sub σ.length j k=some b->(W.drop i).sub σ.length j k=some b/\∀f,H b=some (.lst f)->L2.upd H a (.frz ob (.dK kws)) b=some (.lst f):=λj k b q=>⟨Own.Qh h k b q,λf z=>by rw[aw (λe=>iu h (r.inj _ _ a (by rw[<- e];exact q) m))];exact z⟩
 have t:∀b u,H b=some u->∃f,L2.upd H a (.frz ob (.dK kws)) b=some f:=λb u q=>by
  by_cases f:b=a
  ·subst f;exact⟨_,aI⟩
  ·exact⟨u,by rw[aw f];exact q⟩
 have z:∀{ds:yas} {vs:yar},af X.K W.bad H ds vs->af X.K (W.drop i).bad (L2.upd H a (.frz ob (.dK kws))) ds vs:=λq=>(af.map C B A _ _ q).My λ_ _=>Own.Na
 refine⟨⟨λj x h=>?_,λj x h=>?_,λj k b f n=>?_,λj b f=>?_,λj b f=>?_,λb p=>let ⟨u,q⟩:=r.bt b p;t b u q,λb p=>let ⟨u,q⟩:=r.st b p;t b u q,r.ent.ins (r.ke i a m) c g o,r.tab.upd o (.inr ⟨_,c,g.ne,g.nt⟩)⟩,(ML.upd m c g o).trans (ML.drop W _ i)⟩
 ·by_cases c:j=i
  ·subst c;rw[O9 E]at h;cases h;have g:(kws.map (·.2)).length=ks.length:=by rw[Mq];have:=congrArg List.length w;simpa using this
   refine⟨.ref a,y,Den.PN (o:=ob) (vs:=kws.map (·.2)) ?_ g (z G)⟩;rw[<- D3 w];exact aI
  ·rw[Ov (Ne.symm c)]at h;obtain⟨w,f,n⟩:=r.val j x h;exact⟨w,f,(Den.map C B A _ _ n).My λ_ _=>Own.Na⟩
 ·by_cases c:j=i
  ·subst c;rw[O9 E]at h;cases h
  ·rw[Ov (Ne.symm c)]at h;obtain⟨b,d,f,n,o,g⟩:=r.own j x h;have l:b≠a:=λe=>c (r.inj j i a (by rw[<- e];exact f) m)
   exact⟨b,d,by show(if j=i then none else W.O j)=_;rw[Mj c];exact f,n,by rw[aw l];exact o,g.map (λ_ _ q=>z q) (s _)⟩
 ·have c:(if j=i then none else W.O j)=some b:=f;have h:(if k=i then none else W.O k)=some b:=n;by_cases g:j=i
  ·rw[Ml g]at c;cases c
  ·by_cases n:k=i
   ·rw[Ml n]at h;cases h
   ·rw[Mj g]at c;rw[Mj n]at h;exact r.inj j k b c h
 ·have c:(if j=i then none else W.O j)=some b:=f;by_cases g:j=i
  ·rw[Ml g]at c;cases c
  ·rw[Mj g]at c;obtain⟨o,n,d,k,h⟩:=r.kn j b c;have l:b≠a:=λe=>g (r.inj j i a (by rw[<- e];exact c) m)
   exact⟨o,n,d,by rw[aw l];exact k,h⟩
 ·have c:(if j=i then none else W.O j)=some b:=f;by_cases g:j=i
  ·rw[Ml g]at c;cases c
  ·rw[Mj g]at c;exact r.ke j b c
def Er(i:Nat)(t:DS):DS:=λE c=>∃(a:yaf) (b:yas),b.length=a.length/\c[i]?=some (some (.ob (.dk ((a.map Sum.inl).zip b))))/\t E (c.set i (some (.val (.PN a b))))
def yF(i:Nat)(h:cP X YZ t):cP X YZ (Er i t):=by intro b s j H W ρ E I r g;obtain⟨ks,ds,d,e,g⟩:=g;obtain⟨a,c,l,k⟩:=r.Vl d e;obtain⟨z,q,n,d,m⟩:=Gb I.MF l;have f:=m;obtain⟨o,_,_,e,_⟩:=f;obtain⟨p,f⟩:=k o;have k:Inv X b j (L2.upd H a (.frz o (.dK c))) s:=tP (ob:=.frz o (.dK c)) (h':=s.heap) (t':=s.toks) I (by rw[l];exact True.intro) (Heap.SameBut.refl _ _) ⟨o,e⟩ ⟨e,z,q,n,d,m⟩;exact Mw (h b s j _ (W.drop i) _ E k p g) λ_ _ z=>z.up f
def Jh(c b:DE):DE:=λa Q=>c a λx=>b a λk=>∃(a:yaf) (b:yas) (n:Int) (d:D),x=.PN a b/\k=.int n/\b.length=a.length/\dM ((a.map Sum.inl:List Key).zip b) (.inl n)=some d/\Q d
def Jp(B:X.A.units+1<cLine)(I:MI X a ta)(G:MI X b tb)(hs:AF b:=by intro _ _;rfl):MI X (.Subscript a b pos) (Jh ta tb):=by
 refine MI.of (HF B I.pe G.pe hs) λσ H W k Q r h=>?_
 refine⟨W,k,_,r,h,λv H1 d s E q=>⟨W,k,_,r.same s,q,λv2 H2 d2 i g e=>?_⟩⟩;obtain⟨d,j,n,L,rfl,rfl,m,lk,e⟩:=e;obtain⟨c,o,kws,q,J,C,p,l,M⟩:=E.U5;have z:=g.M9;subst J z;have y:((d.map Sum.inl:List Key).zip j).map (·.1)=d.map Sum.inl:=Xo (by rw[Mq,m];exact MS _);have x:((d.map Sum.inl:List Key).zip j).map (·.2)=j:=List.map_snd_zip (by rw[Mq,m];exact MS _);have w:kws.map (·.1)=d.map Sum.inl:=by rw[p];exact Xo (by rw[Mq,l];exact MS _)
 have u:kws.map (·.2)=q:=by rw[p];exact List.map_snd_zip (by rw[Mq,l];exact MS _)
 obtain⟨t,A,f⟩:=tV (kws:=kws) (w.trans y.symm) (by rw[x,u];exact M) lk;exact⟨c,t,rfl,.inl ⟨kws,.inl n,.inr ⟨o,i _ _ C⟩,rfl,A.symm⟩,s.trans i,L,f.same i,e⟩
def Cb(te:DE):DA:=λa Q=>te a λx=>∃(b:yaf) (a:yas),x=.PN b a/\b.length<64/\∀a:yaf,a.Perm b->a.Pairwise (·<·)->Q (a.map D.int)
def Ey {p:Pos} (t:X.calm=true) (g:Gl X "sorted") (d:X.mg "sorted" = none) (i:MI X e te)
  (b:starEach [e] X.env=(false,eval e X.env)::starEach [] X.env:=by rfl) (j:(backTo pos (starEach [] X.env)).any (·.1)=false:=by rfl) :
  QS X (.Call (.Name "sorted" p) [e] [] pos) (Cb te):=by
 intro a s f H W c Q I r h;refine Vx (dD I g d boot_sorted ?_ (by decide) (by decide));refine PyProof.Rows.callWith_builtin1 ?_ b j;rw[b];show wpAny _ _ (spliced ((false,eval e X.env)::backTo pos (starEach [] X.env))) _ _ s;refine Calls.spliced_cons (Mw (i a s f H W c _ I r h) λu k g=>?_);obtain⟨v,j,d,i,b,n,e,h,ds,c,lk,q⟩:=g;subst c;obtain⟨c,o,d,vs,m,l,o,g,MP⟩:=e.U5;subst m;cases b;refine Mt ?_;have m:=i.ok.hd t;obtain⟨_,z,e,us,b,p⟩:=i.MF c _ l;have c:d.map (·.1)=h.map Sum.inl:=by rw[o];exact Xo (by rw[Mq,g];exact MS _)
 refine SW.yb m e p (by rw[<- b.keys];exact c) lk λc o b d g u r w m e g3 h l p s=>?_
 have t:b={k with heap:=b.heap,toks:=b.toks}:=by cases b;dsimp only at m e g3 ⊢;subst m e g3;rfl
 have m:L2.Inv X a f j {k with heap:=c,toks:=o}:=i.kept r;have e:j c.objs.size=none:=m.MF.fresh (MS _);have lm:=l.length_eq;have i:L2.Inv X a f (L2.upd j c.objs.size (.lst (g.map V.int))) b:=by rw[t];exact m.laid (t':=b.toks) (h':=b.heap) w (MS _) ⟨by rw[Mq,sizeLine_eq];lia,d,u,jw h,s⟩
 have a:=Inv.Zg i aI;exact⟨c.objs.size,_,_,_,rfl,i,n.trans (av.upd e),n.free e,a,aI,af.apart e a (mD g),q g l p⟩
end
end PD
namespace PZ
open PySem PySem.Spec PyProof.Rows
def WT (h:Heap) (z TI TO a:Addr) (f:Bool):Prop:=h.get? z=some {cls:=.type "zip", dict:=none,data:=.fields #[rawInt a,.bool f,.bool false,.ref TI,.ref TO],slots:=#[]}
section
variable{prog:Program}{w:World}{A:Around}{E:yaa}{s:Shared}{k1 k2:Bool}{z TI TO i1 i2 l1 l2 a:Addr}{f:Bool}{i:Nat}{xs ys:yao}{oa:Obj}
def xo{Q:Bool->Shared->Prop}(hz:WT s.heap z TI TO a f)(b:s.heap.get? a=some oa)(h:∀g,WT g z TI TO a true->Heap.SameBut z s.heap g->Q false {s with heap:=g}):wpAny (model prog w) A (Builtin.SmallTypes.ownedTupleIsFree (.ref z)) Q E s:=by
 unfold Builtin.SmallTypes.ownedTupleIsFree;refine Mh (Qe hz rfl (x:=rawInt a) rfl ?_);show wpAny _ _ (loadIfAlive ((a:Int).toNat) >>= _) _ _ _;rw[Xk];refine Mh (PySem.W.kdx_alive b ?_);simp only[Option.isNone_some,Pf,if_false];refine Mh (Qe hz rfl (x:=.bool f) rfl ?_);cases f with
 |true=>rw[Mj (show¬(Value.bool true != Value.bool true)=true by decide)];exact Mt (h s.heap hz (Heap.SameBut.refl _ _))
 |false=>rw[Ml (show(Value.bool false != Value.bool true)=true from rfl)];exact Mh (V9 hz (by simp) λg (c:WT g z TI TO a true) b=>Mt (h g c b))
def DZ{x y:Value}{Q:yan->Shared->Prop}(D:Ap z TI TO i1 i2)(r:Out z TO i1 i2 l1)(j:Out z TO i1 i2 l2)(hz:WT s.heap z TI TO a f)(d:s.heap.get? a=some oa)(l:IsPair s.heap TI (.ref i1) (.ref i2))(m:Px k1 s.heap i1 l1 i)(B:Px k2 s.heap i2 l2 i)
  (g:OK k1 s.heap l1 xs) (q:OK k2 s.heap l2 ys) (h:xs[i]?=some x) (t:ys[i]?=some y)
  (u:∀h',WT h' z TI TO a true->IsPair h' TI (.ref i1) (.ref i2)->Px k1 h' i1 l1 (i+1)->Px k2 h' i2 l2 (i+1)->IsPair h' s.heap.objs.size x y->(∀c o,c≠z->c≠i1->c≠i2->s.heap.get? c=some o->h'.get? c=some o)->Q (some (.ref s.heap.objs.size)) {s with heap:=h'}):wpAny (model prog w) A (pyNext (.ref z)) Q E s:=by
 have b:s.TypeIs (.ref z) "zip" := ⟨_,hz,rfl⟩;unfold pyNext;refine Mh (VD (UM (name:=Str.ofString "__next__") b F.slot_zip_next (SU F.slot_zip_next b F.entry_zip_next ?_ (F.args_zip_next_1 _))));show wpAny _ _ (field (.ref z) 2 >>= _) _ _ _;refine Mh (Qe hz rfl (x:=.bool false) rfl ?_);show wpAny _ _ (field (.ref z) 3 >>= _) _ _ _;refine Mh (Qe hz rfl (x:=.ref TI) rfl (Mh (SX l rfl ?_)));show wpAny _ _ (Builtin.SmallTypes.ownedTupleIsFree (.ref z) >>= _) _ _ _;refine Mh (xo hz d λd p k=>?_);simp only[Pf,if_false];rw[<- zDi];simp only[List.forIn_cons,Yo];have b:∀c o,c≠z->s.heap.get? c=some o->d.get? c=some o:=λc o n e=>k.extBut c o n e
 refine Mh (Mh (Mh (Qv ?_)));show wpAny _ _ (Builtin.SmallTypes.nextOf (.ref i1) >>= _) _ _ _;refine Mh (sA (s:={s with heap:=d}) (m.of λo e=>b _ o D.a3 e) (g.of λo e=>b _ o r.c1 e) h λh r g=>Mt (Mt ?_));have d:∀c o,c≠z->c≠i1->s.heap.get? c=some o->h.get? c=some o:=λc o n m e=>g.extBut c o m (b c o n e)
 refine Mh (Mh (Qv ?_));show wpAny _ _ (Builtin.SmallTypes.nextOf (.ref i2) >>= _) _ _ _;refine Mh (sA (s:={s with heap:=h}) (B.of λo e=>d _ o D.a4 (Ne.symm D.b1) e) (q.of λo e=>d _ o j.c1 j.c3 e) t λg3 q b=>Mt (Mt ?_));refine Mt ?_;show wpAny _ _ (newTuple [x,y] >>= _) _ _ _;have j:g3.objs.size=s.heap.objs.size:=by rw[b.1,g.1,k.1]
 have h:∀c o,c≠z->c≠i1->c≠i2->s.heap.get? c=some o->g3.get? c=some o:=λc o n m k e=>b.extBut c o k (d c o n m e)
 refine Mh (wpAny_newTuple (Mt ⟨_,rfl,Mt ?_⟩));show Q (some (.ref g3.objs.size)) _;rw[j];refine u _ ?_ ?_ (r.of λo e=>?_) (q.of λo e=>?_) ?_ λc o n m k e=>?_
 ·exact Nd _ (b.extBut _ _ (Ne.symm D.a4) (g.extBut _ _ (Ne.symm D.a3) p))
 ·exact Nd _ (h _ _ D.a1 D.a6 D.a7 l)
 ·exact Nd _ (b.extBut _ _ D.b1 e)
 ·exact Nd _ e
 ·rw[<- j];exact OI _ rfl
 ·exact Nd _ (h c o n m k e)
def D0{Q:yan->Shared->Prop}(j:A.handled=none)(D:Ap z TI TO i1 i2)(p:Out z TO i1 i2 l1)(hz:WT s.heap z TI TO a f)(d:s.heap.get? a=some oa)(e:IsPair s.heap TI (.ref i1) (.ref i2))(l:Px k1 s.heap i1 l1 i)(g:OK k1 s.heap l1 xs)(h:xs[i]?=none)
  (k:∀h',(∀c o,c≠z->c≠i1->s.heap.get? c=some o->h'.get? c=some o)->Q none {s with heap:=h'}):wpAny (model prog w) A (pyNext (.ref z)) Q E s:=by
 have b:s.TypeIs (.ref z) "zip" := ⟨_,hz,rfl⟩;unfold pyNext;refine Mh (VD (UM (name:=Str.ofString "__next__") b F.slot_zip_next (SU F.slot_zip_next b F.entry_zip_next ?_ (F.args_zip_next_1 _))));show wpAny _ _ (field (.ref z) 2 >>= _) _ _ _;refine Mh (Qe hz rfl (x:=.bool false) rfl ?_);show wpAny _ _ (field (.ref z) 3 >>= _) _ _ _;refine Mh (Qe hz rfl (x:=.ref TI) rfl (Mh (SX e rfl ?_)));show wpAny _ _ (Builtin.SmallTypes.ownedTupleIsFree (.ref z) >>= _) _ _ _;refine Mh (xo hz d λb z1 m=>?_);simp only[Pf,if_false];rw[<- zDi];simp only[List.forIn_cons,Yo];have d:∀c o,c≠z->s.heap.get? c=some o->b.get? c=some o:=λc o n e=>m.extBut c o n e
 refine Mh (Mh (Mh (Qv ?_)));show wpAny _ _ (Builtin.SmallTypes.nextOf (.ref i1) >>= _) _ _ _;refine Mh (Bf (s:={s with heap:=b}) j (l.of λo e=>d _ o D.a3 e) (g.of λo e=>d _ o p.c1 e) h λj e l b=>?_);obtain⟨e,g,h⟩:=b;exact Mh (Wf (T := "StopIteration") (b:=true) ⟨e,g,h⟩ isSubtype_stop (Mt (k j λc o n m q=>l c o m (d c o n q))))
def ZL(k1 k2:Bool)(z TI TO i1 i2 l1 l2 S:Addr)(i:Nat)(h:Heap):Prop:=(i=0/\VR k1 k2 z TI TO i1 i2 l1 l2 0 h)∨((∃a f oa,WT h z TI TO a f/\h.get? a=some oa/\a≠S/\a≠z/\a≠TO/\a≠i1/\a≠i2)/\IsPair h TI (.ref i1) (.ref i2)/\Px k1 h i1 l1 i/\Px k2 h i2 l2 i)
def ZL.keep{h':Heap}(x:ZL k1 k2 z TI TO i1 i2 l1 l2 S i h)(k:z≠S)(j:TI≠S)(l:TO≠S)(g:i1≠S)(d:i2≠S)(c:∀b o,b≠S->h.get? b=some o->h'.get? b=some o):ZL k1 k2 z TI TO i1 i2 l1 l2 S i h':=by
 rcases x with⟨e,Z⟩| ⟨⟨a,f,oa,u,t,h,r⟩,p,n,m⟩
 ·obtain⟨q,C,⟨a,b,B⟩,y,x⟩:=Z;exact .inl ⟨e,c _ _ k q,c _ _ j C,⟨a,b,c _ _ l B⟩,y.of λo q=>c _ o g q,x.of λo q=>c _ o d q⟩
 ·exact .inr ⟨⟨a,f,oa,c _ _ k u,c _ _ h t,h,r⟩,c _ _ j p,n.of λo q=>c _ o g q,m.of λo q=>c _ o d q⟩
def ZL.item{x y:Value}{Q:yan->Shared->Prop}(D:Ap z TI TO i1 i2)(C:Out z TO i1 i2 l1)(B:Out z TO i1 i2 l2)(Z:ZL k1 k2 z TI TO i1 i2 l1 l2 S i s.heap)(L:S<s.heap.objs.size)(b:z<s.heap.objs.size/\TO<s.heap.objs.size/\i1<s.heap.objs.size/\i2<s.heap.objs.size)(l:OK k1 s.heap l1 xs)(k:OK k2 s.heap l2 ys)(t:xs[i]?=some x)(r:ys[i]?=some y)
  (u:∀h',ZL k1 k2 z TI TO i1 i2 l1 l2 S (i+1) h'->IsPair h' s.heap.objs.size x y->(∀c o,c≠z->c≠TO->c≠i1->c≠i2->s.heap.get? c=some o->h'.get? c=some o)->Q (some (.ref s.heap.objs.size)) {s with heap:=h'}):wpAny (model prog w) A (pyNext (.ref z)) Q E s:=by
 obtain⟨Q,O,N,M⟩:=b;rcases Z with⟨rfl,Z⟩| ⟨⟨a,f,oa,J,q,I,p,H,n,m⟩,G,y,d⟩
 ·refine Gr D C B Z l k t r λh' j h _ g e x b=>u h' (.inr ⟨⟨s.heap.objs.size,false,_,j,x,RN L,RN Q,RN O,RN N,RN M⟩,h,g,e⟩) x b
 ·refine DZ D C B J q G y d l k t r λh' j h d g e b=>u h' (.inr ⟨⟨a,true,oa,j,b a oa p n m q,I,p,H,n,m⟩,h,d,g⟩) e λc o h _ g d e=>b c o h g d e
def ZL.stop{Q:yan->Shared->Prop}(e:A.handled=none)(D:Ap z TI TO i1 i2)(h:Out z TO i1 i2 l1)(p:Out z TO i1 i2 l2)(Z:ZL k1 k2 z TI TO i1 i2 l1 l2 S i s.heap)(b:OK k1 s.heap l1 xs)(j:OK k2 s.heap l2 ys)(d:xs[i]?=none)
  (g:∀h',(∀c o,c≠z->c≠TO->c≠i1->c≠i2->s.heap.get? c=some o->h'.get? c=some o)->Q none {s with heap:=h'}):wpAny (model prog w) A (pyNext (.ref z)) Q E s:=by
 rcases Z with⟨rfl,Z⟩| ⟨⟨a,f,oa,n,m,m3,m4,m5,m6,m7⟩,l,k,m10⟩
 ·exact Gu e D h p Z b j (.inl d) g
 ·exact D0 e D h n m l k b d λh' h=>g h' λc o d _ b _ e=>h c o d b e
end
structure ZT(h:Heap)(xs ys:yao)(B:Addr)(as:yae):Prop where
 nd:as.Nodup
 ab:∀a∈as,B<=a
 pr:∀(j:Nat) (a:Addr),as[j]?=some a->∃x y,xs[j]?=some x/\ys[j]?=some y/\IsPair h a x y
section
variable{prog:Program}{w:World}{A:Around}{E:yaa}{s:Shared}{k1 k2:Bool}{z TI TO i1 i2 l1 l2 S B:Addr}{xs ys:yao}{R:Result->Shared->Prop}
def LB(j:A.handled=none)(D:Ap z TI TO i1 i2)(t:Out z TO i1 i2 l1)(r:Out z TO i1 i2 l2)(sB:S<B)(e:z<B/\TO<B/\i1<B/\i2<B)(g:z≠S/\TI≠S/\TO≠S/\i1≠S/\i2≠S/\l1≠S/\l2≠S)(hn:xs.size<=sizeLine)(hxy:xs.size=ys.size)(d:Value){h0:Heap}
  (u:∀h' n a c f,(∀b o,b≠S->b≠z->b≠TO->b≠i1->b≠i2->h0.get? b=some o->h'.get? b=some o)->h'.get? S=some {cls:=.type "list", dict:=none,data:=.seq a c,slots:=#[]}->a.toList=f.map Value.ref->f.length=xs.size->ZT h' xs ys B f->R (.ok (.ret d)) {s with heap:=h',toks:=n}) :
  ∀ (k i:Nat) (h:Heap) (n c:Nat) (a:yao) (f:yae),xs.size - i=k->i<=xs.size->ZL k1 k2 z TI TO i1 i2 l1 l2 S i h->OK k1 h l1 xs->OK k2 h l2 ys->B<=h.objs.size->(∀b o,b≠S->b≠z->b≠TO->b≠i1->b≠i2->h0.get? b=some o->h.get? b=some o) →
   h.get? S=some {cls:=.type "list", dict:=none,data:=.seq a c,slots:=#[]}->a.toList=f.map Value.ref->f.length=i->ZT h xs ys B f->codeAny (model prog w) A (.builtin "list.extend.loop" ⟨[.ref S,.ref z,d],[]⟩) R {s with heap:=h,toks:=n}:=by
 obtain⟨n1,n2,n3,n4,n5,n6,n7⟩:=g;have q:∀{b c:Addr},c<B->B<=b->b≠c:=λhc d=>RN (Of hc d)
 obtain⟨Y,U,Q,O⟩:=e;intro k
 induction k with
 |zero =>
  intro i h n c a f hk hi m L J p kp hS N I T;refine UT PySem.F.entry_extend_loop ?_;rw[Around.under_plainId PySem.F.plain_extend_loop _];show wpAny _ A.in1 (pyNext (Value.ref z) >>= _) _ _ _;refine Mh (ZL.stop (s:={s with heap:=h,toks:=n}) (A:=A.in1) j D t r m L J (X6 (by lia)) λh' l=>?_);have big:∀b,B<=b->∀o,h.get? b=some o->h'.get? b=some o:=λb d o e=>l b o (q Y d) (q U d) (q Q d) (q O d) e
  exact Mt (u h' n a c f (λb o M H G C u e=>l b o H G C u (kp b o M H G C u e)) (l S _ (Ne.symm n1) (Ne.symm n3) (Ne.symm n4) (Ne.symm n5) hS) N (by lia)
   ⟨T.nd,T.ab,λj b g=>let ⟨x,y,e1,e2,e3⟩:=T.pr j b g;⟨x,y,e1,e2,big b (T.ab b (NF g)) _ e3⟩⟩)
 |succ k ih =>
  intro i h n c a f hk hi m L J p kp hS N I T;have lt:i<xs.size:=by lia
  have hx:xs[i]?=some xs[i]:=RJ lt;have hy:ys[i]?=some ys[i]:=RJ (by lia);have sz:a.size=i:=by rw[<- Po,N,Mq,I]
  refine UT PySem.F.entry_extend_loop ?_;rw[Around.under_plainId PySem.F.plain_extend_loop _];show wpAny _ A.in1 (pyNext (Value.ref z) >>= _) _ _ _;refine Mh (ZL.item (s:={s with heap:=h,toks:=n}) (S:=S) D t r m (Of sB p) ⟨Of Y p,Of U p,Of Q p,Of O p⟩ L J hx hy λh' hZ' tp l=>?_);dsimp only at tp l ⊢;have Zu:=l S _ (Ne.symm n1) (Ne.symm n3) (Ne.symm n4) (Ne.symm n5) hS;have k:∀b o,b≠S->h'.get? b=some o->(h'.update S (Obj.mapSeq (·.push (Value.ref h.objs.size)))).get? b=some o:=λb o m e=>(Ti _ _ (Ne.symm m)).trans e
  have nS:h.objs.size≠S:=RN (Of sB p);have m:=k _ _ nS tp;show wpAny _ A.in1 (updateSeq S (·.push (Value.ref h.objs.size)) >>= _) _ _ _;refine Mh (Xw Zu rfl (Mt ⟨Xy PySem.F.plain_extend_loop _,ih (i+1) _ n _ (a.push (Value.ref h.objs.size)) (f++[h.objs.size]) (by lia) lt (hZ'.keep n1 n2 n3 n4 n5 k) (L.of λo e=>k _ o n6 (l _ o t.c1 t.c2 t.c3 t.c4 e)) (J.of λo e=>k _ o n7 (l _ o r.c1 r.c2 r.c3 r.c4 e)) ?_
   (λb o M H G C u e=>k b o M (l b o H G C u (kp b o M H G C u e))) (TH _ Zu rfl) (by rw[Array.toList_push,N,OC];rfl) (by rw[Od,I];rfl) ⟨?_,λb d=>?_,λj b g=>?_⟩⟩) (by rw[sz];lia) (by show(a.push (Value.ref h.objs.size)).size<=sizeLine+1;rw[Array.size_push,sz];lia))
  ·exact Sx (V8 p (MV m))
  ·refine List.nodup_append.mpr ⟨T.nd,by simp,λb d c hc=>?_⟩;obtain⟨j,g⟩:=Z8 d;obtain⟨_,_,_,_,e⟩:=T.pr j b g;rw[Oy.mp hc];exact NG (MV e)
  ·rcases Nu.mp d with d|d
   ·exact T.ab b d
   ·rw[Oy.mp d];exact p
  ·rcases Wb j f.length with c|c|c
   ·rw[RK c]at g;obtain⟨x,y,e1,e2,e3⟩:=T.pr j b g;have a:=T.ab b (NF g);exact⟨x,y,e1,e2,k b _ (q sB a) (l b _ (q Y a) (q U a) (q Q a) (q O a) e3)⟩
   ·subst c;have e:h.objs.size=b:=by simpa using g
    subst e;exact⟨xs[i],ys[i],by rw[I];exact hx,by rw[I];exact hy,m⟩
   ·rw[Sr (by rw[Od,Vu];lia)]at g;cases g
end
def BI:typeLookup (.type "zip") "__len__" = pure none:=by rw[typeLookup_type,Z5];kernel_rfl
def y7:typeLookup (.type "zip") "__length_hint__" = pure none:=by rw[typeLookup_type,Z5];kernel_rfl
section
variable{prog:Program}{w:World}{A:Around}{E:yaa}{s:Shared}{k1 k2:Bool}{z TI TO i1 i2 l1 l2 S B:Addr}{xs ys:yao}
def Px.lt(x:Px k h it a i):it<h.objs.size:=let ⟨_,e,_⟩:=x.obj;MV e
def OK.lt{xs:yao}(x:OK k h a xs):a<h.objs.size:=let ⟨_,_,e,_⟩:=x.obj;MV e
def Iz{R:Result->Shared->Prop}(u:A.handled=none)(D:Ap z TI TO i1 i2)(H:Out z TO i1 i2 l1)(G:Out z TO i1 i2 l2)(Z:VR k1 k2 z TI TO i1 i2 l1 l2 0 s.heap)(r:OK k1 s.heap l1 xs)(q:OK k2 s.heap l2 ys)(t:xs.size<=sizeLine)(h:xs.size=ys.size)(p:S<B)(y:B<=s.heap.objs.size)(n:z<B/\TO<B/\i1<B/\i2<B)
  (a:z≠S/\TI≠S/\TO≠S/\i1≠S/\i2≠S/\l1≠S/\l2≠S) (C:Nat) (k:s.heap.get? S=some {cls:=.type "list", data:=.seq #[] C})
  (x:∀h' m d c j,(∀b o,b≠S->b≠z->b≠TO->b≠i1->b≠i2->s.heap.get? b=some o->h'.get? b=some o)->h'.get? S=some {cls:=.type "list", dict:=none,data:=.seq d c,slots:=#[]}->d.toList=j.map Value.ref->j.length=xs.size->ZT h' xs ys B j->R (.ok (.ret .none)) {s with heap:=h',toks:=m}) :
  wpAny (model prog w) A.in1 (Builtin.List.listExtendWith (.ref S) (.ref z) .none) (λi g=>match i with|.done f=>R (.ok f) g|.again l=>l.quiet=true/\codeAny (model prog w) A l R g) (λe g=>R (.error e) g) s:=by
 have hz:=Z.z;have c:s.TypeIs (.ref z) "zip" := ⟨_,hz,rfl⟩;unfold Builtin.List.listExtendWith;refine Mh (wpAny_typeOf (T := "zip") c ?_);have d:Builtin.List.listSameRef (.ref S) (.ref z)=false:=by simp[Builtin.List.listSameRef,Ne.symm a.1]
 simp only[d,show(Value.type "zip" == Value.type "list")=false by decide,show(Value.type "zip" == Value.type "tuple")=false by decide,Bool.or_false,Pf,if_false];refine Mh (wpAny_pyIter_zip hz (Mh (Qv ?_)));unfold Builtin.List.listLengthHint;refine Mh (Xv c BI ?_);show wpAny _ A.in1 (specialOf (Value.ref z) (Str.ofString "__length_hint__") >>= _) _ _ _;refine Mh (Xv c y7 (Mt ?_));show wpAny _ A.in1 (rule "list.extend.makes-room" >>= λ_=>Builtin.List.listTouch (.ref S) >>= λ_=>again (.builtin "list.extend.loop" ⟨[.ref S,.ref z,.none],[]⟩)) _ _ _;refine Mh (wpAny_rule (Mh ?_));show wpAny _ A.in1 (updateSeq S (·.push .none) >>= λ_=>updateSeq S (·.pop)) _ _ _;have c:=TH (Obj.mapSeq (·.push Value.none)) k rfl;refine Mh (Xw k rfl (Xw (hz:=by seq_fits) c rfl (Mt ⟨Xy PySem.F.plain_extend_loop _,?_⟩)));have g3:=TH (Obj.mapSeq (·.pop)) c rfl;have c:∀b o,b≠S->s.heap.get? b=some o->((s.heap.update S (Obj.mapSeq (·.push Value.none))).update S (Obj.mapSeq (·.pop))).get? b=some o:=λb o m e=>(Ti _ _ (Ne.symm m)).trans ((Ti _ _ (Ne.symm m)).trans e)
 refine LB (s:=s) (h0:=s.heap) u D H G p n a t h .none x xs.size 0 _ _ _ _ [] (Nat.sub_zero _) (N9 _) (ZL.keep (.inl ⟨rfl,Z⟩) a.1 a.2.1 a.2.2.1 a.2.2.2.1 a.2.2.2.2.1 c) (r.of λo e=>c _ o a.2.2.2.2.2.1 e) (q.of λo e=>c _ o a.2.2.2.2.2.2 e) ?_ (λb o m _ _ _ _ e=>c b o m e) g3 rfl rfl ⟨List.nodup_nil,λ_ h=>(by cases h),λj a h=>by simp at h⟩;rw[Heap.size_update,Heap.size_update];exact y
def LA{Q:yaa}(N:A.handled=none)(D:Ap z TI TO i1 i2)(U:Out z TO i1 i2 l1)(T:Out z TO i1 i2 l2)(Z:VR k1 k2 z TI TO i1 i2 l1 l2 0 s.heap)(G:OK k1 s.heap l1 xs)(C:OK k2 s.heap l2 ys)(M:xs.size<=sizeLine)(l:xs.size=ys.size)
  (O:∀h' j d c g,(∀b o,b≠z->b≠TO->b≠i1->b≠i2->s.heap.get? b=some o->h'.get? b=some o)->h'.get? s.heap.objs.size=some {cls:=.type "list", dict:=none,data:=.seq d c,slots:=#[]}->d.toList=g.map Value.ref->g.length=xs.size->ZT h' xs ys (s.heap.objs.size+1) g->Q (.ref s.heap.objs.size) {s with heap:=h',toks:=j}) :
  wpAny (model prog w) A (call (.type "list") [.ref z]) Q E s:=by
 refine callType_codes (Q₁:=λa e=>a=.ref s.heap.objs.size/\e={s with heap:=s.heap.push {cls:=.type "list", data:=.seq #[]} }) PySem.F.called_list (PySem.F.typeCall_list_1 _) PySem.F.entry_list_init (code_list_new _ ⟨rfl,rfl⟩) λa e a=>?_
 obtain⟨rfl,rfl⟩:=a;have i:(s.heap.push {cls:=.type "list", data:=.seq #[]}).get? s.heap.objs.size=some {cls:=.type "list", data:=.seq #[]}:=OI _ rfl;have L:∀b o,s.heap.get? b=some o->(s.heap.push {cls:=.type "list", data:=.seq #[]}).get? b=some o:=λb o e=>Nd _ e
 have a:z<s.heap.objs.size/\TI<s.heap.objs.size/\TO<s.heap.objs.size/\i1<s.heap.objs.size/\i2<s.heap.objs.size/\l1<s.heap.objs.size/\l2<s.heap.objs.size:=by obtain⟨k,y,⟨_,_,x⟩,p,n⟩:=Z;exact⟨MV k,MV y,MV x,p.lt,n.lt,G.lt,C.lt⟩
 obtain⟨u,J,t,r,q,I,H⟩:=a;have a:∀{b:Addr},b<s.heap.objs.size->b<s.heap.objs.size+1:=λh=>UP h
 refine⟨⟨_,i,rfl⟩,PySem.F.args_list_init_2 _ _,?_⟩;show wpAny _ _ (do let old←Builtin.List.listItems (Value.ref s.heap.objs.size);Builtin.List.listUpdate (Value.ref s.heap.objs.size) (λ_=>#[]);letGo old.toList.reverse;Builtin.List.listExtendWith (Value.ref s.heap.objs.size) (.ref z) .none) _ _ _;refine Mh ?_;unfold Builtin.List.listItems;refine Mh (SX i rfl (Mt ?_));show wpAny _ _ (updateSeq s.heap.objs.size (λ_=>#[]) >>= λ_=>letGo (#[]:yao).toList.reverse >>= λ_=>Builtin.List.listExtendWith (Value.ref s.heap.objs.size) (.ref z) .none) _ _ _;have h:=TH (Obj.mapSeq (λ_=>(#[]:yao))) i rfl;have f:∀b o,b≠s.heap.objs.size->s.heap.get? b=some o->((s.heap.push {cls:=.type "list", data:=.seq #[]}).update s.heap.objs.size (Obj.mapSeq (λ_=>(#[]:yao)))).get? b=some o:=λb o m e=>(Ti _ _ (Ne.symm m)).trans (L b o e)
 refine Mh (Xw i rfl (Mh (wpAny_letGo ?_)));refine Iz (A:=A.in1) (B:=s.heap.objs.size+1) (k1:=k1) (k2:=k2) (TI:=TI) (TO:=TO) (l1:=l1) (l2:=l2) (xs:=xs) (ys:=ys) N D U T ?_ (G.of λo e=>f _ o (NG I) e) (C.of λo e=>f _ o (NG H) e) M l (QL _) ?_ ⟨a u,a t,a r,a q⟩ ⟨NG u,NG J,NG t,NG r,NG q,NG I,NG H⟩ _ h λh' j d c g m i l h T=>?_
 ·obtain⟨k,y,⟨a,b,x⟩,p,n⟩:=Z;exact⟨f _ _ (NG u) k,f _ _ (NG J) y,⟨a,b,f _ _ (NG t) x⟩,p.of λo e=>f _ o (NG r) e,n.of λo e=>f _ o (NG q) e⟩
 ·show _<=((s.heap.push {cls:=.type "list", data:=.seq #[]}).update _ _).objs.size;rw[Heap.size_update,TM];exact MS _
 ·exact⟨rfl,O h' j d c g (λb o g d c a e=>m b o (NG (MV e)) g d c a (f b o (NG (MV e)) e)) i l h T⟩
end
end PZ
namespace PD
open PySem PySem.Spec PyProof.Rows L2 PZ
def eU(H:Hp)(n:Addr)(N:List (Addr×HO)):Hp:=λb=>if b<n then H b else(N.find? λp=>decide (p.1=b)).map (·.2)
def l4{n b:Addr}(h:b<n):eU H n N b=H b:=Ml h
theorem zD{b:Addr}{u:HO}:∀{N:List (Addr×HO)},(N.map (·.1)).Nodup->(b,u)∈N->(N.find? λp=>decide (p.1=b))=some (b,u)
 |[],_,m=>by cases m
 |p::r,a,m=>by
  rw[MN,R0]at a;rw[Uv];rcases MD.mp m with e|m
  ·rw[<- e,R3 rfl]
  ·rw[SV λe=>a.1 (by rw[e];exact M4.mpr ⟨_,m,rfl⟩)];exact zD a.2 m
def zK{n b:Addr}{u:HO}{N:List (Addr×HO)}(a:(N.map (·.1)).Nodup)(h:n<=b)(m:(b,u)∈N):eU H n N b=some u:=by unfold eU;rw[Mj (Sy.mpr h),zD a m];rfl
def xw{n b:Addr}{u:HO}(h:¬b<n)(e:eU H n N b=some u):(b,u)∈N:=by
 unfold eU at e;rw[Mj h]at e;obtain⟨p,a,rfl⟩:=SN.mp e;have z:p.1=b:=by simpa using List.find?_some a
 rw[<- z];exact List.mem_of_find?_eq_some a
section
variable{X:Cx}{pins:yab}{σ:St}{H:Hp}{s:Shared}
theorem Inv.eU{h':Heap}{t':Nat}{N:List (Addr×HO)}(I:Inv X pins σ H s)(k:∀b u,s.heap.get? b=some u->h'.get? b=some u)(d:∀b u,(b,u)∈N->bN X.prog X.w (PD.eU H s.heap.objs.size N) h' b u) :
  Inv X pins σ (PD.eU H s.heap.objs.size N) {s with heap:=h',toks:=t'}:=by
 have lt:∀{b u},H b=some u->PD.eU H s.heap.objs.size N b=some u:=fun {b u} e=>by rw[l4 (I.MF.lt e)];exact e
 refine L2.Inv.un I ⟨λb a q _ _ _=>k b a q,λb a q _ _ _=>⟨a.slots,k b a q⟩,λb a q n _=>by rw[l4 (MV q)];exact n,λb a q _=>⟨a,k b a q⟩,λb a q=>lt q,λb o u q=>lt q,λb ps q=>⟨#[],by rw[lt q];simp⟩⟩ λb u e=>?_
 by_cases h:b<s.heap.objs.size
 ·rw[l4 h]at e;exact(I.MF b u e).Qf (λc v _ q=>k c v q) (λc q=>lt q) λc a q=>lt q
 ·exact d b u (xw h e)
def Dq{N:List (Addr×HO)}(I:Inv X pins σ H s)(f:∀b u,(b,u)∈N->∀ps,u ≠ .Rh ps):av H (PD.eU H s.heap.objs.size N):=by
 have d:∀{b u},H b=some u->PD.eU H s.heap.objs.size N b=some u:=fun {b u} e=>by rw[l4 (I.MF.lt e)];exact e
 refine⟨λb o q _=>d q,λb ps q=>⟨#[],by rw[d q];simp⟩,λT P ps e=>?_⟩;by_cases h:P<s.heap.objs.size
 ·rw[l4 h]at e;obtain⟨a,b⟩:=T P ps e;exact⟨a,λa g q=>let ⟨c,e1,e2⟩:=b a g q;⟨c,e1,d e2⟩⟩
 ·exact absurd rfl (f P _ (xw h e) ps)
end
theorem vh:∀a:yae,Vals (a.map V.ref) (a.map Value.ref)
 |[]=>.nil
 |_::r=>.cons rfl (vh r)
theorem af.of_get{K:yac}{P:yak}{H:Hp}:∀{ds:yas} {vs:yar},ds.length=vs.length->(∀(j:Nat) d v,ds[j]?=some d->vs[j]?=some v->Den K P H d v)->af K P H ds vs
 |[],[],_,_=>af.nil
 |d::ds,v::vs,h,k=>af.cons (k 0 d v rfl rfl) (af.of_get (Nat.succ.inj h) λj d a c b=>k (j+1) d a c b)
section
variable{X:Cx}{pos:Pos}
def wN(b:DA):DA:=λa R=>b a λg=>∃d c f e a b,g=[d,c]/\gB d=some (f,a)/\gB c=some (e,b)/\a.length=b.length/\a.length<=1000/\R (List.zipWith (λx y=>D.tup [x,y]) a b)
def AZ {a b:Expr} {ta:DA} {p A L:Pos} (hc:X.calm=true) (hg:Gl X "list") (hm:X.mg "list" = none) (hg2:Gl X "zip") (hm2:X.mg "zip" = none) (ha:Rk X [a,b] ta)
  (Pn:starEach [.Call (.Name "zip" A) [a,b] [] L] X.env=(false,eval (.Call (.Name "zip" A) [a,b] [] L) X.env)::starEach [] X.env:=by rfl) (N6:(backTo pos (starEach [] X.env)).any (·.1)=false:=by rfl)
  (hs:starEach [a,b] X.env=(false,eval a X.env)::starEach [b] X.env:=by rfl) (TY:(backTo L (starEach [b] X.env)).any (·.1)=false:=by rfl) :
  QS X (.Call (.Name "list" p) [.Call (.Name "zip" A) [a,b] [] L] [] pos) (wN ta):=by
 intro w s σ H W ρ Q I r h;refine Vx (dD I hg hm boot_list ?_ (by decide) (by decide));refine PyProof.Rows.callWith_type1 ?_ Pn N6;rw[Pn];show wpAny _ _ (spliced ((false,eval (.Call (.Name "zip" A) [a,b] [] L) X.env)::backTo pos (starEach [] X.env))) _ _ s;refine Calls.spliced_cons ?_;refine Call_ (dD I hg2 hm2 boot_zip (PyProof.Rows.callWith_type1 (Mw (ha L w s σ H W ρ _ I r h) λus f Mx=>?_) hs TY));obtain⟨vs,B,ds,M,r1,e1,hd,q1⟩:=Mx;obtain⟨d1,d2,k1,k2,xs,ys,e,g1,g2,lxy,l1000,q⟩:=q1;subst e;obtain⟨v1,v2,rfl,Rl,hd2⟩:=pJ hd;obtain⟨l1,J,e2,sq1,XQ,_⟩:=Rl.seq g1;obtain⟨l2,G,e3,sq2,XR,_⟩:=hd2.seq g2;subst e2 e3;cases r1 with
 |cons ra rr =>
  cases rr with
  |cons rb rr =>
   cases rr;cases ra;cases rb;obtain⟨us1,rv1,p1⟩:=sq1.list M;obtain⟨us2,rv2,A⟩:=sq2.list M;have n1:=XQ.len;have n2:=XR.len;have m1:=rv1.length;have m2:=rv2.length;refine Gq p1 A λg Z kp=>?_
   refine Mt ?_;have Dz:Ap (f.heap.objs.size+4) (f.heap.objs.size+2) (f.heap.objs.size+3) f.heap.objs.size (f.heap.objs.size+1):=by constructor<;>simp
   have E:∀{c:Addr} (j:Nat),c<f.heap.objs.size->c≠f.heap.objs.size+j:=λj h=>NG (Of h (Vz _ j))
   have O:∀{l:Addr},l<f.heap.objs.size->Out (f.heap.objs.size+4) (f.heap.objs.size+3) f.heap.objs.size (f.heap.objs.size+1) l:=λh=>⟨E 4 h,E 3 h,NG h,E 1 h⟩
   refine LA (s:={f with heap:=g}) (M.ok.hd hc) Dz (O p1.lt) (O A.lt) Z (p1.of λo e=>kp _ o e) (A.of λo e=>kp _ o e) (by rw[Og,sizeLine_eq];lia) (by rw[Og,Og];lia) λh2 tk acc c k Pd hD ea la T=>?_
   have K:∀b o,f.heap.get? b=some o->h2.get? b=some o:=λb o e=>Pd b o (E 4 (MV e)) (E 3 (MV e)) (NG (MV e)) (E 1 (MV e)) (kp b o e)
   have zl:f.heap.objs.size<g.objs.size:=V8 (Vz _ 4) (MV Z.z);dsimp only at hD T;rw[Og]at la;have nD:g.objs.size∉k:=λz=>absurd (T.ab _ z) (Nat.not_le.mpr (QL _))
   let N:List (Addr×HO):=(g.objs.size,.lst (k.map V.ref))::(k.zip (J.zip G)).map λt=>(t.1,.tup [t.2.1,t.2.2])
   have hN:N.map (·.1)=g.objs.size::k:=by show g.objs.size::((k.zip (J.zip G)).map λt=>(t.1,HO.tup [t.2.1,t.2.2])).map (·.1)=_;rw[NY];congr 1;exact Xo (by rw[Xu];lia)
   have ndN:(N.map (·.1)).Nodup:=by rw[hN];exact R0.mpr ⟨nD,T.nd⟩
   have get:∀{j:Nat} {b:Addr},k[j]?=some b->∃Y U x y,J[j]?=some Y/\G[j]?=some U/\RelV Y x/\RelV U y/\IsPair h2 b x y/\(b,HO.tup [Y,U])∈N:=fun {j b} C=>by obtain⟨lj,_⟩:=Nk.mp C;obtain⟨x,y,hx,hy,hp⟩:=T.pr j b C;have g1:J[j]?=some (J[j]'(by lia)):=M5 _;have g2:G[j]?=some (G[j]'(by lia)):=M5 _;obtain⟨x',ex,rx⟩:=rv1.get g1;obtain⟨y',ey,ry⟩:=rv2.get g2;rw[List.getElem?_toArray,ex]at hx;rw[List.getElem?_toArray,ey]at hy;cases hx;cases hy;refine⟨_,_,x,y,g1,g2,rx,ry,hp,Ni _ (M4.mpr ⟨(b,J[j]'(by lia),G[j]'(by lia)),?_,rfl⟩)⟩;refine NF (i:=j) ?_;rw[ZX];exact⟨C,by rw[ZX];exact⟨g1,g2⟩⟩
   have ok:∀b u,(b,u)∈N->bN X.prog X.w (PD.eU B f.heap.objs.size N) h2 b u:=λb u m=>by
    rcases MD.mp m with e|m
    ·cases e;exact⟨by rw[Mq,sizeLine_eq];lia,k.map Value.ref,c,vh k,by rw[<- ea];simpa using hD⟩
    ·obtain⟨t,tm,e⟩:=M4.mp m;cases e;obtain⟨j,C⟩:=Z8 tm;rw[ZX]at C;obtain⟨Y,U,x,y,e1,e2,rx,ry,hp,_⟩:=get C.1;have d:=C.2;rw[ZX,e1,e2]at d;obtain⟨i,n⟩:=d;cases i;cases n;exact⟨by rw[sizeLine_eq];show 2<=16777216;decide,[x,y],.cons rx (.cons ry .nil),⟨_,hp,rfl,_,rfl⟩⟩
   have I2:Inv X w σ (PD.eU B f.heap.objs.size N) {f with heap:=h2,toks:=tk}:=Inv.eU M K ok;have sm:av B (PD.eU B f.heap.objs.size N):=Dq M λb u m ps e=>by
    rcases MD.mp m with z|m
    ·cases z;cases e
    ·obtain⟨t,_,z⟩:=M4.mp m;cases z;cases e
   have eD:PD.eU B f.heap.objs.size N g.objs.size=some (.lst (k.map V.ref)):=zK ndN (Sx zl) OB;have fD:B g.objs.size=none:=M.MF.fresh (Sx zl);refine⟨g.objs.size,_,_,_,rfl,I2,e1.trans sm,e1.free fD,Inv.Zg I2 eD,eD,af.of_get (by rw[List.length_zipWith,Mq];lia) λj d v hdj hvj=>?_,q⟩;rw[Nj]at hvj;obtain⟨b,hb,rfl⟩:=SN.mp hvj;obtain⟨Y,U,x,y,e1',e2',rx,ry,hp,mN⟩:=get hb;obtain⟨dx,gx,Qx⟩:=XQ.bA e1';obtain⟨dy,gy,RA⟩:=XR.bA e2';rw[List.getElem?_zipWith,gx,gy]at hdj;cases hdj;have hbn:f.heap.objs.size<=b:=Pa (Sx (UP zl)) (T.ab b (NF hb));have P':∀{d:D} {v:V},Den X.K W.bad B d v->Den X.K (λt b=>W.bad t b∨b=g.objs.size) (PD.eU B f.heap.objs.size N) d v:=λhq=>Den.map (λ_ _ z=>MW.same sm z) (λt a' vs' np z=>⟨λz'=>z'.elim np λz'=>by
    subst z';rcases z.1 with(i|⟨o,i⟩)|⟨o,Mp,n,i,_⟩
    ·rw[fD]at i;cases i
    ·rw[fD]at i;cases i
    ·exact absurd (Inv.Zg I2 eD) (by rw[i];simp),z.same sm⟩) (λa' o' n z=>sm.kp a' o' z n.nt) _ _ hq
   exact Den.tup (MW.of (zK ndN hbn mN)) (af.cons (P' Qx) (af.one (P' RA)))
end
open PySem PySem.Spec PyProof.Rows L2
section
variable{X:Cx}{pos:Pos}
def F1(t:DA):DA:=λa Q=>t a λa=>a.length<=sizeLine/\Q a
def GQ(h:Rk X es t):QS X (.List es pos) (F1 t):=by intro a s b H W c Q I r d;refine wpAny_List_spliced (Mw (h pos a s b H W c _ I r d) λj c b=>?_);obtain⟨f,e,k,a,g,i,h,z,q⟩:=b;rw[<- h.len]at z;refine⟨by rw[<- g.length];exact z,?_⟩;have d:e c.heap.objs.size=none:=a.MF.fresh (MS _);have l:=a.laid (o:=.lst f) (t':=c.toks) (λb u e=>Nd _ e) (MS _) ⟨z,j,0,g,OI _ rfl⟩;exact⟨c.heap.objs.size,f,_,k,rfl,l,i.trans (av.upd d),i.free d,Inv.NA a,aI,af.apart d (Inv.NA a) h,q⟩
def FY(i:Nat)(c te:DE):DS:=λE a=>∃b,a[i]?=some (some (.ob (.ll b)))/\c a λd=>∃(k:Int) (m:Nat) (c:yas),d=.int k/\ixN b.length k=some m/\b[m]?=some (.own c)/\te a λd=>c.length<sizeLine/\E.nx (a.set i (some (.ob (.ll (b.set m (.own (c++[d])))))))
set_option tactic.hygienic true in
def zA{x:Str}{c:Pos}(i:Nat)(n:MI X b tb)(T:MI X e te)(Q:X.N[i]?=some x:=by rfl)(M:S1 X.env.scope x:=by first|exact Or.inl rfl|exact Or.inr (Or.inl rfl)|exact Or.inr (Or.inr rfl))
  (U:(x==("__debug__" : Str))=false:=by decide) (Pc:(x==("__classdict__" : Str))=false:=by decide) (Zn:AF b:=by intro _ _;rfl)
  (NK:attributeBase (.Subscript (.Name x px) b pp) "append" X.env (eval (.Subscript (.Name x px) b pp) X.env)=eval (.Subscript (.Name x px) b pp) X.env:=by rfl)
  (R6:((backTo cpos (starEach [e] X.env)).all (λx=>!x.1) && (backToKw cpos (keywordEach [] X.env)).all (λx=>x.1.isSome) && decide ([e].length+([]:List Keyword).length+(if([]:List Keyword).isEmpty then 0 else 1)<30))=true:=by rfl)
  (NL:(c.endLine==cpos.line)=true:=by rfl) (B:starEach [e] X.env=(false,eval e X.env)::starEach [] X.env:=by rfl) (O0:(backTo cpos (starEach [] X.env)).any (·.1)=false:=by rfl)
  (hs:swapsWith (.Call (.Attribute (.Subscript (.Name x px) b pp) "append" c) [e] [] cpos) none pos.line X.env=pure false:=by rfl) :
  OJ X (.Expr (.Call (.Attribute (.Subscript (.Name x px) b pp) "append" c) [e] [] cpos) pos) (FY i tb te):=by
 refine OJ.of (l9 (pos:=pos) (Bp PySem.F.plainAttrs_list PySem.F.slot_list_append PySem.F.type_list_append oH (Gh zI (gU Q M U Pc) n.pe Zn) (j9 T.pe oM B) NK R6 NL B O0) hs) λσ H W p E r hl h=>?_
 obtain⟨xs,y,h⟩:=h;obtain⟨a,o,oa,J,Y,N⟩:=r.own i _ y;cases N with
 |ll C =>
 rename_i o;refine⟨.ref a,J,W,p,_,r,h,λv1 H1 d1 f Rl j=>?_⟩;obtain⟨k,m,ds,rfl,O,u,j⟩:=j;have G:=Rl.M9;subst G;obtain⟨m,s,I,t,w,A⟩:=C.get u;rw[QM]at t;have l:Nx o k=some (.ref m):=by unfold Nx;rw[C.len,O];exact I
 refine⟨a,o,k,.ref m,rfl,rfl,SqL.of (f _ _ Y),l,.inl ⟨rfl,s,SqL.of (f _ _ w)⟩,W,p,_,r.same f,j,λv H' d g QD q=>?_⟩;obtain⟨z,q⟩:=q;have d:=g _ _ (f _ _ w);refine⟨m,s,v,rfl,rfl,d,by rw[A.len];exact z,?_⟩;obtain⟨L,f7⟩:=((r.same f).same g).Zj y u t d (af.append (A.same (f.trans g)) (af.one QD));exact⟨W,_,(ML.same (f.trans g)).trans f7,L,q⟩
def vI:LI->D
 |.own a=>.lst true a
 |.val d=>d
def Own.Pj(W:Own)(n i:Nat):Own:=⟨W.B,λj=>if j % n=i then none else W.O j,W.S⟩
def Own.Oj{W:Own}{b:Addr}(h:(W.Pj n i).O j=some b):¬j % n=i/\W.O j=some b:=by
 have a:(if j % n=i then none else W.O j)=some b:=h;by_cases z:j % n=i
 ·rw[Ml z]at a;cases a
 ·rw[Mj z]at a;exact⟨z,a⟩
def Own.OL{W:Own}(t:Bool)(b:Addr)(z:(W.Pj n i).bad t b):W.bad t b:=by
 rcases z with z|⟨j,z⟩| z
 ·exact .inl z
 ·exact .inr (.inl ⟨j,(Own.Oj z).2⟩)
 ·exact .inr (.inr z)
theorem ML.Pj(W:Own)(H:Hp)(n i:Nat):ML W H (W.Pj n i) H:=⟨rfl,rfl,λ_ _ _ h _=>h,λj a h=>.inl ⟨j,(Own.Oj h).2⟩,λ_ ps h=>⟨#[],by rw[h];simp⟩,id⟩
def Rel.Vm{i:Nat}(r:Rel X W H σ ρ)(e:ρ[i]?=some (some (.ob (.ll xs)))):Rel X (W.Pj σ.length i) H σ (ρ.set i (some (.val (.lst true (xs.map vI))))):=by
 obtain⟨a,o,n,m,w,b⟩:=r.own i _ e;cases b with
 |ll A =>
 have h:i<σ.length:=(Nk.mp m).1;have p:i<ρ.length:=(Nk.mp e).1;have s:i % σ.length=i:=Pm h;have o:∀j b t,j % σ.length=i->W.O j=some b->¬(W.Pj σ.length i).bad t b:=λj b t e d z=>by
  rcases z with z|⟨l,z⟩| ⟨_,z⟩
  ·exact(r.kn j b d).2.1.1 z
  ·obtain⟨c,g⟩:=Own.Oj z;exact c (by rw[r.inj l j b g d];exact e)
  ·exact(r.kn j b d).2.1.2 z
 have l:∀{k:Nat} {d:List LI} {f:yar},aA X.K W.bad H (W.sub σ.length i) k d f->af X.K (W.Pj σ.length i).bad H (d.map vI) f:=by
  intro k d
  induction d generalizing k with
  |nil=>intro f z;simp only[aA]at z;subst z;exact af.nil
  |cons y d ih =>
   intro f z;cases y with
   |own es =>
    simp only[aA]at z;obtain⟨b,us,u,rfl,c,g,q,d⟩:=z;exact af.cons (Den.lst (o _ b true (mq h) c) (.new g (r.kn _ b c).1) (q.My Own.OL)) (ih d)
   |val d =>
    simp only[aA]at z;obtain⟨v,u,rfl,c,g⟩:=z;exact af.cons (c.My Own.OL) (ih g)
 refine⟨λj d h=>?_,λj x h=>?_,λj k b g c=>r.inj j k b (Own.Oj g).2 (Own.Oj c).2,λj b h=>r.kn j b (Own.Oj h).2,λj b h=>r.ke j b (Own.Oj h).2,r.bt,r.st,r.ent,r.tab⟩
 ·by_cases e:j=i
  ·subst e;rw[O9 p]at h;cases h;exact⟨.ref a,m,Den.lst (o j a true s n) (.new w (r.kn j a n).1) (l A)⟩
  ·rw[Ov (Ne.symm e)]at h;obtain⟨w,g,c⟩:=r.val j d h;exact⟨w,g,c.My Own.OL⟩
 ·by_cases e:j=i
  ·subst e;rw[O9 p]at h;cases h
  ·rw[Ov (Ne.symm e)]at h;obtain⟨b,f,g,c,l,d⟩:=r.own j x h;have a:j<σ.length:=(Nk.mp c).1;refine⟨b,f,?_,c,l,d.My Own.OL λk c q=>?_⟩
   ·show(if j % σ.length=i then none else W.O j)=_;rw[Mj (by rw[Pm a];exact e)];exact g
   ·show(if OU σ.length j k % σ.length=i then none else W.O (OU σ.length j k))=_;rw[Mj (by rw[mq a];exact e)];exact q
def wM(i:Nat)(t:DS):DS:=λE a=>∃b,a[i]?=some (some (.ob (.ll b)))/\t E (a.set i (some (.val (.lst true (b.map vI)))))
def yG(i:Nat)(h:cP X YZ t):cP X YZ (wM i t):=by intro a s b H W ρ E I r c;obtain⟨xs,e,c⟩:=c;exact Mw (h a s b H (W.Pj b.length i) _ E I (r.Vm e) c) λ_ _ z=>z.up (ML.Pj W H b.length i)
end
section
variable{X:Cx}
def KD (K:yac) (i:Nat):TS:=Gp (KC K "list" Dk (tOp (Kn K) (FG i) (tUn (rU λi=>.int (-i)) (tC (.int 1)))))
def Kl {x:Str} {b a pos:Pos} (i:Nat) (d:X.N[i]?=some x:=by rfl) (c:S1 X.env.scope x:=by first|exact Or.inl rfl|exact Or.inr (Or.inl rfl)|exact Or.inr (Or.inr rfl)) (e:(x==("__debug__" : Str))=false:=by decide) (f:(x==("__classdict__" : Str))=false:=by decide)
  (h:attributeBase (.Subscript (.Name x px) (.UnaryOp .USub (.Constant (.int 1) j pk) pu) ps) "clear" X.env (eval (.Subscript (.Name x px) (.UnaryOp .USub (.Constant (.int 1) j pk) pu) ps) X.env)=eval (.Subscript (.Name x px) (.UnaryOp .USub (.Constant (.int 1) j pk) pu) ps) X.env:=by rfl)
  (g:(b.endLine==a.line)=true:=by rfl) (hs:swapsWith (.Call (.Attribute (.Subscript (.Name x px) (.UnaryOp .USub (.Constant (.int 1) j pk) pu) ps) "clear" b) [] [] a) none pos.line X.env=pure false:=by rfl) :
  PS X (.Expr (.Call (.Attribute (.Subscript (.Name x px) (.UnaryOp .USub (.Constant (.int 1) j pk) pu) ps) "clear" b) [] [] a) pos) (KD X.K i) :=
 l9 (pos:=pos) (C9 PySem.F.plainAttrs_list PySem.F.slot_list_clear PySem.F.type_list_clear E2 (Gh CI (gU d c e f) (Ln DR Dd) (by intro _ _;rfl)) h g) hs
def iB(ds:yas)(d:D):Prop:=∀(K:yac) (P c:yak) (H:Hp) (b:Addr) (a:yar) (v:V),K.lookup b=none->H b=some (.lst a)->af K c H ds a->Den K P H d v->Den K (λt a=>P t a∨a=b) H d v
theorem uQ{K:yac}{P:yak}{H:Hp}{d:D}:∀{a:yas} {vs:yar},af K P H (a++[d]) vs->∃b v,vs=b++[v]/\af K P H a b/\Den K P H d v
 |[],vs,h=>by obtain⟨v,r,e,c,d⟩:=h;exact⟨[],v,by rw[e,d];rfl,rfl,c⟩
 |p::a,vs,h=>by obtain⟨v,r,e,c,a⟩:=h;obtain⟨b,w,d,g,f⟩:=uQ a;exact⟨v::b,w,by rw[e,d];rfl,af.cons c g,f⟩
theorem rN{K:yac}{P:yak}{H:Hp}{d:D}{v:V}:∀{a:yas} {b:yar},af K P H a b->Den K P H d v->af K P H (a++[d]) (b++[v])
 |[],b,h,c=>by have e:b=[]:=h;subst e;exact af.cons c rfl
 |p::a,b,h,c=>by obtain⟨w,r,e,b,a⟩:=h;subst e;exact af.cons b (rN a c)
theorem mC{K:yac}{H:Hp}(d:K.lookup b=none)(g:H b=some (.lst us))(f:af K P' H ds us):∀{c:yas} {vs:yar},(∀z∈c,iB ds z)->af K P H c vs->af K (λt a=>P t a∨a=b) H c vs
 |[],_,_,h=>h
 |z::c,vs,a,h=>by obtain⟨w,r,e,i,c⟩:=h;subst e;exact af.cons (a z OB K P P' H b us w d g f i) (mC d g f (λz q=>a z (Ni _ q)) c)
def GL(ix iy:Nat)(f:DE)(t:DB):DB:=λQ b=>∃(a e:yas),b[ix]?=some (some (Sl.val (.tup (a++[.lst true e]))))/\fu a=true ∧
 (∀(j:Nat) (d:D),j≠ix->b[j]?=some (some (Sl.val d))->iB e d)/\(∀(j:Nat) (x:OS),j≠ix->b[j]?=some (some (Sl.ob x))->∃c,x=OS.lst c/\fu c=true) ∧
 f (b.set ix (some (.val (aJ (.tup (a++[.lst true e])))))) λd=>∃c,d=.lst true c/\(∀z∈c,iB e z)/\t Q ((b.set ix (some (.val (.tup (a++[.lst false []]))))).set iy (some (.val d)))
def BV{s1 s2:Stmt}{rest:yal}{t1:DE}{t3:DB}{y:Str}{ix iy:Nat}(hy:X.N[iy]?=some y)(M6:ix≠iy)(P1:PSV X s1 iy t1)(P2:PS X s2 (KD X.K ix))(h3:Te X rest t3) :
  Te X (s1::s2::rest) (GL ix iy t1 t3):=by
 intro p s B H W G Q I r s0 ht;obtain⟨m,ds,ex,np,Zz,ZA,ht⟩:=ht;obtain⟨v,sx,hd⟩:=r.val ix _ ex;have hdF:=hd;obtain⟨J,vs,rfl,qT,MP⟩:=hd.Oi;obtain⟨U,vb,rfl,hp,hb0⟩:=uQ MP;obtain⟨b,N,rfl,nb,qb,hu⟩:=hb0.OT;have hb:=(qb.2 rfl).1;have kb:=(qb.2 rfl).2;have il:iy<B.length:=Inv.S8 I hy;have ilx:ix<B.length:=(Nk.mp sx).1;have xl:ix<G.length:=(Nk.mp ex).1;have nOb:∀i,W.O i≠some b:=λi h=>nb (.inr (.inl ⟨i,h⟩))
 let W2:Own:=⟨W.B,W.O,λa=>W.S a∨a=b⟩
 have bad2:∀t a,W2.bad t a->W.bad t a∨a=b:=λt a z=>by
  rcases z with z|z|⟨T,z2|z2⟩
  ·exact .inl (.inl z)
  ·exact .inl (.inr (.inl z))
  ·exact .inl (.inr (.inr ⟨T,z2⟩))
  ·exact .inr z2
 have VY:∀a,W2.bad false a->W.bad false a:=λa z=>by
  rcases z with z|z|⟨T,_⟩
  ·exact .inl z
  ·exact .inr (.inl z)
  ·cases T
 have ZC:Rel X W2 H B (G.set ix (some (.val (aJ (.tup (m++[.lst true ds])))))):=by
  refine⟨λj d h=>?_,λj x h=>?_,r.inj,λj a h=>?_,r.ke,r.bt,λa h=>?_,r.ent,r.tab⟩
  ·by_cases e:j=ix
   ·subst e;rw[O9 xl]at h;cases h;exact⟨_,sx,(Den.aJ (P':=W.bad false) (λ_ _=>Own.Q0) _ _ hdF).My λt a z=>by
     cases t with
     |true=>exact .inl rfl
     |false=>exact .inr (VY a z)⟩
   ·rw[Ov (Ne.symm e)]at h;obtain⟨w,f,c⟩:=r.val j d h;exact⟨w,f,(Zz j d e h X.K _ _ H b N w kb hb hu c).My bad2⟩
  ·have e:j≠ix:=λe=>by
    subst e;rw[O9 xl]at h;cases h
   rw[Ov (Ne.symm e)]at h;obtain⟨k,rfl,l⟩:=ZA j x e h;obtain⟨a,vs,f,c,h3,g⟩:=r.eV j k h;exact⟨a,.lst vs,f,c,h3,.lst (af.Uc k vs l g)⟩
  ·obtain⟨f,⟨c,h3⟩,g⟩:=r.kn j a h;refine⟨f,⟨c,λz=>?_⟩,g⟩;rcases z with z|z
   ·exact h3 z
   ·exact nOb j (z ▸ h)
  ·rcases h with h|h
   ·exact r.st a h
   ·exact⟨_,h ▸ hb⟩
 refine Xp (Mw (P1 p s B H W2 _ _ I ZC ht) λf s1' Mx=>?_);obtain⟨ef,Y,O,dh,I3,L,hdh,zs,edh,hF,ht⟩:=Mx;subst ef;have A:O b=some (.lst N):=L _ _ hb;have sx1:(B.set iy (some Y))[ix]?=some (some (V.ref J)):=by rw[Ov (Ne.symm M6)];exact sx
 have M:MW X.K O J (U++[.ref b]):=MW.same L qT;refine Xp (Mw (P2 p s1' _ O {nx:=λMH H'=>MH=B.set iy (some Y)/\H'=L2.upd O b (.lst []),rt:=λ_ _=>False} I3 ?_) λf s2' q=>?_)
 ·exact⟨.ref J,sx1,_,rfl,J,_,-1,.ref b,rfl,rfl,M.w,wo _ _,.inl ⟨rfl,N,SqL.of A⟩,b,N,rfl,rfl,A,rfl,rfl⟩
 cases f with
 |ret w=>obtain⟨_,_,_,_,_,z⟩:=q;exact z.elim
 |brk=>obtain⟨_,_,_,z⟩:=q;exact z.elim
 |cont=>obtain⟨_,_,_,z⟩:=q;exact z.elim
 |next =>
 obtain⟨U9,C,I4,rfl,E⟩:=q;have r3:=((ZC.same L).forget ix).put il hdh;rw[List.set_set]at r3;have T:X.MR b=none:=by
  cases e:X.MR b with
  |none=>rfl
  |some o=>exact absurd (.inr (.inr ⟨rfl,s0 b o e⟩)) nb
 have hu3:=hu.same L;have ent4:av X.MR C:=by rw[E];exact av.ins (r.ent.trans L) T A True.intro True.intro
 have tab4:iC X.K C:=by rw[E];exact iC.upd (r.tab.same L) True.intro (.inr ⟨_,A,(λ_ z=>by cases z),True.intro⟩)
 have g4:C b=some (.lst []):=by rw[E];exact aI
 have out:∀{j:Nat} {z:Sl},((G.set ix none).set iy (some (.val dh)))[j]?=some (some z)->(j=iy/\z=.val dh)∨(j≠ix/\G[j]?=some (some z)):=fun {j z} g=>by
  by_cases n:j=iy
  ·subst n;have k:j<(G.set ix none).length:=by
    by_cases l:j<(G.set ix none).length
    ·exact l
    ·rw[Sr (by rw[Su];lia)]at g;cases g
   rw[O9 k]at g;cases g;exact .inl ⟨rfl,rfl⟩
  ·rw[Ov (Ne.symm n)]at g;by_cases c:j=ix
   ·subst c;rw[O9 xl]at g;cases g
   ·rw[Ov (Ne.symm c)]at g;exact .inr ⟨c,g⟩
 have r4:Rel X (W2.drop iy) C (B.set iy (some Y)) ((G.set ix none).set iy (some (.val dh))):=by
  refine r3.apart (Z:=λa=>a=b) (λa l=>by rw[E,aw l]) (λa l=>by subst l;exact⟨N,[],A,g4⟩) (λi a ho hz=>?_) (λj d v g hs k=>?_) (λj x g=>?_) ent4 tab4
  ·have z:(if i=iy then none else W.O i)=some a:=ho;subst hz;split at z
   ·cases z
   ·exact nOb i z
  ·rcases out g with⟨_,e⟩| ⟨e,h⟩
   ·cases e;subst edh;obtain⟨c,ws,rfl,n,u,hc⟩:=k.OT;exact Den.lst (λz=>z.elim n λz=>n (.inr (.inr ⟨rfl,.inr z⟩))) u (mC kb A hu3 hF hc)
   ·exact Zz j d e h X.K _ _ O b N v kb A hu3 k
  ·rcases out g with⟨_,e⟩| ⟨e,h⟩
   ·cases e
   ·exact ZA j x e h
 have l:MW X.K C J (U++[.ref b]):=by rw[E];show L2.upd _ _ _ _=_;rw[aw (gT M A (by intro z;cases z))];exact M
 have old:af X.K (W2.drop iy).bad C m U:=by
  refine af.map (P:=λt a=>(W2.drop iy).bad t a∨a=b) (λc ws q=>?_) (λt c ws n q=>?_) (λc u n q=>?_) m U (af.Uc m U np (hp.same L))
  ·show C c=_;rw[E,aw (gT q A (by intro z;cases z))];exact q
  ·have e:C c=O c:=by rw[E,aw λz=>n (.inr z)]
   refine⟨λz=>n (.inl z),?_,λz=>⟨by rw[e];exact(q.2 z).1,(q.2 z).2⟩⟩;rcases q.1 with(q|⟨u,q⟩)|q
   ·exact .inl (.inl (by rw[e];exact q))
   ·exact .inl (.inr ⟨u,by rw[e];exact q⟩)
   ·exact .inr q
  ·rw[E,aw λz=>by subst z;rw[A]at q;cases q;exact n];exact q
 have n:=r4.put (i:=ix) (d:=.tup (m++[.lst false []])) (v:=.ref J) (by rw[Su];exact ilx) (Den.tup l (rN old (Den.lst (t:=false) (ds:=[]) (λz=>nb (Own.Q0 (VY b (Own.Na z)))) (Oh.new g4 kb) rfl)));have es:(B.set iy (some Y)).set ix (some (.ref J))=B.set iy (some Y):=by
  apply List.ext_getElem?;intro k;by_cases e:k=ix
  ·subst e;rw[O9 (by rw[Su];exact ilx),sx1]
  ·rw[Ov (Ne.symm e)]
 rw[es,List.set_comm _ _ (Ne.symm M6),List.set_set]at n;exact Mw (h3 p s2' _ C ((W2.drop iy).drop ix) _ Q I4 n (λa o e=>.inl (s0 a o e)) ht) λf s5 MX=>(by obtain⟨u,v,d,MH,H',e1,I',rv,k,QD,q⟩:=MX;exact⟨u,v,d,MH,H',e1,I',rv,k,QD.My (λt a z=>z.elim .inl λz=>.inr ⟨z.1,.inl z.2⟩),q⟩)
end
def qO(xs:yah)(a:Addr)(cl:List (Str×Addr)):List (Str×Addr):=match xs with
 |[]=>cl
 |x::_=>(x,a)::cl
def Kd{c:Addr}(e:(qO xs cc cl).lookup y=some c):c=cc∨cl.lookup y=some c:=by
 cases xs with
 |nil=>exact .inr e
 |cons x xs =>
  have a:List.lookup y ((x,cc)::cl)=some c:=e;rw[QU]at a;cases q:y==x with
  |true=>rw[q]at a;exact .inl (Pp a).symm
  |false=>rw[q]at a;exact .inr a
structure CSC(osc sc:Scope)(xs ns:yah):Prop where
 kind:sc.kind=.function
 one:∃x,xs=[x]
 Vn:∀y∈sc.names,y.2=.cell->y.1∈xs
 names:∀y∈sc.names,y.2=.local->sc.names.lookup y.1=some .local
 Y0:∀x∈xs,sc.names.lookup x=some .cell
 free:∀y∈sc.names,y.2=.free->y.1∈ns/\osc.names.lookup y.1=some .cell
 cells:∀n∈ns,sc.names.lookup n=some .free/\osc.names.lookup n=some .cell
 nd:(xs++ns).Nodup
 lay:∀n acc,cellsFrom n sc.names acc=qO xs n acc
 psh:∀h:Heap,pushCells h sc.names=h.push {cls:=.type "cell", data:=.cell none}
def kr(X:Cx)(a:Scope)(ns xs:yah)(c C:Addr)(f:Shared)(e:Hp)(b:yae)(d:yaa):Cx :=
 {X with N:=xs++ns,ME:=f,MR:=e,env:=compEnvC a (qO xs c (bR X.env ns)) C X.env,outer:=X.stack,stack:=X.stack,ex:=b,fn:=λy=>xs.contains y,pn:=[],xe:=d}
def yN{M:Model}{A:Around}{E:yaa}{s:Shared}{b:Scope}{c:Addr}{d:List (Str×Addr)}{e:Str}{f:Option Addr}{code:Value}{outer:Env}{a:Addr}{Q:Env->Shared->Prop}{xs:yah}
  (k:∀n i,cellsFrom n b.names i=qO xs n i) (g:∀h:Heap,pushCells h b.names=h.push {cls:=.type "cell", data:=.cell none})
  (j:∀h',h'=(s.heap.push {cls:=.type "dict", data:=.dict #[]}).push {cls:=.type "cell", data:=.cell none}->Q (newEnv b s.heap.objs.size c (qO xs (s.heap.objs.size+1) d) e f code (some outer) a) {s with heap:=h'}) :
  wpAny M A (newFunctionEnv b c d [] e f code (some outer) a) Q E s:=by
 simp only[newFunctionEnv,Option.isSome_some,if_true];refine Mh (wpAny_alloc ?_);refine Mh (wpAny_layCells _ (λname a cells=>by cases hkc:a==NameKind.cell<;>simp[hkc]) _ _ _ _ ?_);rw[show({s with heap:=s.heap.push {cls:=.type "dict", data:=.dict #[]} }:Shared).heap.objs.size=s.heap.objs.size+1 from TM ..,k,g];refine Mh ?_;rw[Yo];exact Mt (Mt (j _ rfl))
section
variable{X:Cx}{pins:yab}{σ:St}{H:Hp}{s:Shared}{sc:Scope}{ns:yah}{js:yag}{xs:yah}{fp:yae}
def Inv.ZD{a:Shared}{c:Hp}{C:Addr}(I:Inv X pins σ H s)(S:CSC X.env.scope sc xs ns)(M:js.length=ns.length/\∀(i:Nat) (j:Nat) (n:Str),js[i]?=some j->ns[i]?=some n->X.N[j]?=some n)(J:∀b∈fp,dY X pins H b)(Q:∀b∈fp,∃o,s.heap.get? b=some o)(N:s.heap.objs.size<=C)
  (k:a.os=s.os) (g:AllBare a.gens) (t:∀b o,s.heap.get? b=some o->a.heap.get? b=some o) (T:a.heap.Ns C λ_=>none) (p:c C=none) (hs:av H c) (O:∀b o,s.heap.get? b=some o->H b=none->c b=none) (Y:Ox X.prog X.w c a.heap) (Pt:a.heap.IsCell cc none) (w:c cc=none) (E:s.heap.objs.size<=cc) :
  Inv (kr X sc ns xs cc C s H fp XE) [] (List.replicate xs.length none++js.map (eS σ)) c a:=by
 have U:X.env.scope.kind=.function:=I.ok.kind;obtain⟨a,c⟩:=S.one;subst c;have A:∀y c,((kr X sc ns [a] cc C s H fp XE).env.cells).lookup y=some c->(y=a/\c=cc)∨(bR X.env ns).lookup y=some c:=λy c e=>by
  have d:List.lookup y ((a,cc)::bR X.env ns)=some c:=e;rw[QU]at d;cases q:y==a with
  |true=>rw[q]at d;exact .inl ⟨by simpa using q,(Pp d).symm⟩
  |false=>rw[q]at d;exact .inr d
 have x:∀y c,y∈ns->(bR X.env ns).lookup y=some c->((kr X sc ns [a] cc C s H fp XE).env.cells).lookup y=some c:=λy c m e=>by
  show List.lookup y ((a,cc)::bR X.env ns)=some c;have n:(y==a)=false:=by have:=S.nd;rw[List.singleton_append,R0]at this;simpa using λz:y=a=>this.1 (z ▸ m)
  rw[QU,n];exact e
 have L:((kr X sc ns [a] cc C s H fp XE).env.cells).lookup a=some cc:=by show List.lookup a ((a,cc)::bR X.env ns)=some cc;simp[QU]
 have B:∀y c,(bR X.env ns).lookup y=some c->X.env.cells.lookup y=some c:=λy c e=>iG e
 have G:∀y c,(bR X.env ns).lookup y=some c->∃v,s.heap.IsCell c v:=λy c e=>I.cell y c (B y c e)
 refine⟨⟨I.ok.mod,S.kind,I.ok.glob,I.ok.blt,N,λy z c f d=>?_,λy l=>?_,λy c h e=>?_,I.ok.hd,I.ok.frames,.inl rfl,λb r=>?_,I.bs,Pa I.ok.VG I.sz,λb o e r=>?_,λb r z=>?_,I.stack,I.P7⟩,
  k,g,⟨λb o e n _ _=>t b o e,λb o e n _ _=>⟨o.slots,t b o e⟩,λb o e n _=>O b o e n,λb o e _=>⟨o,t b o e⟩,λb xs e=>hs b _ e,λb o u e=>hs b _ e,λb g e=>hs.tb b g e⟩,⟨_,T,λi y v f d h3=>?_⟩,λy c e=>?_,p,λy c e=>?_,λp g=>absurd (show p∈([]:yab)from g) (by simp),Y,?_⟩
 ·rcases A y c f with⟨n,g⟩| f<;>rcases A z c d with⟨p,k⟩| d
  ·rw[n,p]
  ·obtain⟨v,q⟩:=G z c d;exact absurd q.lt (by rw[g];exact Sy.mpr E)
  ·obtain⟨v,q⟩:=G y c f;exact absurd q.lt (by rw[k];exact Sy.mpr E)
  ·exact I.ok.inj y z c (B y c f) (B z c d)
 ·-- Y1 cell of the block is one of the WG,or Mp own
  have p:∃k,((relabel sc X.env).names.lookup y=some k)/\(k=.cell∨k=.free):=by
   rcases l with l|l
   ·exact⟨_,l,.inl rfl⟩
   ·exact⟨_,l,.inr rfl⟩
  obtain⟨k,f,d⟩:=p;rcases i7 (env:=X.env) f d with⟨z,k,n,g⟩| ⟨z,k,n,g⟩
  ·obtain⟨p,T⟩:=S.free z k g;subst n;obtain⟨c,Y⟩:=I.ok.has z.1 (.inl T);exact⟨c,x _ _ p (ko p Y)⟩
  ·have:=S.Vn z k g;rw[Oy]at this;exact⟨cc,by rw[<- n,this];exact L⟩
 ·have l:y=a:=by simpa [kr]using h
  rw[l,L]at e;cases e;exact E
 ·refine⟨λz=>?_,λy c e z=>?_⟩
  ·have l:b=C:=z;obtain⟨o,h⟩:=Q b r;have k:=MV h;rw[l]at k;exact absurd (Of k N) (Ru _)
  ·rcases A y c e with⟨_,g⟩| e
   ·obtain⟨o,h⟩:=Q b r;exact absurd (MV h) (by rw[<- z,g];exact Sy.mpr E)
   ·exact(J b r).2.2.2.2.1 y c (B y c e) z
 ·obtain⟨L,p,l,k,E,C⟩:=J b r;rcases k with k|k
  ·exact I.ok.R5 b o e k
  ·exact absurd (Of (MV (I.ok.bs b o e).1) k) (Ru _)
 ·obtain⟨L,p,l,k,E,C⟩:=J b r;rcases MD.mp (I.Pq b z)with e|e
  ·exact p e
  ·exact l e
 ·by_cases b:i<[a].length
  ·rw[RK (by rw[X8];lia),Xe,Ml b]at d;cases d
  ·have k:ns[i - [a].length]?=some y:=by
    have f:([a]++ns)[i]?=some y:=f;rw[RI (by lia)]at f;exact f
   have b:(js.map (eS σ))[i - [a].length]?=some (some v):=by rw[RI (by rw[X8];lia)]at d;simpa using d
   generalize i - [a].length=i at k b;rw[Nj]at b;cases e:js[i]? with
   |none=>rw[e]at b;cases b
   |some j =>
    rw[e]at b;have d:eS σ j=some v:=Pp b;have p:σ[j]?=some (some v):=by
     unfold eS at d;split at d
     ·rename_i u q;cases d;exact q
     ·cases d
    have l:=M.2 i j y e k;have b:y∈ns:=NF k;obtain⟨k,f⟩:=S.cells y b;obtain⟨m,hm,i⟩:=I.loc;obtain⟨u,d,lk⟩:=i j y v l p (.inr (.inl f));refine⟨u,d,?_⟩;rcases lk with⟨j,_⟩| ⟨_,c,n,o,h,d⟩
    ·have i:X.env.scope.names.lookup y=some .local:=j;rw[f]at i;cases i
    ·exact .inr ⟨.inl (iM U k f),c,x _ _ b (ko b n),o,t c o h,d⟩
 ·rcases A y c e with⟨_,g⟩| e
  ·exact⟨none,g ▸ Pt⟩
  obtain⟨v,z⟩:=G y c e;obtain⟨o,h,d⟩:=z;exact⟨v,o,t c o h,d⟩
 ·rcases A y c e with⟨_,g⟩| e
  ·rw[g];exact w
  obtain⟨v,o,h,d⟩:=G y c e;exact O c o h (I.OD y c (B y c e))
 ·show(List.replicate [a].length none++js.map (eS σ)).length=([a]++ns).length;simp[M.1]
end
section
variable{X:Cx}{sc:Scope}{ns:yah}{js:yag}{x:Str}{px pos:Pos}{elt iter:Expr}{ifs:yai}{wi:DA}{tc:DT}{te:DE}
def d5{sc:Scope}{x:Str}(h:sc.names.lookup x=some .cell):(relabel sc env).names.lookup x=some .cell:=by
 show List.lookup x (sc.names.map λ(n,k)=>if(k==NameKind.free && env.scope.kind==.function && env.kindOf n==some .cell)then(n,NameKind.cell)else(n,k))=_;generalize sc.names=l at h
 induction l with
 |nil=>cases h
 |cons a r ih =>
  obtain⟨m,k⟩:=a;rw[QU]at h;rw[MN];cases q:x==m with
  |true =>
   rw[q]at h;cases h;simp[QU,q]
  |false =>
   rw[q]at h;have a:=ih h;by_cases b:(k==NameKind.free && env.scope.kind==.function && env.kindOf m==some .cell)=true
   ·dsimp only;rw[Ml b,QU,q];exact a
   ·dsimp only;rw[Mj b,QU,q];exact a
def Cr{X:Cx}{sc:Scope}{ns:yah}{x:Str}{px:Pos}(S:CSC X.env.scope sc [x] ns):UA (kr X sc ns [x] cc C Mm Mo fp XE) (.Name x px) (kx 0) :=
 have a:(compEnvC sc (qO [x] cc (bR X.env ns)) C X.env).scope.names.lookup x=some .cell:=d5 (S.Y0 x (by simp))
 aS (X:=kr X sc ns [x] cc C Mm Mo fp XE) 0 S.nd rfl (.inr a) (.inl (by simp[kr]))
def Ex(hc:X.calm=true)(S:CSC X.env.scope sc [x] ns)(U:aX X.N ns js)(c:QR X (.Name x px) iter wi)(O:∀(g C:Addr) (b:Shared) (a:Hp) (f:yae) (k:yaa),Tv (kr X sc ns [x] g C b a f k) ifs tc)
  (Y:∀(g C:Addr) (b:Shared) (a:Hp) (f:yae) (k:yaa),MI (kr X sc ns [x] g C b a f k) elt te) (e:closureFor sc X.env=pure (bR X.env ns):=by rfl) (hs:∀x,foldedSetIterable iter X.env x=pure x:=by intro _;rfl) :
  MI X (.ListComp elt [⟨.Name x px,iter,ifs,0⟩] sc pos) (kS wi js tc te):=by
 intro d s p H W t Q I r h;rw[eval_ListComp];refine Vt (use:=none) rfl hs e S.kind S.names (Mw (c d s p H W t _ I r h) λv s1 a=>Mw a λRz c a=>?_);obtain⟨it,f,tn,J,i,ds,e,h,m,T,J,B,L,N,Pv,M,step,u⟩:=a;subst e;refine SO (yN S.lay S.psh λa n=>?_);dsimp only at n ⊢;generalize Tc:c.heap.push {cls:=.type "list", dict:=none,data:=.seq ([]:yad).toArray}=HP at n ⊢;have b:HP.objs.size=c.heap.objs.size+1:=by rw[<- Tc,TM]
 have z:c.heap.objs.size≠HP.objs.size:=by rw[b];exact NG (QL _)
 have A:c.heap.objs.size<=HP.objs.size:=by rw[b];exact Nat.le_succ _
 have l:∀b o,HP.get? b=some o->a.get? b=some o:=λb o e=>by rw[n];exact Nd _ (Nd _ e)
 have j:∀b o,c.heap.get? b=some o->a.get? b=some o:=λb o e=>l b o (Tc ▸ Nd _ e)
 have I:a.get? c.heap.objs.size=some {cls:=.type "list", data:=.seq ([]:yad).toArray}:=l _ _ (Tc ▸ OI _ rfl);have Qk:a.Ns HP.objs.size λ_=>none:=(Heap.Ns.new HP (.type "dict")).keeps λb o e=>by rw[n];exact Nd _ e
 have Pt:a.IsCell (HP.objs.size+1) none:=⟨_,by rw[n,<- show(HP.push {cls:=.type "dict", data:=.dict #[]}).objs.size=HP.objs.size+1 from TM ..];exact OI _ rfl,rfl⟩;have G:c.heap.objs.size<=HP.objs.size+1:=by lia
 have y:c.heap.objs.size≠HP.objs.size+1:=by lia
 have q:=G;generalize ecc:HP.objs.size+1=g at *;generalize eD:c.heap.objs.size=D at z I y q;generalize eC:HP.objs.size=C at *;have E:i D=none:=by rw[<- eD];exact h.MF.fresh (MS _)
 have XI:X.K.lookup D=none:=by rw[<- eD];exact Inv.NA h
 have n:i C=none:=h.MF.fresh A;have T1:∀b∈f,∃o,c.heap.get? b=some o:=λb s=>let ⟨o,e,_⟩:=T.obj 0 c.heap J b s;⟨o,e⟩
 have w:c.heap.objs.size<=D:=Nat.le_of_eq eD;have l:Ox X.prog X.w (L2.upd i D (.lst [])) a:=h.MF.laid j w ⟨N9 _,[],0,.nil,I⟩;have I:∀o,L2.upd i D o C=none:=λo=>by rw[aw (Ne.symm z)];exact n
 have I1:∀k,Inv (kr X sc ns [x] g C c i f k) [] (List.replicate [x].length none++js.map (eS p)) (L2.upd i D (.lst [])) {c with heap:=a,toks:=c.toks+([]:List (Str×Value)).length}:=λk =>
  Inv.ZD h S U B T1 A rfl h.bare j Qk (I _) (av.upd E) (λb o e n=>by rw[aw (λz=>absurd (MV e) (by rw[z];exact Sy.mpr w))];exact n) l Pt (by rw[aw (Ne.symm y)];exact h.MF.fresh (by rw[eD];exact q)) (by rw[eD];exact q)
 have e:∀k l,(∃q,l.map LI.val=q.map LI.val/\Pv k q)=Pv k l:=λk l=>propext ⟨λn=>(by obtain⟨q,a,b⟩:=n;exact(List.map_inj_right (λ_ _=>LI.val.inj)).mp a ▸ b),λb=>⟨l,rfl,b⟩⟩
 refine uN (RR:=λa C=>compPost (model X.prog X.w) X.A X.xe none (DP X d p W H Q) a C) (cl:=qO [x] g (bR X.env ns)) (fn:=λy=>[x].contains y) (te:=λt Q=>te t λd=>Q (.val d)) hc (Cm (Y g C c i f _)) (O g C c i f _) (Cr S) h (r.same m) T J B L N (λk o=>∃q,o=q.map LI.val/\Pv k q) ⟨[],rfl,M⟩ ?_ ?_ E XI w A j (λy c e=>(Kd (xs:=[x]) e).elim (λq=>.inr (q ▸ G)) λe=>.inl (iG e)) (I1 _)
 ·rintro j d _ f c ⟨q,rfl,a⟩ cr;have m:∀x,q.map LI.val++[LI.val x]=(q++[x]).map LI.val:=λx=>by rw[OC];rfl
  simp only[m,e];exact vP step j d q f c a cr
 rintro f c g _ bs A d y t q n p l ⟨h,i,vs,j,_,_,k⟩ ⟨a,rfl,pv⟩;have w:Den X.K W.bad c (.lst true a) (.ref D):=Den.lst ((r.same m).fresh h) (.new j i) (k.vals.My λ_ _ z=>.inl z);refine⟨g,y,λh' g=>?_⟩;exact⟨.ref D,c,_,A.turned (t':=f.toks) (λb o s e=>(g.2 b s).trans e) t q (.inr n) p l,rfl,m.trans d,w,u a pv⟩
end
def GJ(h:Ep sc1 sc xs ns=true):CSc (relabel sc1 E) sc xs ns :=
 let S:=bC h
 ⟨S.kind,S.Sb,S.names,S.Y0,λy a e=>⟨(S.free y a e).1,d5 (S.free y a e).2⟩,λn a=>⟨(S.cells n a).1,d5 (S.cells n a).2⟩,S.nd⟩
def FU(osc a:Scope)(x:Str)(ns:yah):Bool :=
 decide (a.kind=.function) && (a.names.all λy=>decide (y.2=.cell->y.1=x)) && (a.names.all λy=>decide (y.2=.local->a.names.lookup y.1=some .local)) && decide (a.names.lookup x=some .cell) &&
 (a.names.all λy=>decide (y.2=.free->y.1∈ns/\osc.names.lookup y.1=some .cell)) && (ns.all λn=>decide (a.names.lookup n=some .free/\osc.names.lookup n=some .cell)) && decide ([x]++ns).Nodup
def GI (h:FU osc sc x ns=true) (c:∀n a,cellsFrom n sc.names a=(x,n)::a) (b:∀h:Heap,pushCells h sc.names=h.push {cls:=.type "cell", data:=.cell none}):CSC osc sc [x] ns:=by unfold FU at h;simp only[Ut]at h;obtain⟨⟨⟨⟨⟨⟨a,k⟩,d⟩,j⟩,i⟩,g⟩,f⟩:=h;exact⟨RY a,⟨x,rfl⟩,λy a e=>by rw[RY (UQ.mp k y a) e];simp,λy a=>RY (UQ.mp d y a),λz d=>by rw[Oy.mp d];exact RY j,λy a=>RY (UQ.mp i y a),λn a=>RY (UQ.mp g n a),RY f,c,b⟩
section
variable{X:Cx}{sc:Scope}{ns:yah}{js:yag}{x:Str}{px pos:Pos}{elt iter:Expr}{wi:DA}{te:DM}
def yD{y:Str}{b:Pos}(i:Nat)(t:X.N.Nodup)(q:X.calm=true)(S:CSc X.env.scope sc [x] ns)(n:aX X.N ns js)(k:QR X (.Name x px) iter wi)
  (o:∀(C:Addr) (f:Shared) (d:Hp) (a:yae) (c:yaa),XH (aZ X sc ns [x] C f d a c) elt te) (j:X.N[i]?=some y:=by rfl) (m:Loc X.env.scope y:=by first|exact Or.inl rfl|exact Or.inr rfl) (u:closureFor sc X.env=pure (bR X.env ns):=by rfl) (hs:∀x,foldedSetIterable iter X.env x=pure x:=by intro _;rfl)
  (l:swapsWith (.ListComp elt [⟨.Name x px,iter,[],0⟩] sc pos) (some (.Name y py)) b.line X.env=pure false:=by rfl) (p:X.fn y=true∨X.env.scope.names.lookup y=some .local:=by first|exact .inl rfl|exact .inr rfl|assumption) :
  OJ X (.Assign [.Name y py] (.ListComp elt [⟨.Name x px,iter,[],0⟩] sc pos) b) (qB i wi js te):=by
 intro b s e H W g E I r h;refine wpAny_Assign_Name ?_ l;rw[eval_ListComp];refine Vt (use:=none) rfl hs u S.kind S.names (Mw (k b s e H W g _ I r h) λv s1 b=>Mw b λRz s2 b=>?_);obtain⟨it,a,tn,J,H2,ds,e,w,h,T,u,s,i,l,Pv,k,step,g⟩:=b;subst e;refine lA (RR:=λb C=>compPost (model X.prog X.w) X.A X.xe none _ b C) q S n (Ed:=λ_=>False) (λC f d a c _=>o C f d a c) (λC f d a c _=>bW) (λ_ _=>cR.no) w (r.same h) (λC f d a c=>ky S) T u s i l Pv k (DD step) ?_;intro D C f E k a bs b d B A z w y u ⟨l,o,vs,q,c,n,C⟩ pv;obtain⟨i,s⟩:=(r.same h).Qm (Inv.S8 b j) d l o q c n C;refine⟨k,B,λh' d=>?_⟩;have k:=b.turned (t':=f.toks) (λb o c e=>(d.2 b c).trans e) A z (.inr w) y u;exact fe (v:=.ref D) k t j m rfl (λs3 b=>⟨_,_,E,b,(ML.same h).trans s,_,i,g a pv⟩) p
end
end PD
namespace LW
open PySem PySem.Spec PyProof.Rows L2 PD
seal PD.cP PD.OJ PD.MI PD.Rj PD.PU PD.Rk PD.QR PD.UA PD.tN PD.Tv PD.QS PD.PKD PD.PPD PD.UG PD.PFL PD.PPK PD.PEK
local macro_rules|`(tactic|kd_p)=>`(tactic| exact ⟨rfl, rfl, rfl, by decide +kernel, rfl, by decide +kernel, by decide +kernel⟩)
def top(i:Nat):Stmt:=PySem.Challenge.pw_halvecut_k42_whole_meet_or_bar.main.body.getD i (.Pass ⟨0,0,0,0⟩)
abbrev xX:Stmt:=top 5
abbrev gr:Stmt:=top 6
abbrev mY:Stmt:=top 7
abbrev oW:Stmt:=top 8
abbrev pY:Stmt:=top 9
abbrev ui:Stmt:=top 11
abbrev xW:Stmt:=top 12
abbrev kI:Stmt:=top 13
abbrev oS:Stmt:=top 14
abbrev qW:Stmt:=top 15
abbrev ug:Stmt:=top 17
abbrev mZ:Stmt:=top 18
abbrev uh:Stmt:=top 19
abbrev ue:Stmt:=top 20
abbrev xY:Stmt:=top 21
abbrev xV:Stmt:=top 22
abbrev oV:Stmt:=top 23
abbrev uf:Stmt:=top 25
abbrev sN:Stmt:=top 26
abbrev jJ:Stmt:=top 27
abbrev mU:Stmt:=top 28
abbrev qX:Stmt:=top 30
abbrev iP:Stmt:=top 31
abbrev gn:Stmt:=top 32
abbrev c6:Stmt:=top 33
abbrev oR:Stmt:=top 34
abbrev jo:Stmt:=top 36
abbrev h8:Stmt:=top 38
abbrev kY:Stmt:=top 39
abbrev qV:Stmt:=top 40
abbrev jG:Stmt:=top 41
abbrev jX:Stmt:=top 42
abbrev sL:Stmt:=top 43
abbrev fH:Stmt:=top 45
abbrev jW:Stmt:=top 46
abbrev eZ:Stmt:=top 47
abbrev lE:Stmt:=top 49
abbrev jH:Stmt:=top 50
abbrev jI:Stmt:=top 51
abbrev kH:Stmt:=top 52
abbrev mX:Stmt:=top 53
abbrev iQ:Stmt:=top 54
abbrev gc:Stmt:=top 55
abbrev mW:Stmt:=top 56
abbrev lD:Stmt:=top 57
abbrev oU:Stmt:=top 58
abbrev jY:Stmt:=top 59
abbrev mV:Stmt:=top 60
abbrev fG:Stmt:=top 61
abbrev iR:Stmt:=top 62
abbrev hW:Stmt:=top 63
def Ib:aB ["number"] ["number"] (ar xX):=by kd_p
def dg:aB ["one", "other", "rest"] ["one", "other"] (ar gr):=by kd_p
def kZ:aB ["numbers", "divisor", "number"] ["numbers"] (ar mY):=by kd_p
def ng:aB ["triple", "lead", "divisor"] ["triple", "lead"] (ar oW):=by kd_p
def gw:aB ["count", "size", "found", "length", "longer", "pick", "first"] ["count", "size"] (ar pY):=by kd_p
def FD:aB ["gauge", "place"] ["gauge", "place"] (ar ui):=by kd_p
def Ia:aB ["gauge", "place"] ["gauge", "place"] (ar xW):=by kd_p
def vB:aB ["gauge", "other", "share"] ["gauge", "other", "share"] (ar kI):=by kd_p
def Bs:aB ["one", "other"] ["one", "other"] (ar oS):=by kd_p
def Ds:aB ["place", "way"] ["place", "way"] (ar qW):=by kd_p
def FA:aB ["by", "x", "y"] ["by", "x", "y"] (ar ug):=by kd_p
def yY:aB ["spot"] ["spot"] (ar mZ):=by kd_p
def FC:aB ["one", "two", "three"] ["one", "two", "three"] (ar uh):=by kd_p
def Fz:aB ["one", "other"] ["one", "other"] (ar ue):=by kd_p
def Ic:aB ["one", "other"] ["one", "other"] (ar xY):=by kd_p
def HZ:aB ["way"] ["way"] (ar xV):=by kd_p
def Bt:aB ["way"] ["way"] (ar oV):=by kd_p
def qY:aB ["places", "kept", "each"] ["places"] (ar uf):=by kd_p
def Af:aB ["spots", "places"] ["spots"] (ar sN):=by kd_p
def iS:aB ["one", "other", "along", "across"] ["one", "other"] (ar jJ):=by kd_p
def Dr:aB ["corners"] ["corners"] (ar mU):=by kd_p
def Dt:aB ["way"] ["way"] (ar qX):=by kd_p
def sO:aB ["one", "other"] ["one", "other"] (ar iP):=by kd_p
def p9:aB ["one", "other"] ["one", "other"] (ar gn):=by kd_p
def d8:aB ["one", "two", "three", "turns"] ["one", "two", "three"] (ar c6):=by kd_p
def Br:aB ["ways"] ["ways"] (ar oR):=by kd_p
def ic:aB ["spots", "place", "ways", "size", "numbers", "shares"] ["spots", "place"] (ar jo):=by kd_p
def gA:aB ["one", "other", "gauge", "here", "there"] ["one", "other", "gauge"] (ar h8):=by kd_p
def h9:aB ["corners", "gauge", "kept", "index", "one", "other"] ["corners", "gauge"] (ar kY):=by kd_p
def oX:aB ["corners", "gauges", "gauge"] ["corners", "gauges"] (ar qV):=by kd_p
def fJ:aB ["corners", "gauges", "last"] ["corners", "gauges"] (ar jG):=by kd_p
def yW:aB ["gauges", "numbers", "shares"] ["gauges", "numbers", "shares"] (ar jX):=by kd_p
def md:aB ["corners", "gauges", "last", "others", "numbers", "shares"] ["corners", "gauges"] (ar sL):=by kd_p
def eK:aB ["lists", "found", "index", "spots"] ["lists"] (ar fH):=by kd_p
def fV:aB ["owned", "shares", "sums", "number", "share", "owner"] ["owned", "shares"] (ar jW):=by kd_p
def dQ:aB ["lists", "owned", "gauges", "first", "shared"] ["lists"] (ar eZ):=by kd_p
def xZ:aB ["_law_found"] ["_law_found"] (ar lE):=by kd_p
def uj:aB ["_law_script", "_law_k"] ["_law_script", "_law_k"] (ar jH):=by kd_p
def fK:aB ["_law_one", "_law_other", "_law_here", "_law_there"] ["_law_one", "_law_other"] (ar jI):=by kd_p
def bB:aB ["_law_cell", "_law_many", "_law_found", "_law_rest", "_law_k", "_law_number", "_law_other"] ["_law_cell", "_law_many"] (ar kH):=by kd_p
def qp:aB ["_law_cell", "_law_kind", "_law_number"] ["_law_cell", "_law_kind"] (ar mX):=by kd_p
def sP:aB ["_law_found"] ["_law_found"] (ar iQ):=by kd_p
def uk:aB ["_law_found"] ["_law_found"] (ar gc):=by kd_p
def bV:aB ["_law_part_here", "_law_spots", "_law_here", "_law_k", "_law_right", "_law_above", "_law_part_of_all", "_law_by", "_law_number", "_law_share"] ["_law_part_here", "_law_spots", "_law_here"] (ar mW):=by kd_p
def kK:aB ["_law_found", "_law_sets_here", "_law_part_here", "_law_spots"] ["_law_found", "_law_sets_here"] (ar lD):=by kd_p
def jZ:aB ["_law_row_here", "_law_sets_here", "_law_number", "_law_x", "_law_y"] ["_law_row_here", "_law_sets_here"] (ar oU):=by kd_p
def dW:aB ["_law_found", "_law_sets_here", "_law_sums", "_law_last", "_law_row_here"] ["_law_found", "_law_sets_here"] (ar jY):=by kd_p
def yX:aB ["_law_found", "_law_sets_here"] ["_law_found", "_law_sets_here"] (ar mV):=by kd_p
def bD:aB ["_law_script", "_law_first", "_law_many", "_law_xs", "_law_kinds", "_law_sets_here", "_law_at", "_law_j", "_law_k"] ["_law_script"] (ar fG):=by kd_p
def ib:aB ["_law_found", "_law_sets_here", "_law_part_here", "_law_spots"] ["_law_found", "_law_sets_here"] (ar iR):=by kd_p
def kJ:aB ["_law_script", "_law_sets_here", "_law_handed", "_law_found", "_law_second", "_law_held", "_law_again_told"] ["_law_script"] (ar hW):=by kd_p
structure Nl where
 PlaneError:Addr
 NoPlace:Addr
 TooFew:Addr
structure Ny(K:yac)(mg:yam)(κ:Nl):Prop where
 Nq:mg "PlaneError" = some (.ref κ.PlaneError)
 Ol:mg "NoPlace" = some (.ref κ.NoPlace)
 OM:mg "TooFew" = some (.ref κ.TooFew)
noncomputable def sg(n:Int):Int:=if 0<n then 1 else if n<0 then -1 else 0
def rk(a0 c e a b d:Int):Int:=if sg (c*a - b*a0)=0 then sg (e*a - d*a0)else sg (c*a - b*a0)
noncomputable def sw(a0 f e h d c g b a:Int):Int:=a0*(d*a - b*c)+h*(b*e - f*a)+g*(f*c - d*e)
structure Pl(n:Nat)(a b c:Int):Prop where
 pos:0<a
 low:PM.g3 a b c=1
 b0:Bd n a
 b1:Bd n b
 b2:Bd n c
def jR{d k x y z:Int}(f:d∣k*x)(e:d∣k*y)(c:d∣k*z)(b:PM.g3 x y z=1):d∣k:=by
 have a:d∣(Int.gcd (k*x) (k*y):Int):=Xr f e;rw[Yh]at a;have e:d∣k*(Int.gcd x y:Int):=by
  have:((k.natAbs*Int.gcd x y:Nat):Int)∣k*(Int.gcd x y:Int):=by rw[Int.natCast_mul];exact Yk (Int.natAbs_dvd.mpr (Uw _)) (Uw _)
  exact VC a this
 have a:d∣(Int.gcd (k*(Int.gcd x y:Int)) (k*z):Int):=Xr e c;rw[Yh]at a;have c:Int.gcd (Int.gcd x y:Int) z=1:=b;rw[c,Nat.mul_one]at a;exact VC a (Int.natAbs_dvd.mpr (Uw _))
abbrev Sp:=Int×Int
abbrev yat:=List (List Sp)
abbrev yau:=List Sp
def MA(p:Sp):D:=.tup [.int p.1,.int p.2]
def Ag(h:MA p=MA q):p=q:=by unfold MA at h;simp only[D.tup.injEq,SQ,D.int.injEq,and_true]at h;exact QX h.1 h.2
theorem jt{a:Type}{f:a->D}(b:∀{p q},f p=f q->p=q):∀{ps qs:List a},ps.map f=qs.map f->ps=qs
 |[],[],_=>rfl
 |[],_::_,h=>by simp at h
 |_::_,[],h=>by simp at h
 |p::ps,q::qs,h=>by simp only[MN,SQ]at h;rw[b h.1,jt b h.2]
def Ah{ps qs:yau}(h:ps.map MA=qs.map MA):ps=qs:=jt Ag h
def i4(p:Sp):aJ (MA p)=MA p:=by unfold MA;simp only[cq,br,bH,cH]
def fL(ps:yau):bf (ps.map MA)=ps.map MA:=cE MA i4 ps
def Nf(p:Sp):D:=.tup [.int 1,.int p.1,.int p.2]
def zT(h:Nf p=Nf q):p=q:=by unfold Nf at h;simp only[D.tup.injEq,SQ,D.int.injEq,and_true,true_and]at h;exact QX h.1 h.2
def HH{ps qs:yau}(h:ps.map Nf=qs.map Nf):ps=qs:=jt zT h
def gG(p:Sp):aJ (Nf p)=Nf p:=by unfold Nf;simp only[cq,br,bH,cH]
def nG(ps:yau):bf (ps.map Nf)=ps.map Nf:=cE Nf gG ps
def cr(a b e:Sp):Int:=sw 1 a.1 a.2 1 b.1 b.2 1 e.1 e.2
def cJ:yau->Sp->yau
 |b::a::r,e=>if cr a b e<=0 then cJ (a::r) e else b::a::r
 |l,_=>l
def bQ:yau->yau->yau
 |acc,[]=>acc
 |acc,e::a=>bQ (e::cJ acc e) a
theorem qj(x:Sp):∀(acc done:yau),bQ acc (done++[x])=x::cJ (bQ acc done) x
 |acc,[]=>rfl
 |acc,e::a=>by show bQ (e::cJ acc e) (a++[x])=_;rw[qj x _ a];rfl
theorem qQ:∀(st:yau) (e:Sp),∃c,st=c++cJ st e
 |[],e=>⟨[],rfl⟩
 |[b],e=>⟨[],rfl⟩
 |b::a::r,e=>by
  unfold cJ;split
  ·obtain⟨c,q⟩:=qQ (a::r) e;exact⟨b::c,by rw[PQ,<- q]⟩
  ·exact⟨[],rfl⟩
def Fo(st:yau)(e:Sp):(cJ st e).length<=st.length:=by
 obtain⟨pre,q⟩:=qQ st e;have:=congrArg List.length q;rw[Od]at this
 lia
def BR{a:Type}(xs:List a)(u v:a):Nx (xs++[u]++[v]) (-2)=some u:=by have:=bg (xs:=xs++[u]++[v]) (j:=xs.length) (v:=u) (by simp);unfold Nx at this ⊢;rw[show ixN (xs++[u]++[v]).length (-2)=some xs.length by unfold ixN;simp;lia];simp
def fm{a b:Int}(c:0<b):0<=a.fmod b/\a.fmod b<b:=⟨Z2 a c,Int.fmod_lt_of_pos a c⟩
def V0{n:Nat}{x:Int}(m:Nat)(h:x.natAbs<m)(a:m<=2 ^ n):Bd n x:=Of h a
def p12:((10:Int) ^ (12:Int).toNat)=1000000000000:=by decide
def AR:As 10 12:=⟨by decide,by decide,by decide⟩
def Tz(p:Sp):yaf:=[p.1,p.2]
def Gm(ps:yau):ps.map MA=(ps.map Tz).map PD.tupI:=by rw[NY];rfl
def cS(ys ps:yau):Prop:=ys.Pairwise (λp q=>p.1<q.1∨(p.1=q.1/\p.2<q.2))/\∀p,p∈ys↔p∈ps
def Dl{ps:yau}(h:PD.BP a (ps.map Tz)):∃ys:yau,a=ys.map Tz/\cS ys ps:=by
 obtain⟨d,b⟩:=h;have f:∀z∈a,∃p:Sp,z=Tz p:=λz c=>by obtain⟨p,_,e⟩:=M4.mp ((b z).mp c);exact⟨p,e.symm⟩
 have g:∃ys:yau,a=ys.map Tz:=by
  clear d b
  induction a with
  |nil=>exact⟨[],rfl⟩
  |cons z a ih =>
   obtain⟨p,e⟩:=f z OB;obtain⟨ys,a⟩:=ih λz c=>f z (Ni _ c)
   exact⟨p::ys,by rw[e,a];rfl⟩
 obtain⟨ys,rfl⟩:=g;have a:∀{p q:Sp},Tz p=Tz q->p=q:=fun {p q} e=>by unfold Tz at e;simp only[SQ,and_true]at e;exact QX e.1 e.2
 refine⟨ys,rfl,?_,λp=>?_⟩
 ·refine(List.pairwise_map.mp d).imp fun {p q} e=>?_
  unfold Tz SW.lexLt at e;split at e
  ·rename_i c;unfold SW.lexLt at e;split at e
   ·cases e
   ·exact .inr ⟨c,by simpa using e⟩
  ·exact .inl (by simpa using e)
 ·constructor
  ·intro d;obtain⟨q,c,e⟩:=M4.mp ((b (Tz p)).mp (M4.mpr ⟨p,d,rfl⟩));rw[<- a e];exact c
  ·intro d;obtain⟨q,c,e⟩:=M4.mp ((b (Tz p)).mpr (M4.mpr ⟨p,d,rfl⟩));rw[<- a e];exact c
def wJ(xs:yas):PD.cutD xs none (some (-1))=xs.dropLast:=by
 unfold PD.cutD;rw[List.dropLast_eq_take];have b:HT.MZ xs.length 0 none=0:=rfl;have a:HT.MZ xs.length xs.length (some (-1))=xs.length - 1:=by
  unfold HT.MZ;cases xs with
  |nil=>rfl
  |cons x xs=>simp;lia
 rw[b,a];simp
theorem gh:∀(acc ps:yau),(bQ acc ps).length<=acc.length+ps.length
 |acc,[]=>MS _
 |acc,e::a=>by
  have:=gh (e::cJ acc e) a;have h2:=Fo acc e;show(bQ (e::cJ acc e) a).length<=_;simp at this ⊢
  lia
theorem CS:∀{ys ps:yau},ys.Nodup->(∀p∈ys,p∈ps)->ys.length<=ps.length
 |[],_,_,_=>N9 _
 |y::ys,ps,b,h=>by
  obtain⟨d,c⟩:=R0.mp b;have m:=h y OB;have r:=CS (ps:=ps.erase y) c λp a=>(List.mem_erase_of_ne (λe=>by subst e;exact d a)).mpr (h p (Ni _ a))
  rw[List.length_erase_of_mem m]at r;have:0<ps.length:=List.length_pos_of_mem m;rw[P5]
  lia
def qR(h:cS ys ps):ys.length<=ps.length:=by
 have a:ys.Nodup:=h.1.imp fun {p q} c e=>by subst e;lia
 exact CS a λp a=>(h.2 p).mp a
def aL(ys:yau):yau:=(bQ [] ys).reverse
def aQ(ys:yau):yau:=if ys.length<2 then ys else(aL ys).dropLast++(aL ys.reverse).dropLast
def wF{a:Type}{wi:DA}{js:yag}{te:DE}{Q:D->Prop}{P:List a->Prop}(f g:a->D)(b:∀R:yas->Prop,(∀ys,P ys->R (ys.map f))->wi ρ R)(hz:∀ys,P ys->ys.length<=sizeLine)
  (c:∀ys,P ys->∀x∈ys,∀K:D->Prop,K (g x)->te (some (.val (f x))::js.map (bA ρ)) K) (q:∀ys,P ys->Q (.lst true (ys.map g))):kS wi js qA te ρ Q:=by
 refine b _ λys a=>?_
 have:=PD.comp_map (wi:=λ_ R=>R (ys.map f)) (js:=js) (tc:=qA) (te:=te) (ρ:=ρ) (Q:=Q) ys f (λ_=>true) g (λR h=>h) (hz ys a) (λx b K k=>k) (λx b _ K k=>c ys a x b K k) (by rw[QJ.mpr (λ_ _=>rfl)];exact q ys a);exact this
structure SB(p:Sp):Prop where
 x:Bd 60 p.1
 y:Bd 60 p.2
def gg(p q:Sp):Prop:=p.1<q.1∨(p.1=q.1/\p.2<q.2)
def cD(a b e:Sp):cr a b e=(b.1 - a.1)*(e.2 - a.2) - (b.2 - a.2)*(e.1 - a.1):=by unfold cr sw;grind
def fA(A B:Int)(p:Sp):Int:=A*p.1+B*p.2
def cx(a b c d:Sp):Int:=(b.1 - a.1)*(d.2 - c.2) - (b.2 - a.2)*(d.1 - c.1)
def AS(A B:Int)(a b c d e g:Sp):cx a b e g*(fA A B d - fA A B c)=cx c d e g*(fA A B b - fA A B a)+cx a b c d*(fA A B g - fA A B e):=by unfold cx fA;grind
def Fp{x y:Int}(h:0<x*y)(a:0<y):0<x:=by
 by_cases c:0<x
 ·exact c
 ·have:=OA (show 0<=-x by lia) (N8 a);rw[Qc]at this
  lia
def J3{x y:Int}(h:0<=x*y)(a:0<y):0<=x:=by
 by_cases c:0<=x
 ·exact c
 ·have:=RP (show 0 < -x by lia) a;rw[Qc]at this
  lia
def FW(h1:fA A B a<fA A B b)(h2:fA A B c<fA A B d)(h3:fA A B e<fA A B g)(p:0<cx a b c d)(q:0<=cx c d e g):0<cx a b e g:=by have i:=AS A B a b c d e g;have u:=OA q (show 0<=fA A B b - fA A B a by lia);have v:=RP p (show 0<fA A B g - fA A B e by lia);exact Fp (y:=fA A B d - fA A B c) (by lia) (by lia)
def FV(h1:fA A B a<fA A B b)(h2:fA A B c<fA A B d)(h3:fA A B e<fA A B g)(p:0<=cx a b c d)(q:0<cx c d e g):0<cx a b e g:=by have i:=AS A B a b c d e g;have u:=RP q (show 0<fA A B b - fA A B a by lia);have v:=OA p (show 0<=fA A B g - fA A B e by lia);exact Fp (y:=fA A B d - fA A B c) (by lia) (by lia)
def KW(h1:fA A B a<fA A B b)(h2:fA A B c<fA A B d)(h3:fA A B e<fA A B g)(p:0<=cx a b c d)(q:0<=cx c d e g):0<=cx a b e g:=by have i:=AS A B a b c d e g;have u:=OA q (show 0<=fA A B b - fA A B a by lia);have v:=OA p (show 0<=fA A B g - fA A B e by lia);exact J3 (y:=fA A B d - fA A B c) (by lia) (by lia)
def cx1(a b e:Sp):cr a b e=cx a b a e:=by rw[cD];rfl
def cx2(a b e:Sp):cr a b e=cx a b b e:=by rw[cD];unfold cx;grind
def cx3(a b e:Sp):cr a b e=cx a e b e:=by rw[cD];unfold cx;grind
def cx4(a b e:Sp):cr a b e=cx e a a b:=by rw[cD];unfold cx;grind
def cx5(a b e:Sp):cr a b e=cx e b a b:=by rw[cD];unfold cx;grind
def GK(a b c d:Sp):cx a b c d=- cx c d a b:=by unfold cx;grind
def IU(a b:Sp):cr a b a=0:=by rw[cD];grind
def IV(a b:Sp):cr a b b=0:=by rw[cD];grind
structure V1(A B:Int)(st done:yau):Prop where
 e2:∀b a r,(b::a::r) <:+ st->∀p∈done,0<=cr a b p
 e3:∀c b a r,(c::b::a::r) <:+ st->0<cr a b c
 ord:st.Pairwise λb a=>fA A B a<fA A B b
 mem:∀p∈st,p∈done
 top:∀b r,st=b::r->∀p∈done,fA A B p<=fA A B b
 bot:done ≠ []->∃pre a,st=pre++[a]/\∀p∈done,fA A B a<=fA A B p
def BB{b a:Sp}{r st:yau}(h:b::a::r <:+ st)(o:st.Pairwise R):R b a:=by obtain⟨pre,rfl⟩:=h;exact(QK.mp (Ya.mp o).2.1).1 a OB
theorem Di(I:V1 A B st0 done)(d:∀p∈done,fA A B p<fA A B x):∀(st:yau),st <:+ st0->(∀b r,st=b::r->∀p∈done,fA A B b<fA A B p->0<=cr b x p) →
  (∀b a r,cJ st x=b::a::r->0<cr a b x)/\(∀b r,cJ st x=b::r->∀p∈done,fA A B b<fA A B p->0<=cr b x p)
 |[],_,h=>⟨λb a r e=>(by cases e),λb r e=>(by cases e)⟩
 |[b],_,h=>⟨λb a r e=>(by cases e),h⟩
 |b::a::r,s,h=>by
  unfold cJ;split
  ·rename_i c;refine Di I d (a::r) (List.IsSuffix.trans (List.suffix_cons _ _) s) λk g e p j i=>?_
   cases e;have o:=BB s I.ord;have f:=I.e2 b a r s p j;have b:=d a (I.mem a (s.subset (by simp)));rw[cx1]at f c ⊢;rw[GK]at c;exact KW b o i (by lia) f
  ·rename_i c;refine⟨λk a' g e=>?_,h⟩;cases e
   lia
theorem far(I:V1 A B st0 done)(c:∀p∈done,fA A B p<fA A B x):∀(st:yau),st <:+ st0->(∀b a r,st=b::a::r->0<cr a b x)->∀b a r,b::a::r <:+ st->0<cr a b x
 |[],_,_=>λb a r e=>by have:=e.length_le;simp at this
 |b::st,s,h=>λf g b e=>by
  rcases List.suffix_cons_iff.mp e with q|q
  ·exact h _ _ _ q.symm
  ·refine far I c st (List.IsSuffix.trans (List.suffix_cons _ _) s) (λa a0 r d=>?_) f g b q;subst d;have d:=h _ _ _ rfl;have b:=I.e3 _ _ _ _ s;have g:=BB s I.ord;have f:=BB (List.IsSuffix.trans (List.suffix_cons _ _) s) I.ord;have e:=c a (I.mem a (s.subset (by simp)));rw[cx2]at b ⊢;rw[cx1]at d;exact FW f g e b (N8 d)
theorem zU:∀{st:yau},st ≠ []->cJ st x ≠ []
 |[],h=>absurd rfl h
 |[b],_=>by simp[cJ]
 |b::a::r,_=>by
  unfold cJ;split
  ·exact zU (by simp)
  ·simp
def EO{A B:Int}{st done:yau}{x:Sp}(I:V1 A B st done)(g:∀p∈done,fA A B p<fA A B x)(k:∀p∈done,∀q∈done,fA A B p=fA A B q->p=q)(t:done=[]->st=[]):V1 A B (x::cJ st x) (done++[x]):=by
 have s:cJ st x <:+ st:=by obtain⟨f,q⟩:=qQ st x;exact⟨f,q.symm⟩
 obtain⟨l,u⟩:=Di I g st (List.suffix_refl _) λb r e p d lt=>absurd (I.top b r e p d) (by lia)
 have F:=far I g _ s l;refine⟨λb a r e p d=>?_,λc b a r e=>?_,?_,λp d=>?_,λb r e p d=>?_,λ_=>?_⟩
 ·rcases List.suffix_cons_iff.mp e with q|q
  ·injection q with q1 q2;subst q1;rcases Nu.mp d with d|d
   ·rcases Vy (fA A B p) (fA A B a)with c|c|c
    ·rcases r with _|⟨a0,r⟩
     ·obtain⟨f,a',b,h⟩:=I.bot (List.ne_nil_of_mem d);rw[<- q2]at s;obtain⟨j,i⟩:=s;rw[b]at i;have:=List.append_inj_right' i (by simp);simp at this;have:=h p d
      subst_vars
      lia
     ·have h:=l _ _ _ q2.symm;rw[<- q2]at s;have m:=I.e2 _ _ _ s p d;have o:=BB s I.ord;have n:=g a (I.mem a (s.subset (by simp)));rw[cx2]at h;rw[cx5]at m;rw[cx4];exact N8 (FV c o n m h)
    ·rw[k p d a (I.mem a (s.subset (by rw[<- q2];simp))) c,IU];exact PR _
    ·exact u _ _ q2.symm p d c
   ·rw[Oy.mp d,IV];exact PR _
  ·rcases Nu.mp d with d|d
   ·exact I.e2 _ _ _ (q.trans s) p d
   ·rw[Oy.mp d];exact N8 (F _ _ _ q)
 ·rcases List.suffix_cons_iff.mp e with q|q
  ·injection q with q1 q2;subst q1;exact l _ _ _ q2.symm
  ·exact I.e3 _ _ _ _ (q.trans s)
 ·exact QK.mpr ⟨λa c=>g a (I.mem a (s.subset c)),I.ord.sublist s.sublist⟩
 ·rcases MD.mp d with q|q
  ·rw[q];simp
  ·exact RV _ (I.mem p (s.subset q))
 ·injection e with b i;subst b;rcases Nu.mp d with q|q
  ·exact N8 (g p q)
  ·rw[Oy.mp q];exact PR _
 ·by_cases c:done=[]
  ·rw[t c,c];exact⟨[],x,rfl,λp d=>by simp at d;rw[d];exact PR _⟩
  ·obtain⟨f,a,b,h⟩:=I.bot c;obtain⟨j,i⟩:=s;have j:cJ st x ≠ []:=zU (by rw[b];simp);obtain⟨e,c,f⟩:∃e c,cJ st x=e++[c]:=⟨_,_,(Xb j).symm⟩;have:c=a:=by
    rw[f,b,<- Ss]at i;have:=List.append_inj_right' i (by simp);simpa using this
   subst this;refine⟨x::e,c,by rw[f];rfl,λp d=>?_⟩;rcases Nu.mp d with q|q
   ·exact h p q
   ·rw[Oy.mp q];exact N8 (g c (I.mem c (by rw[b];simp)))
theorem uY:∀(es st done:yau),V1 A B st done->(done=[]->st=[])->(done++es).Pairwise (λp q=>fA A B p<fA A B q)->V1 A B (bQ st es) (done++es)
 |[],st,done,I,_,_=>by rw[Tn];exact I
 |x::es,st,done,I,h,o=>by
  obtain⟨g,o2,f⟩:=Ya.mp o;have d:∀(l:yau),l.Pairwise (λp q=>fA A B p<fA A B q)->∀p∈l,∀q∈l,fA A B p=fA A B q->p=q:=by
   intro l
   induction l with
   |nil=>intro _ p c;cases c
   |cons y l ih =>
    intro o p c q b e;obtain⟨u,v⟩:=QK.mp o;rcases MD.mp c with a|a<;>rcases MD.mp b with b|b
    ·rw[a,b]
    ·have:=u q b;rw[a]at e;lia
    ·have:=u p a;rw[b]at e;lia
    ·exact ih v p a q b e
  have:=uY es (x::cJ st x) (done++[x]) (EO I (λp c=>f p c x OB) (d done g) h) (by simp) (by rw[Ss];exact o);rw[Ss]at this;exact this
def G9(A B:Int):V1 A B [] []:=⟨λb a r e=>by have:=e.length_le;simp at this,λc b a r e=>by have:=e.length_le;simp at this,.nil,λp a=>a,λb r e=>(by cases e),λh=>absurd rfl h⟩
def JQ{ys:yau}(o:ys.Pairwise λp q=>fA A B p<fA A B q):V1 A B (bQ [] ys) ys:=by have:=uY ys [] [] (G9 A B) (λ_=>rfl) (by simpa using o);simpa using this
structure Way(A B:Int)(ps:yau)(n:Nat)(l:Nat->Sp):Prop where
 two:2<=n
 ND:∀i,i+1<n->∀p∈ps,0<=cr (l i) (l (i+1)) p
 Q7:∀i,i+2<n->0<cr (l i) (l (i+1)) (l (i+2))
 rise:∀i j,i<j->j<n->fA A B (l i)<fA A B (l j)
 mem:∀i,i<n->l i∈ps
 lo:∀p∈ps,fA A B (l 0)<=fA A B p
 hi:∀p∈ps,fA A B p<=fA A B (l (n - 1))
def cB(A B:Int)(p:Sp):fA (-A) (-B) p=- fA A B p:=by unfold fA;grind
def FH{n m:Nat}(L:Way A B ps (n+2) l)(U:Way (-A) (-B) ps (m+2) u)(f:l (n+1)=u 0)(h:0<n+m):0<cr (l n) (l (n+1)) (u 1):=by
 have d:=L.rise n (n+1) (QL _) (QL _);have c:=U.rise 0 1 Nat.one_pos (Uu (Rg _));rw[cB,cB,Int.neg_lt_neg_iff]at c;rw[f]at d ⊢;have g:cr (l n) (u 0) (u 1)=cx (u 1) (u 0) (l n) (u 0):=by rw[cD];unfold cx;grind
 rw[g];cases n with
 |succ a =>
  have b:=L.Q7 a (QL _);have o:=L.rise a (a+2) (Nat.lt_add_of_pos_right (by decide)) (QL _);have e:=U.ND 0 (Uu (Rg _)) (l a) (L.mem a (Nat.lt_add_of_pos_right (k:=3) (by decide)));have i:l (a+2)=u 0:=f;rw[i]at o b;have g:cr (u 0) (u 1) (l a)=cx (u 1) (u 0) (l a) (u 0):=by rw[cD];unfold cx;grind
  rw[g]at e;rw[cx3]at b;exact FV (A:=A) (B:=B) c o d e b
 |zero =>
  cases m with
  |zero=>exact absurd h (Ru _)
  |succ m =>
   have b:=U.Q7 0 (Uu (Uu (Rg _)));have o:=U.rise 0 2 (by decide) (Uu (Uu (Rg _)));rw[cB,cB,Int.neg_lt_neg_iff]at o;have e:=L.ND 0 (QL _) (u 2) (U.mem 2 (Uu (Uu (Rg _))));have i:l (0+1)=u 0:=f;rw[i]at e;have g:cr (l 0) (u 0) (u 2)=cx (u 2) (u 0) (l 0) (u 0):=by rw[cD];unfold cx;grind
   have f:cr (u 0) (u 1) (u 2)=cx (u 1) (u 0) (u 2) (u 0):=by rw[cD];unfold cx;grind
   rw[g]at e;have a:0<cx (u 1) (u 0) (u 2) (u 0):=by rw[<- f];exact b
   exact FW (A:=A) (B:=B) c o d a e
def zZ{n m:Nat}{h:Nat->Sp}(L:Way A B ps (n+2) l)(U:Way (-A) (-B) ps (m+2) u)(g:l (n+1)=u 0)(i:u (m+1)=l 0)(f:0<n+m)
  (b:∀k,k<n+2->h k=l k) (d:∀j,j<m+1->h (n+1+j)=u j):(∀k,k<n+m+2->∀p∈ps,0<=cr (h ((k+(n+m+2) - 1) % (n+m+2))) (h k) p)/\0<cr (h 0) (h 1) (h 2):=by
 refine⟨λk c p a=>?_,?_⟩
 ·cases k with
  |zero =>
   have e:(0+(n+m+2) - 1) % (n+m+2)=n+1+m:=by rw[QM];show(n+m+1) % (n+m+2)=_;rw[Pm (QL _),Nat.add_right_comm]
   rw[e,d m (QL _),b 0 (Rg _),<- i];exact U.ND m (QL _) p a
  |succ k =>
   have e:(k+1+(n+m+2) - 1) % (n+m+2)=k:=by rw[Nat.add_right_comm];show(k+(n+m+2)) % (n+m+2)=k;rw[Xl,Pm (Xm c)]
   rw[e];by_cases c:k+1<n+2
   ·rw[b k (Xm c),b (k+1) c];exact L.ND k c p a
   ·obtain⟨j,rfl⟩:=Nat.le.dest (Nat.le_of_succ_le_succ (US c));have c:j+1<m+1:=by lia
    rw[d j (Xm c),Nat.add_assoc,d (j+1) c];exact U.ND j (UP c) p a
 ·cases n with
  |succ a =>
   have z:2<a+1+2:=Uu (Uu (Rg _));rw[b 0 (Rg _),b 1 (Xm z),b 2 z];exact L.Q7 0 z
  |zero =>
   have z:1<m+1:=by lia
   rw[b 0 (by decide),b 1 (by decide),show h 2=u 1 from d 1 z];exact FH L U g f
def tE{ys:yau}(o:ys.Pairwise λp q=>fA A B p<fA A B q)(d:2<=ys.length):Way A B ys (aL ys).length λi=>(aL ys).getD i (0,0):=by
 have I:=JQ o;obtain⟨c,a,h,l⟩:=I.bot (by intro e;rw[e]at d;simp at d);have g:2<=(aL ys).length:=by
  unfold aL;rw[RW,h];rcases c with _|⟨b,c⟩
  ·exfalso;have t:=I.top a [] (by simpa using h);rcases ys with _|⟨f,_|⟨c,r⟩⟩
   ·simp at d
   ·simp at d
   ·have q:=(QK.mp o).1 c (by simp);have q1:=l f (by simp);have f:=t c (by simp)
    lia
  ·simp
 have sp1:∀i,i<(aL ys).length->(aL ys)[i]?=some ((aL ys).getD i (0,0)):=λi c=>by rw[Nz,M5 c];rfl
 have k:bQ [] ys=(aL ys).reverse:=by unfold aL;rw[List.reverse_reverse]
 refine⟨g,λi c p d=>?_,λi c=>?_,λi j m g=>?_,λi c=>?_,λp d=>?_,λp d=>?_⟩
 ·refine I.e2 _ _ ((aL ys).take i).reverse ⟨((aL ys).drop (i+2)).reverse,?_⟩ p d;rw[k];have q:=Xg i (aL ys);rw[UK (show i<(aL ys).length by lia),UK c]at q;have f:=congrArg List.reverse q;simp only[Nz,M5 (show i<(aL ys).length by lia),M5 c,We];simpa only[List.reverse_append,Wa,Ss,PQ,QV]using f
 ·refine I.e3 _ _ _ ((aL ys).take i).reverse ⟨((aL ys).drop (i+3)).reverse,?_⟩;rw[k];have q:=Xg i (aL ys);rw[UK (show i<(aL ys).length by lia),UK (show i+1<(aL ys).length by lia),UK c]at q;have f:=congrArg List.reverse q;simp only[Nz,M5 (show i<(aL ys).length by lia),M5 (show i+1<(aL ys).length by lia),M5 c,We];simpa only[List.reverse_append,Wa,Ss,PQ,QV]using f
 ·have f:(aL ys).Pairwise λa b=>fA A B a<fA A B b:=by
   unfold aL;exact List.pairwise_reverse.mpr I.ord
  have:=(TG.mp f) i j (by lia) g m;simp only[Nz,M5 (show i<(aL ys).length by lia),M5 g,We];exact this
 ·refine I.mem _ ?_;rw[k,UR];exact NF (sp1 i c)
 ·have:(aL ys).getD 0 (0,0)=a:=by unfold aL;rw[h];simp
  show fA A B ((aL ys).getD 0 (0,0))<=_;rw[this];exact l p d
 ·have e:=sp1 ((aL ys).length - 1) (by lia);generalize (aL ys).getD ((aL ys).length - 1) (0,0)=b at e ⊢;refine I.top b (bQ [] ys).tail ?_ p d;rw[<- zDe]at e;unfold aL at e;rw[List.getLast?_reverse]at e;cases hc:bQ [] ys with
  |nil=>rw[hc]at e;simp at e
  |cons x r=>rw[hc]at e;simp at e;rw[e];rfl
theorem xc:∀{l:yau},l.Pairwise (λp q=>fA A B p<fA A B q)->∀p∈l,∀q∈l,fA A B p=fA A B q->p=q
 |[],_,p,a=>by cases a
 |y::l,o,p,a=>λq b e=>by
  obtain⟨u,v⟩:=QK.mp o;rcases MD.mp a with a|a<;>rcases MD.mp b with b|b
  ·rw[a,b]
  ·have:=u q b;rw[a]at e;lia
  ·have:=u p a;rw[b]at e;lia
  ·exact xc v p a q b e
def Way.to{ps qs:yau}(h:∀p,p∈qs↔p∈ps)(W:Way A B ps n l):Way A B qs n l :=
 ⟨W.two,λi b p a=>W.ND i b p ((h p).mp a),W.Q7,W.rise,λi b=>(h _).mpr (W.mem i b),λp a=>W.lo p ((h p).mp a),λp a=>W.hi p ((h p).mp a)⟩
theorem Ek:∀ys:yau,∃M:Int,0<M/\∀p∈ys,-M<p.2/\p.2<M
 |[]=>⟨1,by decide,λp a=>by cases a⟩
 |y::ys=>by
  obtain⟨M,h0,h⟩:=Ek ys;refine⟨M+y.2.natAbs+1,by lia,λp a=>?_⟩;rcases MD.mp a with q|q
  ·rw[q];lia
  ·have:=h p q;lia
def sj{M:Int}{p q:Sp}(h0:0<M)(hp:-M<p.2/\p.2<M)(hq:-M<q.2/\q.2<M)(h:gg p q):fA (2*M) 1 p<fA (2*M) 1 q:=by
 unfold fA;rcases h with h|⟨a,h2⟩
 ·have:=zDN (show p.1+1<=q.1 by lia) (show 0<=2*M by lia);rw[Int.mul_add]at this
  lia
 ·rw[a];lia
def bP(hs:yau)(k:Nat):Sp:=hs.getD ((k+hs.length - 1) % hs.length) (0,0)
structure mw(hs ps:yau):Prop where
 mem:∀p∈hs,p∈ps
 len:hs.length<=2*ps.length
 RE:ps ≠ []->∃a r,hs=a::r/\∀p∈ps,¬gg p a
 one:∀a,hs=[a]->∀p∈ps,p=a
 two:∀a b,hs=[a,b]->a≠b/\∀p∈ps,cr a b p=0/\¬gg b p
 ND:2<hs.length->∀k,k<hs.length->∀p∈ps,0<=cr (bP hs k) (hs.getD k (0,0)) p
 Q7:2<hs.length->0<cr (hs.getD 0 (0,0)) (hs.getD 1 (0,0)) (hs.getD 2 (0,0))
def dH(h:cS ys ps):mw (aQ ys) ps:=by
 have yl:=qR h;obtain⟨o,f⟩:=h;unfold aQ;by_cases c:ys.length<2
 ·rw[Ml c];refine⟨λp d=>(f p).mp d,by lia,λe=>?_,λa e p d=>?_,λa b e=>?_,λq=>absurd q (by lia),λq=>absurd q (by lia)⟩
  ·rcases ys with _|⟨y,_|⟨z,r⟩⟩
   ·cases ps with
    |nil=>exact absurd rfl e
    |cons y r=>have:=(f y).mpr OB;cases this
   ·refine⟨y,[],rfl,λp d=>?_⟩;have:=(f p).mpr d;rw[Oy.mp this];exact λq=>q.elim (SY _) λq=>SY _ q.2
   ·exact absurd c (by simp)
  ·have:=(f p).mpr d;rw[e]at this;exact Oy.mp this
  ·rw[e]at c;simp at c
 ·rw[Mj c];obtain⟨M,m,i⟩:=Ek ys;have k:ys.Pairwise λp q=>fA (2*M) 1 p<fA (2*M) 1 q:=by
   refine List.Pairwise.imp_of_mem ?_ o;intro p q d g h;exact sj m (i p d) (i q g) h
  have n:ys.reverse.Pairwise λp q=>fA (-(2*M)) (-1) p<fA (-(2*M)) (-1) q:=by refine List.pairwise_reverse.mpr (k.imp ?_);intro p q h;rw[cB,cB];exact Int.neg_lt_neg h
  have L:=(tE k (US c)).to (qs:=ps) λp=>(f p).symm
  have U:=(tE n (by rw[RW];exact US c)).to (qs:=ps) λp=>by rw[UR];exact(f p).symm
  have h:(aL ys).length<=ys.length:=by have:=gh [] ys;unfold aL;rw[RW];simpa using this
  have c:(aL ys.reverse).length<=ys.length:=by have:=gh [] ys.reverse;unfold aL;rw[RW];simpa using this
  generalize aL ys=l at L h ⊢;generalize aL ys.reverse=u at U c ⊢;have j:∀p∈ps,∀q∈ps,fA (2*M) 1 p=fA (2*M) 1 q->p=q:=λp d q g e=>xc k p ((f p).mpr d) q ((f q).mpr g) e
  have y:∀p∈ps,∀q∈ps,fA (2*M) 1 p<=fA (2*M) 1 q->¬gg q p:=λp d q g e x =>
   Int.not_le_of_gt (sj m (i q ((f q).mpr g)) (i p ((f p).mpr d)) x) e
  generalize 2*M=A at L U j y;clear k n i m o f;obtain⟨n,o⟩:∃n,l.length=n+2:=⟨l.length - 2,by have:=L.two;lia⟩;obtain⟨m,f⟩:∃m,u.length=m+2:=⟨u.length - 2,by have:=U.two;lia⟩;have c:(l.dropLast++u.dropLast).length=n+m+2:=by
   rw[Od,TJ,TJ,o,f];show n+1+(m+1)=_
   lia
  have g:∀{w:yau} {x:Sp},x∈w.dropLast->x∈w:=fun {w x} h=>(List.dropLast_sublist w).subset h
  have C:∀{w:yau} {i:Nat} (h:i<w.length),w.getD i (0,0)=w[i]:=fun {w i} h=>by rw[Nz,M5 h];rfl
  rw[o]at L;rw[f]at U;have w:l.getD (n+1) (0,0)=u.getD 0 (0,0):=by have s:=L.mem (n+1) (QL _);have k:=U.mem 0 (Rg _);have x:=L.hi _ k;have t:=U.lo _ s;rw[cB,cB]at t;exact j _ s _ k (Xs (Z7 t) x)
  have B:u.getD (m+1) (0,0)=l.getD 0 (0,0):=by have s:=L.mem 0 (Rg _);have k:=U.mem (m+1) (QL _);have x:=L.lo _ k;have t:=U.hi _ s;rw[cB,cB]at t;exact j _ k _ s (Xs (Z7 t) x)
  have x:∀j,j<m+1->(l.dropLast++u.dropLast).getD (n+1+j) (0,0)=u.getD j (0,0):=λj k=>by
   have ld:l.dropLast.length=n+1:=by rw[TJ,o];rfl
   rw[Nz,Nz,RI (by rw[ld];exact Vz _ _),ld,Nat.add_sub_cancel_left,Z3,f,Ml (show j<m+2 - 1 from k)]
  have s:∀k,k<n+2->(l.dropLast++u.dropLast).getD k (0,0)=l.getD k (0,0):=λk j=>by
   rcases Nat.lt_or_eq_of_le (Nat.le_of_lt_succ j)with z|z
   ·rw[Nz,Nz,RK (by rw[TJ,o];exact z),Z3,o,Ml (show k<n+2 - 1 from z)]
   ·rw[z,w];exact x 0 (Rg _)
  have t:=s 0 (Rg _);refine⟨λp d=>?_,by rw[c];lia,λe=>?_,λa e=>?_,λa b e=>?_,λq=>?_,λq=>?_⟩
  ·rcases Nu.mp d with z|z
   ·obtain⟨i,h,e⟩:=List.mem_iff_getElem.mp (g z);rw[<- e,<- C h];exact L.mem i (by rw[<- o];exact h)
   ·obtain⟨i,h,e⟩:=List.mem_iff_getElem.mp (g z);rw[<- e,<- C h];exact U.mem i (by rw[<- f];exact h)
  ·cases hh:l.dropLast++u.dropLast with
   |nil=>rw[hh]at c;exact absurd c (by simp)
   |cons a r =>
    rw[hh]at t;refine⟨a,r,rfl,λp d=>?_⟩;rw[show a=l.getD 0 (0,0)from t];exact y _ (L.mem 0 (Rg _)) p d (L.lo p d)
  ·rw[e]at c;simp at c
  ·have f:n=0/\m=0:=by rw[e]at c;simp at c;lia
   obtain⟨rfl,rfl⟩:=f;have f:=s 1 (by decide);rw[e]at t f;have h:a=l.getD 0 (0,0):=t;have e:b=l.getD 1 (0,0):=f;have f:l.getD 1 (0,0)=u.getD 0 (0,0):=w;have g:u.getD 1 (0,0)=l.getD 0 (0,0):=B;refine⟨λi=>?_,λp d=>?_⟩
   ·have:=L.rise 0 1 (by decide) (by decide);rw[<- h,<- e,i]at this;exact SY _ this
   ·have m:=L.ND 0 (by decide) p d;have l:=U.ND 0 (by decide) p d;have i:=L.hi p d;have x1':0<=cr a b p:=by rw[h,e];exact m
    have x2':0<=cr b a p:=by rw[e,f,h,<- g];exact l
    have f:fA A 1 p<=fA A 1 b:=by rw[e];exact i
    have an:cr b a p=- cr a b p:=by rw[cD,cD];grind
    refine⟨by lia,y p d b ?_ f⟩;rw[e];exact L.mem 1 (by decide)
  ·intro k j p d;rw[c]at j q;have R:=(zZ L U w B (by lia) s x).1 k j p d;unfold bP;rw[c];exact R
  ·rw[c]at q;exact(zZ L U w B (by lia) s x).2
def wj{a:Type}(xs:List a)(j b:Nat)(hj:j<xs.length)(hb:b<=xs.length):Nx xs ((j:Int) - (b:Int))=xs[(j+xs.length - b) % xs.length]?:=by
 unfold Nx ixN;by_cases c:b<=j
 ·rw[Ml (by lia),Ml (by lia),show j+xs.length - b=j - b+xs.length by lia,Xl,Pm (by lia)];show xs[((j:Int) - (b:Int)).toNat]?=_;congr 1
  lia
 ·rw[Mj (by lia),Ml (by lia),Pm (by lia)];show xs[((j:Int) - (b:Int)+(xs.length:Int)).toNat]?=_;congr 1
  lia
def Gk(lo a:Int):kE lo a 1=(a - lo).toNat:=by
 unfold kE Builtin.Range.rangeSize;rw[Ml (by decide)];by_cases h:lo<a
 ·rw[Ml h,Int.ediv_one]
  lia
 ·rw[Mj h]
  lia
def jD(n:Nat):jE 0 1 (kE 0 (n:Int) 1)=(List.range' 0 n).map λ(k:Nat)=>D.int (k:Int):=by unfold jE;rw[Gk,show((n:Int) - 0).toNat=n by lia,List.range'_eq_map_range,NY];apply Us;intro k _;simp
def J7(p:Sp):Nm 1 (MA p):=Nm.tup (.cons (.int _ _) (.cons (.int _ _) (.nil _)))
def CY(p:Sp):Nm 1 (Nf p):=Nm.tup (.cons (.int _ _) (.cons (.int _ _) (.cons (.int _ _) (.nil _))))
noncomputable def dJ(a:yag):Nat:=match a.getLast? with
 |none=>0
 |some l=>l+1
def QF(n:Nat)(a:yag):List (yag):=(List.range' (dJ a) (n - dJ a)).map λk=>a++[k]
def Ng(n:Nat):Nat->List (yag)
 |0=>[[]]
 |j+1=>(Ng n j).flatMap (QF n)
def Pk(a:yag):D:=.lst true (a.map λ(k:Nat)=>D.int (k:Int))
theorem gJ:∀{j:Nat} {a:yag},a∈Ng n j->a.length=j/\∀k∈a,k<n
 |0,a,h=>by simp only[Ng,Oy]at h;subst h;simp
 |j+1,a,h=>by
  simp only[Ng,Yi]at h;obtain⟨q,a,h⟩:=h;obtain⟨c,b⟩:=gJ a;unfold QF at h;obtain⟨k,a,rfl⟩:=M4.mp h;rw[RX]at a;refine⟨by simp[c],λx a=>?_⟩;rcases Nu.mp a with z|z
  ·exact b x z
  ·simp at z;subst z;lia
theorem tW(n:Nat):∀j:Nat,(Ng n j).length<=n ^ j
 |0=>by simp[Ng]
 |j+1=>by
  have ih:=tW n j;simp only[Ng];have:∀l:List (yag),(l.flatMap (QF n)).length<=l.length*n:=by
   intro l
   induction l with
   |nil=>simp
   |cons a r ih =>
    rw[List.flatMap_cons,Od,P5,Nat.add_mul];have:(QF n a).length<=n:=by unfold QF;rw[Mq,OO];lia
    lia
  refine Pa (this _) ?_;rw[RO];exact Yb _ ih
def z9(a b:Nat):jE (a:Int) 1 (kE a b 1)=(List.range' a (b - a)).map λ(k:Nat)=>D.int (k:Int):=by unfold jE;rw[Gk,show((b:Int) - (a:Int)).toNat=b - a by lia,List.range'_eq_map_range,NY];apply Us;intro k _;simp
theorem xg(n:Nat):∀l:List (yag),(l.flatMap (QF n)).length<=l.length*n
 |[]=>by simp
 |a::r=>by
  rw[List.flatMap_cons,Od,P5,Nat.add_mul];have:=xg n r;have:(QF n a).length<=n:=by unfold QF;rw[Mq,OO];lia
  lia
def GA{a:yag}(h:a ≠ []){Q:D->Prop}(q:Q (.int ((dJ a:Nat) - 1:Int))):∃d,Nx (a.map λ(k:Nat)=>D.int (k:Int)) (-1)=some d/\Q d:=by
 obtain⟨r,l,rfl⟩:∃r l,a=r++[l]:=⟨a.dropLast,a.getLast h,(Xb h).symm⟩;refine⟨.int l,?_,?_⟩
 ·unfold Nx ixN;rw[Mq,Od];have e:(-1+((r.length:Int)+1)).toNat=r.length:=by lia
  have l:(1:Int)<=(r.length:Int)+1:=by lia
  simp[e,l]
 ·have:((dJ (r++[l]):Nat):Int) - 1=l:=by
   unfold dJ;simp
  rw[<- this];exact q
abbrev Tr:=Int×Int×Int
abbrev yav:=List (Int×Tr)
abbrev yaw:=List Tr
noncomputable def tn(a b:Sp):Int:=a.1*b.2 - b.1*a.2
def MQ(a b:Sp):Int:=a.1*b.1+a.2*b.2
def Mu(h:Tr)(p:Sp):Sp:=(h.1*p.1 - 1*h.2.1,h.1*p.2 - 1*h.2.2)
noncomputable def Mg(g h:Tr):Int:=g.1*h.1+g.2.1*h.2.1+g.2.2*h.2.2
noncomputable def eQ(a b:Sp):Tr:=(a.1*b.2 - b.1*a.2,a.2*1 - b.2*1,1*b.1 - 1*a.1)
def cA(a w:Sp):Tr:=(-(w.1*a.1+w.2*a.2),w.1*1,w.2*1)
def RF(a:Sp):Sp:=(-a.1,-a.2)
noncomputable def QT(a:Sp):Sp:=(-a.2,a.1)
noncomputable def aO(a b:Sp):Sp:=if a=b then(1,0)else(1*b.1 - 1*a.1,1*b.2 - 1*a.2)
def eO(a b:Sp):yaw:=[cA a (aO a b),cA b (RF (aO a b)),cA a (QT (aO a b)),cA a (RF (QT (aO a b)))]
def aK(hs:yau):yaw:=if hs.length<3 then eO (hs.getD 0 (0,0)) (hs.getD (hs.length - 1) (0,0))else(List.range' 0 hs.length).map λk=>eQ (bP hs k) (hs.getD k (0,0))
def tF(a:Sp):Prop:=a=(0,0)
def iz(a b:Sp):Prop:=tn a b=0/\MQ a b<0
def dX(a b e:Sp):Prop:=(0<tn b e/\0<tn e a/\0<tn a b)∨(tn b e<0/\tn e a<0/\tn a b<0)
def cO(a b:Sp):tn a b=- tn b a:=by unfold tn;grind
def pZ(a:Sp):tn a a=0:=by unfold tn;grind
def qF(a b:Sp):MQ a b=MQ b a:=by unfold MQ;grind
def iz.symm(h:iz a b):iz b a:=⟨by have:=cO a b;have:=h.1;lia,by rw[qF];exact h.2⟩
def dX.Vp(h:dX a b e):dX b e a:=by unfold dX at h ⊢;lia
def dX.swap(h:dX a b e):dX b a e:=by
 unfold dX at h ⊢;have:=cO a b;have:=cO b e;have:=cO e a
 lia
def V2(a:Int):0<=a*a:=by
 rcases Int.le_total 0 a with h|h
 ·exact OA h h
 ·have:=OA (show 0<=-a by lia) (show 0<=-a by lia);have e:-a*-a=a*a:=by grind
  lia
def j8{w:Sp}(h:w≠(0,0)):0<MQ w w:=by
 obtain⟨a,b⟩:=w;unfold MQ;dsimp only;have h1:=V2 a;have h2:=V2 b;by_cases d:a=0
 ·by_cases c:b=0
  ·subst d c;exact absurd rfl h
  ·have:b*b≠0:=Xt c c;omega
 ·have:a*a≠0:=Xt d d;omega
def tO{b c:Sp}{y z:Int}(g:0<y)(hz:0<z)(f:y*b.1+z*c.1=0)(e:y*b.2+z*c.2=0):tF b∨iz b c:=by
 by_cases a:b=(0,0)
 ·exact .inl a
 ·right
  have p:=j8 a;have t:z*tn b c=0:=by
   have:z*tn b c=b.1*(y*b.2+z*c.2) - b.2*(y*b.1+z*c.1):=by unfold tn;grind
   rw[this,f,e];simp
  have d:z*MQ b c=- (y*MQ b b):=by
   have:z*MQ b c+y*MQ b b=b.1*(y*b.1+z*c.1)+b.2*(y*b.2+z*c.2):=by unfold MQ;grind
   rw[f,e]at this;simp at this
   lia
  have yy:=RP g p;refine⟨?_,?_⟩
  ·rcases RM.mp t with q|q<;>lia
  ·by_cases q:MQ b c<0
   ·exact q
   ·have:=OA (N8 hz) (show 0<=MQ b c by lia)
    lia
def Ej(a b c:Sp):tn b c*a.1+tn c a*b.1+tn a b*c.1=0/\tn b c*a.2+tn c a*b.2+tn a b*c.2=0:=by unfold tn;constructor<;>grind
def qN{c:Sp}{z:Int}(hz:0<z)(b:z*c.1=0)(a:z*c.2=0):tF c:=by
 rcases RM.mp b with q|q
 ·lia
 ·rcases RM.mp a with r|r
  ·lia
  ·exact QX q r
def GF(hx:0<=tn b c)(hy:0<=tn c a)(hz:0<=tn a b)(hs:0<tn b c+tn c a+tn a b) :
  tF a∨tF b∨tF c∨iz a b∨iz b c∨iz c a∨dX a b c:=by
 obtain⟨e,d⟩:=Ej a b c;by_cases f:tn b c=0
 ·rw[f,Sw]at e d;by_cases g:tn c a=0
  ·rw[g,Sw]at e d;exact .inr (.inr (.inl (qN (z:=tn a b) (by lia) (by lia) (by lia))))
  ·by_cases f:tn a b=0
   ·rw[f,Sw]at e d;exact .inr (.inl (qN (z:=tn c a) (by lia) (by lia) (by lia)))
   ·rcases tO (b:=b) (c:=c) (y:=tn c a) (z:=tn a b) (by lia) (by lia) (by lia) (by lia)with q|q
    ·exact .inr (.inl q)
    ·exact .inr (.inr (.inr (.inr (.inl q))))
 ·by_cases g:tn c a=0
  ·rw[g,Sw]at e d;by_cases f:tn a b=0
   ·rw[f,Sw]at e d;exact .inl (qN (z:=tn b c) (by lia) (by lia) (by lia))
   ·rcases tO (b:=c) (c:=a) (y:=tn a b) (z:=tn b c) (by lia) (by lia) (by lia) (by lia)with q|q
    ·exact .inr (.inr (.inl q))
    ·exact .inr (.inr (.inr (.inr (.inr (.inl q)))))
  ·by_cases f:tn a b=0
   ·rw[f,Sw]at e d;rcases tO (b:=a) (c:=b) (y:=tn b c) (z:=tn c a) (by lia) (by lia) (by lia) (by lia)with q|q
    ·exact .inl q
    ·exact .inr (.inr (.inr (.inl q)))
   ·exact .inr (.inr (.inr (.inr (.inr (.inr (.inl ⟨by lia,by lia,by lia⟩))))))
def nU(h:Tr)(ps:yau):Prop:=(∃p∈ps,tF (Mu h p))∨(∃p∈ps,∃q∈ps,iz (Mu h p) (Mu h q))∨∃ p∈ps,∃q∈ps,∃r∈ps,dX (Mu h p) (Mu h q) (Mu h r)
def Ei{ps:yau}{p q r:Sp}(d:p∈ps)(b:q∈ps)(a:r∈ps)(e:0<=tn (Mu h q) (Mu h r))(c:0<=tn (Mu h r) (Mu h p))(hz:0<=tn (Mu h p) (Mu h q))(hs:0<tn (Mu h q) (Mu h r)+tn (Mu h r) (Mu h p)+tn (Mu h p) (Mu h q)):nU h ps:=by
 rcases GF e c hz hs with c|c|c|c|c|c|c
 ·exact .inl ⟨_,d,c⟩
 ·exact .inl ⟨_,b,c⟩
 ·exact .inl ⟨_,a,c⟩
 ·exact .inr (.inl ⟨_,d,_,b,c⟩)
 ·exact .inr (.inl ⟨_,b,_,a,c⟩)
 ·exact .inr (.inl ⟨_,a,_,d,c⟩)
 ·exact .inr (.inr ⟨_,d,_,b,_,a,c⟩)
def EH(h:Tr)(a b:Sp):tn (Mu h a) (Mu h b)=h.1*Mg (eQ a b) h:=by unfold tn Mu Mg eQ;grind
def G5(h:Tr)(a w:Sp):Mg (cA a w) h=- MQ w (Mu h a):=by unfold Mg cA MQ Mu;grind
def KJ(h:Tr)(a b c:Sp):tn (Mu h b) (Mu h c)+tn (Mu h c) (Mu h a)+tn (Mu h a) (Mu h b)=h.1*(h.1*cr a b c):=by rw[cD];unfold tn Mu;grind
def JZ(u v w:Sp):MQ u v*MQ u w+tn u v*tn u w=MQ u u*MQ v w:=by unfold MQ tn;grind
def uA{u:Sp}(a:u≠(0,0))(c:MQ u v=0)(b:tn u v=0):v=(0,0):=by
 have p:=j8 a;have l:=JZ u v v;rw[c,b]at l;simp only[Sw,To]at l;by_cases c:v=(0,0)
 ·exact c
 ·have:=RP p (j8 c)
  lia
def DH{ps:yau}{a b:Sp}(m:a∈ps)(p:b∈ps)(c:∀g∈eO a b,0<=Mg g h):nU h ps:=by
 unfold eO at c;have k:=c _ (OB);have i:=c _ (Ni _ OB);have g:=c _ (Ni _ (Ni _ OB));have f:=c _ (Ni _ (Ni _ (Ni _ OB)));clear c;rw[G5]at k i g f;have j:aO a b≠(0,0):=by
  unfold aO;split
  ·decide
  ·rename_i n;intro e;rw[R4,QN,QN,QN,QN]at e;exact n (QX (X7 e.1).symm (X7 e.2).symm)
 have o:MQ (RF (aO a b)) (Mu h b)=- MQ (aO a b) (Mu h b):=by unfold MQ RF;grind
 have n:MQ (QT (aO a b)) (Mu h a)=tn (aO a b) (Mu h a):=by unfold MQ QT tn;grind
 have l:MQ (RF (QT (aO a b))) (Mu h a)=- tn (aO a b) (Mu h a):=by unfold MQ RF QT tn;grind
 rw[o,Int.neg_neg]at i;rw[n]at g;rw[l,Int.neg_neg]at f;have d:tn (aO a b) (Mu h a)=0:=Xs (Int.neg_nonneg.mp g) f;have c:MQ (aO a b) (Mu h a)<=0:=Int.neg_nonneg.mp k;clear k g f o n l;by_cases e:a=b
 ·subst e;exact .inl ⟨a,m,uA j (Xs c i) d⟩
 ·have f:Mu h b=((Mu h a).1+h.1*(aO a b).1,(Mu h a).2+h.1*(aO a b).2):=by
   unfold aO;rw[Mj e];unfold Mu;dsimp only;rw[R4];constructor<;>grind
  have k:tn (aO a b) (Mu h b)=0:=by
   rw[f];have:tn (aO a b) ((Mu h a).1+h.1*(aO a b).1,(Mu h a).2+h.1*(aO a b).2)=tn (aO a b) (Mu h a):=by unfold tn;dsimp only;grind
   rw[this,d]
  have e:tn (Mu h a) (Mu h b)=0:=by
   rw[f];have:tn (Mu h a) ((Mu h a).1+h.1*(aO a b).1,(Mu h a).2+h.1*(aO a b).2)=- (h.1*tn (aO a b) (Mu h a)):=by unfold tn;dsimp only;grind
   rw[this,d,UW,Int.neg_zero]
  have l:=JZ (aO a b) (Mu h a) (Mu h b);rw[k,UW,To]at l;by_cases g:MQ (aO a b) (Mu h a)=0
  ·exact .inl ⟨a,m,uA j g d⟩
  ·by_cases f:MQ (aO a b) (Mu h b)=0
   ·exact .inl ⟨b,p,uA j f k⟩
   ·have d:=SK (Int.lt_iff_le_and_ne.mpr ⟨c,g⟩) (Int.lt_iff_le_and_ne.mpr ⟨i,Ne.symm f⟩);refine .inr (.inl ⟨a,m,b,p,e,?_⟩);rw[l]at d;by_cases q:MQ (Mu h a) (Mu h b)<0
    ·exact q
    ·exact absurd d (Tp.mpr (OA (N8 (j8 j)) (Tp.mp q)))
def ED{h:Tr}{ps:yau}{c:Nat->Sp}{N:Nat}(h0:0<h.1)(g:∀i,i<N->c i∈ps)(l:∀i,i+1<N->0<=tn (Mu h (c i)) (Mu h (c (i+1))))(k:0<cr (c 0) (c 1) (c 2)) :
  ∀ d i,N=i+d+3->0<=tn (Mu h (c (i+d+2))) (Mu h (c 0))->0<=tn (Mu h (c 0)) (Mu h (c (i+1)))->(i=0∨0<tn (Mu h (c 0)) (Mu h (c (i+1))))->nU h ps:=by
 have Ql:∀i,i+2<N->0<=tn (Mu h (c (i+2))) (Mu h (c 0))->0<=tn (Mu h (c 0)) (Mu h (c (i+1)))->(i=0∨0<tn (Mu h (c 0)) (Mu h (c (i+1))))->nU h ps:=λi b a e f=>by
  have j:=l (i+1) b;refine Ei (g 0 (V8 (N9 _) b)) (g (i+1) (Xm b)) (g (i+2) b) j a e ?_;rcases f with q|q
  ·subst q;rw[KJ];exact RP h0 (RP h0 k)
  ·exact Int.add_pos_of_nonneg_of_pos (Int.add_nonneg j a) q
 intro d
 induction d with
 |zero =>
  intro i g a e f;exact Ql i (by rw[g];exact QL _) a e f
 |succ d ih =>
  intro i g a e f;have b:i+2<N:=by rw[g];lia
  by_cases z:0<tn (Mu h (c 0)) (Mu h (c (i+2)))
  ·have c:i+1+d+2=i+(d+1)+2:=by lia
   exact ih (i+1) (by rw[g];lia) (by rw[c];exact a) (N8 z) (.inr z)
  ·refine Ql i b ?_ e f;rw[cO];exact Int.neg_nonneg_of_nonpos (Tp.mp z)
def va{h:Tr}(g:mw hs ps)(c:ps ≠ [])(h0:0<h.1)(a:∀b∈aK hs,0<=Mg b h):nU h ps:=by
 obtain⟨a0,r0,b,_⟩:=g.RE c;have f:0<hs.length:=by rw[b];exact Rg _
 have l:∀i,i<hs.length->hs.getD i (0,0)∈ps:=λi b=>by rw[Nz,M5 b];exact g.mem _ (Rf _)
 unfold aK at a;by_cases c:hs.length<3
 ·rw[Ml c]at a;exact DH (l 0 f) (l (hs.length - 1) (Nat.sub_lt f Nat.one_pos)) a
 ·rw[Mj c]at a;obtain⟨d,e⟩:∃d,hs.length=0+d+3:=⟨hs.length - 3,by lia⟩;have m:∀k,k<hs.length->0<=tn (Mu h (bP hs k)) (Mu h (hs.getD k (0,0))):=λk j=>by
   rw[EH];exact OA (N8 h0) (a _ (M4.mpr ⟨k,RX.mpr ⟨N9 _,by rw[QM];exact j⟩,rfl⟩))
  have n:bP hs 0=hs.getD (0+d+2) (0,0):=by unfold bP;rw[QM,e];show hs.getD ((0+d+2) % (0+d+3)) _=_;rw[Pm (QL _)]
  have a:∀k,k+1<hs.length->bP hs (k+1)=hs.getD k (0,0):=λk j=>by unfold bP;rw[Nat.add_right_comm];show hs.getD ((k+hs.length) % hs.length) _=_;rw[Xl,Pm (Xm j)]
  have j:∀i,i+1<hs.length->0<=tn (Mu h (hs.getD i (0,0))) (Mu h (hs.getD (i+1) (0,0))):=λi b=>by have:=m (i+1) b;rw[a i b]at this;exact this
  have a:=m 0 f;rw[n]at a;exact ED (c:=λi=>hs.getD i (0,0)) h0 l j (g.Q7 (by rw[e];lia)) d 0 e a (j 0 (by rw[e];lia)) (.inl rfl)
def uG{u v x y:Int}(e:u*y=v*x)(a:0<u∨(u=0/\0<v))(b:0<x∨(x=0/\0<=y)):0<=u*x+v*y:=by
 rcases a with a|⟨a,c⟩
 ·have d:(u*x+v*y)*u=(u*u+v*v)*x:=by grind
  refine J3 (y:=u) ?_ a;rw[d];refine OA (Int.add_nonneg (V2 u) (V2 v)) ?_;rcases b with q|q
  ·exact N8 q
  ·rw[q.1];exact PR _
 ·subst a;rw[Sw]at e ⊢;rw[Int.zero_add];rcases RM.mp e.symm with q|q
  ·exact absurd c (by rw[q];exact SY _)
  ·rcases b with r|r
   ·exact absurd r (by rw[q];exact SY _)
   ·exact OA (N8 c) r.2
def tX(h:¬gg q p):0<q.1 - p.1∨(q.1 - p.1=0/\0<=q.2 - p.2):=by
 unfold gg at h
 lia
def FJ{a b:Sp}{g:Tr}(i:a≠b)(j:¬gg b a)(d:¬gg p a)(c:¬gg b p)(h0:cr a b p=0)(e:g∈eO a b):0<=Mg g (1,p.1,p.2):=by
 have f:∀w a:Sp,Mg (cA a w) (1,p.1,p.2)=w.1*(p.1 - a.1)+w.2*(p.2 - a.2):=λw a=>by unfold Mg cA;grind
 rw[cD]at h0;have g:(b.1 - a.1)*(p.2 - a.2)=(b.2 - a.2)*(p.1 - a.1):=X7 h0;have m:(b.1 - a.1)*(b.2 - p.2)=(b.2 - a.2)*(b.1 - p.1):=by grind
 have h:0<b.1 - a.1∨(b.1 - a.1=0/\0<b.2 - a.2):=by
  rcases tX j with q|⟨q,r⟩
  ·exact .inl q
  ·refine .inr ⟨q,?_⟩;have:b.2 - a.2≠0:=λz=>i (QX (X7 q).symm (X7 z).symm)
   exact Int.lt_iff_le_and_ne.mpr ⟨r,Ne.symm this⟩
 have l:=uG g h (tX d);have k:=uG m h (tX c);clear h j d c;unfold eO aO at e;rw[Mj i]at e;simp only[MD,OX,or_false]at e;rcases e with q|q|q|q<;>rw[q,f]<;>simp only[RF,QT,QN]
 ·exact l
 ·have:-(b.1 - a.1)*(p.1 - b.1)+-(b.2 - a.2)*(p.2 - b.2)=(b.1 - a.1)*(b.1 - p.1)+(b.2 - a.2)*(b.2 - p.2):=by grind
  rw[this];exact k
 ·rw[Qc,g,Int.add_left_neg];exact PR _
 ·rw[Int.neg_neg,Qc,g,Int.add_right_neg];exact PR _
def qi(g:mw hs ps)(c:ps ≠ []){b:Tr}(a:b∈aK hs){p:Sp}(f:p∈ps):0<=Mg b (1,p.1,p.2):=by
 obtain⟨j,e,d,k⟩:=g.RE c;unfold aK at a;by_cases c:hs.length<3
 ·rw[Ml c]at a;rcases e with _|⟨i,_|⟨z,r⟩⟩
  ·have e:=g.one j d p f;subst e;rw[d]at a;have h:∀w:Sp,Mg (cA p w) (1,p.1,p.2)=0:=λw=>by unfold Mg cA;grind
   unfold eO at a;simp only[List.getD_cons_zero,Vu,Xz,MD,OX,or_false]at a;rcases a with q|q|q|q<;>rw[q,h]<;>exact PR _
  ·have e:=g.two j i d;rw[d]at a;exact FJ e.1 (k i (g.mem i (by rw[d];simp))) (k p f) (e.2 p f).2 (e.2 p f).1 a
  ·rw[d]at c;exact absurd c (by simp)
 ·rw[Mj c]at a;obtain⟨k,c,e⟩:=M4.mp a;have d:k<hs.length:=by
   have:=(RX.mp c).2;rw[QM]at this;exact this
  have a:Mg b (1,p.1,p.2)=cr (bP hs k) (hs.getD k (0,0)) p:=by rw[<- e,cD];unfold Mg eQ;grind
  rw[a];exact g.ND (by lia) k d p f
def bu(w:Sp):Int:=((w.1.natAbs:Nat):Int)+((w.2.natAbs:Nat):Int)
def bM:Int->yaf->Int
 |d,[]=>d
 |d,x::a=>bM ((Int.gcd d x:Nat):Int) a
def c9(xs:yaf):yaf:=xs.map λx=>x.fdiv (bM 0 xs)
def my(a:Sp):Option (yaf):=if bu a=0 then some [1]else none
def lh(a b:Sp):Option (yaf):=if tn a b=0/\MQ a b<0 then some (c9 [bu b,bu a])else none
def jC(a b e:Sp):Option (yaf) :=
 if 0<tn b e/\0<tn e a/\0<tn a b then some (c9 [tn b e,tn e a,tn a b])
 else if tn b e<0/\tn e a<0/\tn a b<0 then some (c9 [-tn b e,-tn e a,-tn a b])else none
def dZ:yau->Option (yaf)
 |[]=>none
 |[a]=>my a
 |[a,b]=>lh a b
 |a::b::e::_=>jC a b e
def QH(a:yau)(b:yag):yau:=b.map λk=>a.getD k (0,0)
def bX(a:yau):List (yag)->Option (yag×yaf)
 |[]=>none
 |pk::r=>match dZ (QH a pk)with
  |some b=>some (pk,b)
  |none=>bX a r
def cw(n:Nat):List (yag):=Ng n 1++(Ng n 2++Ng n 3)
def oG:bu a=0↔a=(0,0):=by
 unfold bu;obtain⟨x,y⟩:=a;simp only[R4]
 lia
theorem u6:∀{a:List (yag)},bX ws a=none->∀b∈a,dZ (QH ws b)=none
 |[],_,b,h=>by cases h
 |a::r,e,b,h=>by
  unfold bX at e;cases hb:dZ (QH ws a)with
  |some s=>rw[hb]at e;cases e
  |none =>
   rw[hb]at e;rcases MD.mp h with q|q
   ·rw[q];exact hb
   ·exact u6 e b q
def qJ{n i:Nat}(h:i<n):[i]∈Ng n 1:=by simp only[Ng,List.flatMap_cons,List.flatMap_nil,Tn];exact M4.mpr ⟨i,RX.mpr ⟨N9 _,by simp[dJ];exact h⟩,rfl⟩
def qK{n i j:Nat}(h:i<j)(hj:j<n):[i,j]∈Ng n 2:=by
 have:=qJ (n:=n) (i:=i) (by lia);refine Yi.mpr ⟨[i],this,M4.mpr ⟨j,RX.mpr ?_,rfl⟩⟩;simp[dJ]
 lia
def EZ{n i j k:Nat}(h:i<j)(hj:j<k)(hk:k<n):[i,j,k]∈Ng n 3:=by
 have:=qK (n:=n) h (by lia);refine Yi.mpr ⟨[i,j],this,M4.mpr ⟨k,RX.mpr ?_,rfl⟩⟩;simp[dJ]
 lia
def GC(h:iz a b):lh a b≠none:=by unfold lh;have c:tn a b=0/\MQ a b<0:=h;rw[Ml c];simp
def GD(h:dX a b e):jC a b e≠none:=by
 unfold jC;rcases h with h|h
 ·rw[Ml h];simp
 ·rw[Mj (by lia),Ml h];simp
def Eh(n:nU h ps):bX (ps.map (Mu h)) (cw ps.length)≠none:=by
 intro e;have N:=u6 e;have c:∀{i:Nat} {p:Sp},ps[i]?=some p->(ps.map (Mu h)).getD i (0,0)=Mu h p:=fun {i p} q=>by rw[Nz,Nj,q];rfl
 have m:∀{i:Nat} {p:Sp},ps[i]?=some p->i<ps.length:=fun {i p} q=>(Nk.mp q).1
 have g:∀i j p q,ps[i]?=some p->ps[j]?=some q->i<j->iz (Mu h p) (Mu h q)->False:=λi j p q e d l b=>by have:=N [i,j] (P4 _ (RV _ (qK l (m d))));unfold QH at this;simp only[MN,Sv,c e,c d]at this;exact GC b this
 have a:∀i j k p q r,ps[i]?=some p->ps[j]?=some q->ps[k]?=some r->i<j->j<k->dX (Mu h p) (Mu h q) (Mu h r)->False:=λi j k p q r e d f l o b=>by have:=N [i,j,k] (P4 _ (P4 _ (EZ l o (m f))));unfold QH at this;simp only[MN,Sv,c e,c d,c f]at this;exact GD b this
 rcases n with⟨p,l,b⟩| ⟨p,l,q,n,b⟩| ⟨p,l,q,n,r,o,b⟩
 ·obtain⟨i,e⟩:=Xf.mp l;have:=N [i] (RV _ (qJ (m e)));unfold QH at this;simp only[MN,Sv,c e]at this;have c:my (Mu h p)=none:=this;unfold my at c;rw[Ml (oG.mpr b)]at c;cases c
 ·obtain⟨i,e⟩:=Xf.mp l;obtain⟨j,d⟩:=Xf.mp n;rcases Wb i j with c|c|c
  ·exact g i j p q e d c b
  ·subst c;rw[e]at d;cases d;have m:=b.2;unfold MQ at m;have:=V2 (Mu h p).1;have:=V2 (Mu h p).2
   lia
  ·exact g j i q p d e c b.symm
 ·obtain⟨i,e⟩:=Xf.mp l;obtain⟨j,d⟩:=Xf.mp n;obtain⟨k,f⟩:=Xf.mp o;have g:∀{i j:Nat} {p q r:Sp},ps[i]?=some p->ps[j]?=some q->dX (Mu h p) (Mu h q) r->i≠j:=fun {i j p q r} e d b c=>by
   subst c;rw[e]at d;cases d;unfold dX at b;rw[pZ]at b
   lia
  have c:=g e d b;have m:=g d f b.Vp;have l:=g f e b.Vp.Vp;rcases Xj c with h|h
  ·rcases Xj m with g|g
   ·exact a i j k p q r e d f h g b
   ·rcases Xj l with c|c
    ·exact a k i j r p q f e d c h b.Vp.Vp
    ·exact a i k j p r q e f d c g b.Vp.Vp.swap
  ·rcases Xj m with g|g
   ·rcases Xj l with c|c
    ·exact a j k i q r p d f e g c b.Vp
    ·exact a j i k q p r d e f h c b.swap
   ·exact a k j i r q p f d e g h b.Vp.swap
theorem xj(k:Int)(a:0<=k):∀(xs:yaf) (d:Int),bM (k*d) (xs.map (k*·))=k*bM d xs
 |[],d=>rfl
 |x::xs,d=>by show bM ((Int.gcd (k*d) (k*x):Nat):Int) (xs.map (k*·))=_;rw[Yh,Int.natCast_mul,Int.natAbs_of_nonneg a,xj k a xs];rfl
structure Snt(A B C E g:Int)(w v:Sp):Prop where
 x:g*v.1=A*w.1+B*w.2
 y:g*v.2=C*w.1+E*w.2
def C7(h:tn a b=0):MQ b b*a.1+(-(MQ a b))*b.1=0/\MQ b b*a.2+(-(MQ a b))*b.2=0:=by
 have d:MQ b b*a.1+(-(MQ a b))*b.1=b.2*tn a b:=by unfold MQ tn;grind
 have c:MQ b b*a.2+(-(MQ a b))*b.2=- (b.1*tn a b):=by unfold MQ tn;grind
 rw[d,c,h];simp
def kA{a:Sp}(h:a≠(0,0)):0<bu a:=by
 have:bu a≠0:=λe=>h (oG.mp e)
 unfold bu at this ⊢
 lia
def Mz(g:Tr):D:=T3 g.1 g.2.1 g.2.2
def Im(h:Mz p=Mz q):p=q:=by unfold Mz T3 at h;simp only[D.tup.injEq,SQ,D.int.injEq,and_true]at h;exact QX h.1 (QX h.2.1 h.2.2)
def Ip{ps qs:yaw}(h:ps.map Mz=qs.map Mz):ps=qs:=jt Im h
def da(p:Tr):aJ (Mz p)=Mz p:=by unfold Mz T3;simp only[cq,br,bH,cH]
def tw(ps:yaw):bf (ps.map Mz)=ps.map Mz:=cE Mz da ps
def oL:Option (yaf)->D
 |none=>.MU
 |some a=>.lst true (a.map D.int)
structure WB(n:Nat)(w:Sp):Prop where
 x:Bd n w.1
 y:Bd n w.2
structure PB(n:Nat)(h:Tr):Prop where
 b0:0<h.1
 b:Bd 100 h.1
 x:Bd n h.2.1
 y:Bd n h.2.2
theorem WB.mono{m:Nat}(h:WB n w)(a:n<=m):WB m w:=⟨h.x.mono a,h.y.mono a⟩
def WB.sb(h:WB 60 w):SB w:=⟨h.x,h.y⟩
def Pe(b:Bd n x)(a:Bd m y)(c:n<=1000:=by decide)(d:m<=1000:=by decide):CM x y:=.inr (.inr ⟨b.mono (Pa c (by decide)),a.mono (Pa d (by decide))⟩)
theorem oC(x:Int):∀(d:Int) (xs:yaf),bM d (xs++[x])=((Int.gcd (bM d xs) x:Nat):Int)
 |d,[]=>rfl
 |d,y::a=>oC x _ a
def pT(h:WB n w):Bd (n+2) (bu w):=by
 have hx:=h.x;have hy:=h.y;unfold Bd bu at *;have:(2:Nat) ^ (n+2)=2 ^ n*4:=Nat.pow_add 2 n 2
 lia
def G4{x:Int}(h:x≠0):0<Int.gcd ((Int.gcd 0 d:Nat):Int) x:=Int.gcd_pos_iff.mpr (.inr h)
def Cq(hx:Bd n x)(h:x≠0):Bd n ((Int.gcd d x:Nat):Int):=by
 unfold Bd at *;have:=Nat.le_of_dvd (by lia) (Int.gcd_dvd_natAbs_right d x)
 lia
def kj(h:Bd n x):Bd n (-x):=by unfold Bd at *;lia
def Jx(p q:Sp):eqD (Nf p) (Nf q)=decide (p=q):=by
 unfold Nf;rw[pN,cM,cM,cM,iI,lV,lV,lV,Bool.and_true];by_cases e:p=q
 ·subst e;simp
 ·rw[SV e];simp only[decide_true,Bool.true_and,Bool.and_eq_false_iff,decide_eq_false_iff_not];by_cases a:p.1=q.1
  ·right;intro b;exact e (QX a b)
  ·left;exact a
def uH{a:Type}{xs:List a}{v:a}(h0:0<xs.length)(h:xs[xs.length - 1]?=some v):Nx xs (-1)=some v:=by unfold Nx ixN;rw[Mj (by lia),Ml (by lia)];show xs[(-1+(xs.length:Int)).toNat]?=_;rw[show(-1+(xs.length:Int)).toNat=xs.length - 1 by lia];exact h
structure GB(g:Tr):Prop where
 a:Bd 200 g.1
 b:Bd 200 g.2.1
 c:Bd 200 g.2.2
def Ee(d:SB a)(c:SB b):WB 62 (aO a b):=by
 unfold aO;split
 ·exact⟨by unfold Bd;decide,by unfold Bd;decide⟩
 ·exact⟨by show Bd 62 (1*b.1 - 1*a.1);rw[QN,QN];exact Bd.mono (m:=61) (c.x.sub d.x) (by decide),by show Bd 62 (1*b.2 - 1*a.2);rw[QN,QN];exact Bd.mono (m:=61) (c.y.sub d.y) (by decide)⟩
def mB(hs:yau):(aK hs).length<=hs.length+4:=by
 unfold aK eO;split
 ·simp
 ·rw[Mq,OO];lia
def uc(n:Nat):Nat->List (yag)
 |0=>Ng n 1++(Ng n 2++(Ng n 3++[]))
 |1=>Ng n 2++(Ng n 3++[])
 |2=>Ng n 3++[]
 |_=>[]
def Dm(n:Nat){j:Nat}(h:j<3):uc n j=Ng n (j+1)++uc n (j+1):=by
 rcases j with _|_|_|j
 ·rfl
 ·rfl
 ·rfl
 ·lia
def Ft(n:Nat):cw n=uc n 0:=by show Ng n 1++(Ng n 2++Ng n 3)=Ng n 1++(Ng n 2++(Ng n 3++[]));rw[Tn]
def CP(a:yau)(b:yag)(r:List (yag)):bX a (b::r)=match dZ (QH a b)with
  |some c=>some (b,c)
  |none=>bX a r:=rfl
def K1{g p b:Int}(hg:0<g)(e:g*p=b)(h:Bd n b):Bd n p:=by
 unfold Bd at *;rw[<- e,VB]at h;have:1*p.natAbs<=g.natAbs*p.natAbs:=Yb _ (by lia)
 lia
def p8:((10:Int) ^ (8:Int).toNat)=100000000:=by decide
def iL(n:Nat)(x:Str)(a:PyData.strOk x=true):Nm n (.str x):=⟨by rw[RB]<;>(intros;contradiction),by rw[NX,PyData.canLay0];exact a,by rw[NX,PyData.depth];exact N9 _⟩
def EG{a:Int}(c:Bd 402 b)(h:b≠0):Bd 1000 (bM 0 [a,b]):=(Cq c h).mono (by decide)
def B8{a:Type}{wi:DA}{js:yag}{tc:DT}{te:DE}{Q:D->Prop}{P:List a->Prop}(f:a->D)(c:a->Bool)(g:a->D)(b:∀R:yas->Prop,(∀ys,P ys->R (ys.map f))->wi ρ R)(hz:∀ys,P ys->ys.length<=sizeLine)
  (e:∀ys,P ys->∀x∈ys,∀K:Bool->Prop,K (c x)->tc (some (.val (f x))::js.map (bA ρ)) K)
  (d:∀ys,P ys->∀x∈ys,∀K:D->Prop,K (g x)->te (some (.val (f x))::js.map (bA ρ)) K) (q:∀ys,P ys->Q (.lst true ((ys.filter c).map g))):kS wi js tc te ρ Q:=by
 refine b _ λys a=>?_
 have:=PD.comp_map (wi:=λ_ R=>R (ys.map f)) (js:=js) (tc:=tc) (te:=te) (ρ:=ρ) (Q:=Q) ys f c g (λR h=>h) (hz ys a) (λx b K k=>e ys a x b K k) (λx b _ K k=>d ys a x b K k) (q ys a);exact this
def gC{c b:DS}{ρ:Ro}(P:Ro->Prop)(d:∀a,P a->b E a)(e:∀K:Ro->Prop,(∀a,P a->K a)->c {E with nx:=K} ρ):Et c b E ρ:=e _ d
def xR:∀{xs ys ps:yau},cS xs ps->cS ys ps->xs=ys:=by
 have j:∀(xs ys:yau),xs.Pairwise (λp q=>gg p q)->ys.Pairwise (λp q=>gg p q)->(∀p,p∈xs↔p∈ys)->xs=ys:=by
  intro xs
  induction xs with
  |nil =>
   intro ys _ _ h;cases ys with
   |nil=>rfl
   |cons y ys=>have:=(h y).mpr OB;cases this
  |cons x xs ih =>
   intro ys b a h;cases ys with
   |nil=>have:=(h x).mp OB;cases this
   |cons y ys =>
    obtain⟨f,i⟩:=QK.mp b;obtain⟨d,g⟩:=QK.mp a;have c:x=y:=by
     rcases MD.mp ((h x).mp OB)with e|e
     ·exact e
     ·rcases MD.mp ((h y).mpr OB)with e'|e'
      ·exact e'.symm
      ·have a:=d x e;have b:=f y e';unfold gg at a b;omega
    subst c;have a:∀p:Sp,¬gg p p:=λp=>by unfold gg;omega
    rw[ih ys i g λp=>⟨λb=>?_,λb=>?_⟩]
    ·rcases MD.mp ((h p).mp (Ni _ b))with e|e
     ·have:=f p b;rw[e]at this;exact absurd this (a x)
     ·exact e
    ·rcases MD.mp ((h p).mpr (Ni _ b))with e|e
     ·have:=d p b;rw[e]at this;exact absurd this (a x)
     ·exact e
 intro xs ys ps b a;exact j xs ys b.1 a.1 λp=>(b.2 p).trans (a.2 p).symm
def okX(x:Int):Prop:=0<=x/\x<2147483647
def wsum(b:yaf)(a:yau):Sp:=((List.zipWith (λs (w:Sp)=>s*w.1) b a).sum,(List.zipWith (λs (w:Sp)=>s*w.2) b a).sum)
theorem mI:∀(d:Int) (xs:yaf),bM d xs∣d/\∀x∈xs,bM d xs∣x
 |d,[]=>⟨Uw _,by simp⟩
 |d,x::xs=>by
  obtain⟨a,b⟩:=mI ((Int.gcd d x:Nat):Int) xs;refine⟨VC a (Int.gcd_dvd_left _ _),λy c=>?_⟩;rcases MD.mp c with z|z
  ·rw[z];exact VC a (Int.gcd_dvd_right _ _)
  ·exact b y z
theorem xk:∀(d:Int) (xs:yaf),0<=d->0<=bM d xs
 |d,[],h=>h
 |d,x::xs,_=>xk _ xs (Int.natCast_nonneg _)
structure AE(xs:yaf):Prop where
 pos:∀s∈c9 xs,0<s
 one:bM 0 (c9 xs)=1
 back:∃g:Int,0<g/\(c9 xs).map (g*·)=xs
def l7{xs:yaf}(a:xs ≠ [])(h:∀x∈xs,0<x):AE xs:=by
 obtain⟨c,d⟩:=ZW xs a;have b:0<bM 0 xs:=by
  have a:=xk 0 xs (PR _);have:bM 0 xs≠0:=λe=>by
   have:=(mI 0 xs).2 c d;rw[e]at this;have:=Int.zero_dvd.mp this;have:=h c d
   lia
  lia
 have a:(c9 xs).map (bM 0 xs*·)=xs:=by
  unfold c9;rw[NY];have:∀x∈xs,((bM 0 xs*·)∘λx=>x.fdiv (bM 0 xs)) x=x:=λx c=>by show bM 0 xs*x.fdiv (bM 0 xs)=x;rw[Int.fdiv_eq_ediv_of_dvd ((mI 0 xs).2 x c)];exact Int.mul_ediv_cancel' ((mI 0 xs).2 x c)
  rw[Us this,List.map_id']
 refine⟨λs c=>?_,?_,_,b,a⟩
 ·have d:bM 0 xs*s∈xs:=by
   have:bM 0 xs*s∈(c9 xs).map (bM 0 xs*·):=M4.mpr ⟨s,c,rfl⟩;rw[a]at this;exact this
  have:=h _ d;exact Fp (y:=bM 0 xs) (by rw[OY];exact this) b
 ·have:=xj (bM 0 xs) (N8 b) (c9 xs) 0;rw[a,UW]at this;have a:bM 0 xs*1=bM 0 xs*bM 0 (c9 xs):=by rw[Int.mul_one];exact this
  exact(zDc (by lia) a).symm
structure vG(ws:yau)(sh:yaf):Prop where
 len:sh.length=ws.length
 pos:∀s∈sh,0<s
 one:bM 0 sh=1
 sum:wsum sh ws=(0,0)
def Iq(h:iz a b):bu b*a.1+bu a*b.1=0/\bu b*a.2+bu a*b.2=0:=by
 have f:b≠(0,0):=λe=>by have:=h.2;rw[e]at this;unfold MQ at this;simp at this
 obtain⟨d,c⟩:=C7 h.1;have g:=j8 f;have f:0 < -(MQ a b):=by have:=h.2;lia
 generalize MQ b b=x at d c g;generalize -(MQ a b)=y at d c f;have l:x*bu a=y*bu b:=by
  have h:x.natAbs*a.1.natAbs=y.natAbs*b.1.natAbs:=by rw[<- VB,<- VB];lia
  have j:x.natAbs*a.2.natAbs=y.natAbs*b.2.natAbs:=by rw[<- VB,<- VB];lia
  have i:=congrArg (λn:Nat=>(n:Int)) h;have h:=congrArg (λn:Nat=>(n:Int)) j;simp only[Int.natCast_mul,Int.natAbs_of_nonneg (N8 g),Int.natAbs_of_nonneg (N8 f)]at i h;unfold bu;rw[Int.mul_add,Int.mul_add,i,h]
 have z:∀u v:Int,x*u+y*v=0->bu b*u+bu a*v=0:=λu v e=>by
  have:x*(bu b*u+bu a*v)=bu b*(x*u+y*v)+v*(x*bu a - y*bu b):=by grind
  rw[e,l,Int.sub_self,UW,UW,To]at this;exact(RM.mp this).resolve_left (by lia)
 exact⟨z _ _ d,z _ _ c⟩
def rE(L:AE xs)(h:wsum xs ws=(0,0)):wsum (c9 xs) ws=(0,0):=by
 obtain⟨g,gp,c⟩:=L.back;have b:∀(f:Sp->Int) (l:yaf) (a:yau),(List.zipWith (λs w=>s*f w) (l.map (g*·)) a).sum=g*(List.zipWith (λs w=>s*f w) l a).sum:=λf l=>by
  induction l with
  |nil=>intro a;simp
  |cons s l ih =>
   intro a;cases a with
   |nil=>simp
   |cons u a =>
    simp only[MN,SM,Qb];rw[ih a,Int.mul_add,Wh]
 unfold wsum at h ⊢;rw[<- c]at h;rw[R4]at h ⊢;rw[b (λw=>w.1),b (λw=>w.2)]at h;have z:∀t:Int,g*t=0->t=0:=λt e=>(RM.mp e).resolve_left (by lia)
 exact⟨z _ h.1,z _ h.2⟩
def nY{i:yau}{g:yaf}(n:i.length<=3)(h:dZ i=some g):vG i g:=by
 rcases i with _|⟨a,_|⟨b,_|⟨e,_|⟨z,r⟩⟩⟩⟩
 ·cases h
 ·have d:my a=some g:=h;unfold my at d;split at d
  ·rename_i c;cases d;have:=oG.mp c;subst this;exact⟨rfl,by simp,rfl,by unfold wsum;simp⟩
  ·cases d
 ·have d:lh a b=some g:=h;unfold lh at d;split at d
  ·rename_i c;cases d;have o:iz a b:=c;have m:a≠(0,0):=λe=>by have:=c.2;rw[e]at this;unfold MQ at this;simp at this
   have l:b≠(0,0):=λe=>by have:=c.2;rw[e]at this;unfold MQ at this;simp at this
   have L:=l7 (xs:=[bu b,bu a]) (by simp) λx f=>by
    simp only[MD,OX,or_false]at f;rcases f with rfl|rfl
    ·exact kA l
    ·exact kA m
   obtain⟨k,j⟩:=Iq o;refine⟨by unfold c9;simp,L.pos,L.one,rE L ?_⟩;unfold wsum;simp only[SM,X9,Qb,VE,To,k,j]
  ·cases d
 ·have d:jC a b e=some g:=h;obtain⟨k,j⟩:=Ej a b e;unfold jC at d;split at d
  ·rename_i c;cases d;have L:=l7 (xs:=[tn b e,tn e a,tn a b]) (by simp) λx f=>by
    simp only[MD,OX,or_false]at f;rcases f with rfl|rfl|rfl
    ·exact c.1
    ·exact c.2.1
    ·exact c.2.2
   refine⟨by unfold c9;simp,L.pos,L.one,rE L ?_⟩;unfold wsum;simp only[SM,X9,Qb,VE,To];rw[<- Int.add_assoc,<- Int.add_assoc,k,j]
  ·split at d
   ·rename_i c;cases d;have L:=l7 (xs:=[-tn b e,-tn e a,-tn a b]) (by simp) λx f=>by
     simp only[MD,OX,or_false]at f;rcases f with rfl|rfl|rfl<;>lia
    refine⟨by unfold c9;simp,L.pos,L.one,rE L ?_⟩;unfold wsum;simp only[SM,X9,Qb,VE,To,Qc];rw[R4]
    lia
   ·cases d
 ·exact absurd n (by simp)
theorem u7:∀{c:List (yag)} {b:yag} {a:yaf},bX ws c=some (b,a)->b∈c/\dZ (QH ws b)=some a
 |[],_,_,h=>by cases h
 |p::q,b,a,h=>by
  rw[show bX ws (p::q)=(match dZ (QH ws p)with|some a=>some (p,a)|none=>bX ws q)from rfl]at h;cases hb:dZ (QH ws p)with
  |none =>
   rw[hb]at h;obtain⟨a,b⟩:=u7 h;exact⟨Ni _ a,b⟩
  |some s =>
   rw[hb]at h;cases h;exact⟨OB,hb⟩
theorem xB:∀{j:Nat} {a:yag},a∈Ng n j->a.Pairwise (·<·)
 |0,a,h=>by simp only[Ng,Oy]at h;subst h;exact .nil
 |j+1,a,h=>by
  simp only[Ng,Yi]at h;obtain⟨q,a,h⟩:=h;have ih:=xB a;unfold QF at h;obtain⟨k,a,rfl⟩:=M4.mp h;rw[RX]at a;refine Ya.mpr ⟨ih,List.pairwise_singleton _ _,λx a y b=>?_⟩;rw[Oy.mp b];have hf:x<dJ q:=by
   unfold dJ;cases e:q.getLast? with
   |none=>rw[X4.mp e]at a;cases a
   |some l =>
    obtain⟨q',rfl⟩:=List.getLast?_eq_some_iff.mp e;rcases Nu.mp a with z|z
    ·have:=(Ya.mp ih).2.2 x z l (by simp);show x<l+1
     lia
    ·rw[Oy.mp z];exact QL _
  lia
theorem zO:∀ps:yau,fu (ps.map MA)=true
 |[]=>by rw[Sv,fu]
 |p::r=>by rw[MN,fu,zO r];unfold MA;simp only[oI,fu,Bool.and_true]
def sX(ps:yau)(a:yaf):Int:=(List.zipWith (λ(p:Sp) w=>p.1*w) ps a).sum
def sY(ps:yau)(a:yaf):Int:=(List.zipWith (λ(p:Sp) w=>p.2*w) ps a).sum
structure D8(ps:yau)(h:Tr)(pk:yag)(sh:yaf):Prop where
 l0:0<pk.length
 l3:pk.length<=3
 ls:sh.length=pk.length
 rise:pk.Pairwise (·<·)
 lt:∀k∈pk,k<ps.length
 pos:∀s∈sh,0<s
 bd:∀s∈sh,Bd 900 s
 one:bM 0 sh=1
 x:sh.sum*h.2.1=h.1*sX (pk.map λk=>ps.getD k (0,0)) sh
 y:sh.sum*h.2.2=h.1*sY (pk.map λk=>ps.getD k (0,0)) sh
theorem yq(h:Tr):∀(qs:yau) (c:yaf),c.length=qs.length->(wsum c (qs.map (Mu h))).1=h.1*sX qs c - c.sum*h.2.1/\(wsum c (qs.map (Mu h))).2=h.1*sY qs c - c.sum*h.2.2
 |[],[],_=>by unfold wsum sX sY;simp
 |[],_::_,h=>by simp at h
 |_::_,[],h=>by simp at h
 |q::qs,s::c,d=>by obtain⟨a,b⟩:=yq h qs c (by simpa using d);unfold wsum sX at a;unfold wsum sY at b;unfold wsum sX sY;simp only[MN,SM,Qb]at a b ⊢;rw[a,b];unfold Mu;constructor<;>grind
def xE(L:AE xs)(h:∀x∈xs,Bd n x):∀s∈c9 xs,Bd n s:=λs a=>by obtain⟨g,b,c⟩:=L.back;have:g*s∈(c9 xs).map (g*·):=M4.mpr ⟨s,a,rfl⟩;rw[c]at this;exact K1 b rfl (h _ this)
def wq{a:yau}{g:yaf}(i:∀w∈a,WB 400 w)(l:a.length<=3)(h:dZ a=some g):∀s∈g,Bd 900 s:=by
 rcases a with _|⟨a,_|⟨b,_|⟨e,_|⟨z,r⟩⟩⟩⟩
 ·cases h
 ·have f:my a=some g:=h;unfold my at f;split at f
  ·cases f;intro s c;rw[Oy.mp c];unfold Bd;exact Of (show 1<2 ^ 1 by decide) (Vv (by decide) (by decide))
  ·cases f
 ·have f:lh a b=some g:=h;unfold lh at f;split at f
  ·rename_i c;cases f;have k:a≠(0,0):=λe=>by have:=c.2;rw[e]at this;unfold MQ at this;simp at this
   have j:b≠(0,0):=λe=>by have:=c.2;rw[e]at this;unfold MQ at this;simp at this
   have L:=l7 (xs:=[bu b,bu a]) (by simp) λx d=>by
    simp only[MD,OX,or_false]at d;rcases d with rfl|rfl
    ·exact kA j
    ·exact kA k
   refine xE L λx d=>?_
   simp only[MD,OX,or_false]at d;rcases d with rfl|rfl
   ·exact(pT (i b (by simp))).mono (by decide)
   ·exact(pT (i a (by simp))).mono (by decide)
  ·cases f
 ·have f:jC a b e=some g:=h;have j:=i a (by simp);have h:=i b (by simp);have g:=i e (by simp);have k:Bd 900 (tn b e):=Bd.mono (m:=801) ((h.x.mul g.y).sub (g.x.mul h.y)) (by decide);have i:Bd 900 (tn e a):=Bd.mono (m:=801) ((g.x.mul j.y).sub (j.x.mul g.y)) (by decide);have g:Bd 900 (tn a b):=Bd.mono (m:=801) ((j.x.mul h.y).sub (h.x.mul j.y)) (by decide);unfold jC at f;split at f
  ·rename_i c;cases f;have L:=l7 (xs:=[tn b e,tn e a,tn a b]) (by simp) λx d=>by
    simp only[MD,OX,or_false]at d;rcases d with rfl|rfl|rfl
    ·exact c.1
    ·exact c.2.1
    ·exact c.2.2
   refine xE L λx d=>?_
   simp only[MD,OX,or_false]at d;rcases d with rfl|rfl|rfl
   ·exact k
   ·exact i
   ·exact g
  ·split at f
   ·rename_i c;cases f;have L:=l7 (xs:=[-tn b e,-tn e a,-tn a b]) (by simp) λx d=>by
     simp only[MD,OX,or_false]at d;rcases d with rfl|rfl|rfl<;>lia
    refine xE L λx d=>?_
    simp only[MD,OX,or_false]at d;rcases d with rfl|rfl|rfl
    ·exact kj k
    ·exact kj i
    ·exact kj g
   ·cases f
 ·exact absurd l (by simp)
def K7{ps:yau}{a:yag}{b:yaf}(r:∀p∈ps,WB 40 p)(f:PB 160 h)(e:bX (ps.map (Mu h)) (cw ps.length)=some (a,b)):D8 ps h a b:=by
 obtain⟨g,d⟩:=u7 e;have c:∃j,0<j/\j<=3/\a∈Ng ps.length j:=by
  unfold cw at g;rcases Nu.mp g with q|q
  ·exact⟨1,by decide,by decide,q⟩
  ·rcases Nu.mp q with q|q
   ·exact⟨2,by decide,by decide,q⟩
   ·exact⟨3,by decide,by decide,q⟩
 obtain⟨j,j0,j3,l⟩:=c;obtain⟨i,e⟩:=gJ l;have n:QH (ps.map (Mu h)) a=(a.map λk=>ps.getD k (0,0)).map (Mu h):=by unfold QH;rw[NY];apply Us;intro k c;have:=e k c;simp only[Function.comp,Nz,Nj,M5 this,Option.map_some,We]
 have o:(QH (ps.map (Mu h)) a).length=j:=by unfold QH;rw[Mq,i]
 have j:∀w∈QH (ps.map (Mu h)) a,WB 400 w:=λw g=>by
  rw[n]at g;obtain⟨p,m,rfl⟩:=M4.mp g;obtain⟨k,c,rfl⟩:=M4.mp m;have lk:=e k c;have B:=r (ps.getD k (0,0)) (by rw[Nz,M5 lk];exact Rf lk);refine⟨?_,?_⟩
  ·show Bd 400 (h.1*_ - 1*h.2.1);rw[QN];exact Bd.mono (m:=161) (((f.b.mul B.x).mono (by decide)).sub f.x) (by decide)
  ·show Bd 400 (h.1*_ - 1*h.2.2);rw[QN];exact Bd.mono (m:=161) (((f.b.mul B.y).mono (by decide)).sub f.y) (by decide)
 have B:=nY (by lia) d;have g:=wq j (by lia) d;have s:=B.sum;have f:b.length=a.length:=by rw[B.len,o,i]
 rw[n]at s;obtain⟨d,c⟩:=yq h (a.map λk=>ps.getD k (0,0)) b (by rw[f,Mq]);rw[s]at d c;have x1':0=h.1*sX (a.map λk=>ps.getD k (0,0)) b - b.sum*h.2.1:=d;have x2':0=h.1*sY (a.map λk=>ps.getD k (0,0)) b - b.sum*h.2.2:=c;exact⟨by lia,by lia,f,xB l,e,B.pos,g,B.one,by lia,by lia⟩
noncomputable def MT(a b:Tr):Tr:=(a.2.1*b.2.2 - a.2.2*b.2.1,a.2.2*b.1 - a.1*b.2.2,a.1*b.2.1 - a.2.1*b.1)
def NB(a b c:Tr):Int:=Mg (MT a b) c
def fq(a b c:Tr):NB a b c=NB b c a:=by unfold NB Mg MT;grind
def qG(a b c:Tr):NB a b c=- NB b a c:=by unfold NB Mg MT;grind
def Ck(a c:Tr):NB a a c=0:=by unfold NB Mg MT;grind
def pL(a b:Tr):NB a b a=0:=by unfold NB Mg MT;grind
def pM(a b:Tr):NB a b b=0:=by unfold NB Mg MT;grind
structure V3(q a b:Tr)(m s t:Int):Prop where
 m0:0<m
 s0:0<s
 t0:0<t
 e1:m*q.1=s*a.1+t*b.1
 e2:m*q.2.1=s*a.2.1+t*b.2.1
 e3:m*q.2.2=s*a.2.2+t*b.2.2
def V3.gv(C:V3 q a b m s t)(g:Tr):m*Mg g q=s*Mg g a+t*Mg g b:=by have h1:=C.e1;have h2:=C.e2;have h3:=C.e3;unfold Mg;grind
def V3.XW(C:V3 q a b m s t)(d:0<=Mg g a)(c:0<=Mg g b):0<=Mg g q:=by
 have h:=C.gv g;have h1:=OA (N8 C.s0) d;have h2:=OA (N8 C.t0) c;have:0<=m*Mg g q:=by lia
 exact Ur this C.m0
def V3.zero(C:V3 q a b m s t)(d:Mg g a=0)(c:Mg g b=0):Mg g q=0:=by
 have h:=C.gv g;rw[d,c]at h;have a:m*Mg g q=0:=by lia
 rcases RM.mp a with z|z
 ·have:=C.m0;lia
 ·exact z
def aH(g:Tr)(a:Tr->Tr->Tr):Tr->yaw->yaw
 |_,[]=>[]
 |p,c::r=>(if Mg g p*Mg g c<0 then[a p c]else[])++((if 0<=Mg g c then[c]else[])++aH g a c r)
def TF(g:Tr)(a:Tr->Tr->Tr):Prop:=∀p c:Tr,0<p.1->0<c.1->Mg g p*Mg g c<0->(∃m s t,V3 (a p c) p c m s t)/\Mg g (a p c)=0
theorem rC(B:TF g a):∀(l:yaw) (p:Tr),(∀x∈p::l,0<x.1)->(∀x∈p::l,0<=Mg d x)->∀y∈aH g a p l,0<=Mg d y
 |[],_,_,_=>λy a=>by cases a
 |c::r,p,d,b=>λy a=>by
  unfold aH at a;rcases Nu.mp a with q|q
  ·split at q
   ·rename_i a;rw[Oy.mp q];obtain⟨⟨m,s,t,C⟩,_⟩:=B p c (d p (by simp)) (d c (by simp)) a;exact C.XW (b p (by simp)) (b c (by simp))
   ·cases q
  ·rcases Nu.mp q with q|q
   ·split at q
    ·rw[Oy.mp q];exact b c (by simp)
    ·cases q
   ·exact rC B r c (λx a=>d x (Ni _ a)) (λx a=>b x (Ni _ a)) y q
theorem rD(B:TF g d):∀(l:yaw) (p:Tr),(∀x∈p::l,0<x.1)->∀y∈aH g d p l,0<y.1
 |[],_,_=>λy b=>by cases b
 |c::r,p,a=>λy b=>by
  unfold aH at b;rcases Nu.mp b with q|q
  ·split at q
   ·rename_i b;rw[Oy.mp q];obtain⟨⟨m,s,t,C⟩,_⟩:=B p c (a p (by simp)) (a c (by simp)) b;have a1:=RP C.s0 (a p (by simp));have a2:=RP C.t0 (a c (by simp));have:=C.e1;have hm:0<m*(d p c).1:=by lia
    exact QW.mp λz=>by have:=Int.mul_nonpos_of_nonneg_of_nonpos (N8 C.m0) z;lia
   ·cases q
  ·rcases Nu.mp q with q|q
   ·split at q
    ·rw[Oy.mp q];exact a c (by simp)
    ·cases q
   ·exact rD B r c (λx b=>a x (Ni _ b)) y q
theorem i5(g:Tr)(d:Tr->Tr->Tr):∀(a:yaw) (p c:Tr) (b:yaw),aH g d p (a++c::b)=aH g d p (a++[c])++aH g d c b
 |[],p,c,b=>by simp only[QV,aH,Tn,Ss]
 |x::a,p,c,b=>by simp only[PQ,aH,i5 g d a x c b,Ss]
theorem vj(B:TF g a):∀(l:yaw) (p:Tr),(∀x∈p::l,0<x.1)->∀y∈aH g a p l,0<=Mg g y
 |[],_,_=>λy a=>by cases a
 |c::r,p,b=>λy a=>by
  unfold aH at a;rcases Nu.mp a with q|q
  ·split at q
   ·rename_i a;rw[Oy.mp q,(B p c (b p (by simp)) (b c (by simp)) a).2];exact PR _
   ·cases q
  ·rcases Nu.mp q with q|q
   ·split at q
    ·rename_i a;rw[Oy.mp q];exact a
    ·cases q
   ·exact vj B r c (λx a=>b x (Ni _ a)) y q
theorem pD:∀(l:yaw) (p:Tr) {x:Tr},x∈l->0<=Mg g x->x∈aH g qf p l
 |[],_,_,h,_=>by cases h
 |c::r,p,x,h,a=>by
  unfold aH;rcases MD.mp h with rfl|h
  ·rw[Ml a];simp
  ·exact P4 _ (P4 _ (pD r c h a))
theorem nL(B:TF g qf):∀(l:yaw) (p z:Tr),(∀x∈p::l,0<x.1)->0<z.1->Mg g p*Mg g z<0->∃y∈aH g qf p (l++[z]),Mg g y=0/\∀d:Tr,(∀x∈p::(l++[z]),0<=Mg d x)->0<=Mg d y
 |[],p,z,i,k,f=>by obtain⟨⟨m,s,t,C⟩,e⟩:=B p z (i p (by simp)) k f;refine⟨qf p z,?_,e,λd h=>C.XW (h p (by simp)) (h z (by simp))⟩;rw[QV];unfold aH;rw[Ml f];simp
 |c::r,p,z,i,k,f=>by
  rcases Vy (Mg g p*Mg g c) 0 with q|q|q
  ·obtain⟨⟨m,s,t,C⟩,e⟩:=B p c (i p (by simp)) (i c (by simp)) q;refine⟨qf p c,?_,e,λd h=>C.XW (h p (by simp)) (h c (by simp))⟩;rw[PQ];unfold aH;rw[Ml q];simp
  ·have a:Mg g p≠0:=λe=>by rw[e,Sw]at f;exact SY _ f
   have b:Mg g c=0:=(RM.mp q).resolve_left a;exact⟨c,pD _ _ (by simp) (by lia),b,λd h=>h c (by simp)⟩
  ·have j:Mg g c*Mg g z<0:=by
    rcases Int.lt_or_gt_of_ne (show Mg g p≠0 from λe=>by rw[e,Sw]at f;exact SY _ f)with a|a
    ·have b:0<Mg g z:=QW.mp λb=>QW.mpr f (X1 (N8 a) b)
     have d:Mg g c<0:=QW.mp λd=>QW.mpr q (Xa (N8 a) d)
     exact SK d b
    ·have b:Mg g z<0:=QW.mp λb=>QW.mpr f (OA (N8 a) b)
     have d:0<Mg g c:=QW.mp λd=>QW.mpr q (Int.mul_nonpos_of_nonneg_of_nonpos (N8 a) d)
     exact Xc d b
   obtain⟨y,b,e,h⟩:=nL B r c z (λx a=>i x (Ni _ a)) k j;refine⟨y,?_,e,λd k=>h d λx a=>k x (Ni _ a)⟩;rw[PQ];unfold aH;exact P4 _ (P4 _ b)
def RG(l:yaw):Prop:=∀x y z,List.Sublist [x,y,z] l->0<=NB x y z
def RG.sub{k:yaw}(h:RG l)(s:k.Sublist l):RG k:=λx y z q=>h x y z (q.trans s)
def lg:yaw->Prop
 |[]=>True
 |p::r=>r.Pairwise (λa b=>0<=NB p a b)/\lg r
theorem RG.p:∀{l:yaw},RG l->lg l
 |[],_=>True.intro
 |p::r,h=>⟨List.pairwise_iff_forall_sublist.mpr fun {a b} s=>h p a b (s.cons_cons p),RG.p (h.sub (List.sublist_cons_self p r))⟩
theorem lg.t:∀{l:yaw},lg l->RG l
 |[],_,_,_,_,s=>by cases s
 |p::r,h,x,y,z,s=>by
  cases s with
  |cons _ s=>exact lg.t h.2 x y z s
  |cons_cons _ s=>exact List.pairwise_iff_forall_sublist.mp h.1 s
theorem k7(B:TF g f):∀(l:yaw) (p:Tr),(∀x∈p::l,0<x.1)->(p::l).Pairwise (λa b=>0<=NB d a b)->(p::aH g f p l).Pairwise (λa b=>0<=NB d a b)
 |[],_,_,h=>h
 |c::r,p,k,h=>by
  have j:∀x∈c::r,0<x.1:=λx e=>k x (Ni _ e)
  obtain⟨e,i⟩:=QK.mp h;have ih:=k7 B r c j i;obtain⟨i,n⟩:=QK.mp ih;have h:∀w∈aH g f c r,0<=NB d p w:=rC B r c j (d:=MT d p) e;have j:0<=NB d p c:=e c (by simp);unfold aH;by_cases l:Mg g p*Mg g c<0
  ·rw[Ml l];obtain⟨⟨m,s,t,C⟩,e⟩:=B p c (k p (by simp)) (k c (by simp)) l;have m:0<=NB d p (f p c):=C.XW (g:=MT d p) (by show 0<=NB d p p;rw[pM];exact PR _) j;have k:∀x,0<=NB d p x->0<=NB d c x->0<=NB d (f p c) x:=λx a b=>by
    rw[fq,fq]at a b ⊢;exact C.XW (g:=MT x d) a b
   have o:0<=NB d (f p c) c:=k c j (by rw[pM];exact PR _);by_cases b:0<=Mg g c
   ·rw[Ml b];refine QK.mpr ⟨λa ha=>?_,QK.mpr ⟨λa ha=>?_,?_⟩⟩
    ·simp only[PQ,QV,MD]at ha;rcases ha with rfl|rfl|ha
     ·exact m
     ·exact j
     ·exact h a ha
    ·rcases MD.mp (show a∈c::aH g f c r from ha)with e|ha
     ·rw[e];exact o
     ·exact k a (h a ha) (i a ha)
    ·exact ih
   ·rw[Mj b];refine QK.mpr ⟨λa ha=>?_,QK.mpr ⟨λa ha=>?_,?_⟩⟩
    ·simp only[PQ,QV,MD]at ha;rcases ha with rfl|ha
     ·exact m
     ·exact h a ha
    ·simp only[QV]at ha;exact k a (h a ha) (i a ha)
    ·exact n
  ·rw[Mj l];by_cases b:0<=Mg g c
   ·rw[Ml b];refine QK.mpr ⟨λa ha=>?_,ih⟩;simp only[PQ,QV,MD]at ha;rcases ha with rfl|ha
    ·exact j
    ·exact h a ha
   ·rw[Mj b];exact QK.mpr ⟨h,n⟩
theorem yo(B:TF g qf):∀(l:yaw) (p:Tr),(∀x∈p::l,0<x.1)->lg (p::l)->lg (p::aH g qf p l)
 |[],_,_,h=>h
 |c::r,p,f,h=>by
  have i:∀x∈c::r,0<x.1:=λx a=>f x (Ni _ a)
  have ih:=yo B r c i h.2;have j:(p::c::r).Pairwise λa b=>0<=NB p a b:=QK.mpr ⟨λa _=>by rw[Ck];exact PR _,h.1⟩
  have e:=(QK.mp (k7 (d:=p) B (c::r) p f j)).2;refine⟨e,?_⟩;have e:(c::r).Pairwise λa b=>0<=NB p a b:=h.1
  have j:=k7 (d:=p) B r c i e;have e:(c::r).Pairwise λa b=>0<=NB c a b:=QK.mpr ⟨λa _=>by rw[Ck];exact PR _,h.2.1⟩
  have h:=k7 (d:=c) B r c i e;unfold aH;by_cases d:Mg g p*Mg g c<0
  ·rw[Ml d];obtain⟨⟨m,s,t,C⟩,e⟩:=B p c (f p (by simp)) (f c (by simp)) d;have e:(c::aH g qf c r).Pairwise λa b=>0<=NB (qf p c) a b:=by
    refine List.Pairwise.imp ?_ (List.pairwise_and_iff.mpr ⟨j,h⟩);intro a b ⟨x,y⟩;rw[fq]at x y ⊢;exact C.XW (g:=MT a b) x y
   by_cases a:0<=Mg g c
   ·rw[Ml a];exact⟨e,ih⟩
   ·rw[Mj a];exact⟨(QK.mp e).2,ih.2⟩
  ·rw[Mj d];by_cases a:0<=Mg g c
   ·rw[Ml a];exact ih
   ·rw[Mj a];exact ih.2
def DI{l:yaw}{a:Tr}(h:RG (l++[a])):RG (a::(l++[a])):=λx y z s=>by
 cases s with
 |cons _ s=>exact h x y z s
 |cons_cons _ s =>
  obtain⟨d,b,e,f,c⟩:=List.sublist_append_iff.mp s;rcases b with _|⟨w,b⟩
  ·rw[Tn]at e;subst e;have:=h y z a (by
    have:[y,z,a]=[y,z]++[a]:=rfl;rw[this];exact f.append (List.Sublist.refl _))
   rw[fq];exact this
  ·have f:b=[]:=by
    have:=c.length_le;simp at this;exact this
   subst f;have b:w=a:=Oy.mp (c.subset (by simp));subst b;rcases d with _|⟨u,_|⟨v,d⟩⟩
   ·cases e
   ·cases e;rw[pL];exact PR _
   ·exact absurd (congrArg List.length e) (by simp)
def Uo(l:yaw)(X:Tr):Prop:=∀h:Tr,(∀p∈l,0<=Mg h p)->0<=Mg h X
def MY(g u v:Tr):Tr:=(Mg g v*u.1 - Mg g u*v.1,Mg g v*u.2.1 - Mg g u*v.2.1,Mg g v*u.2.2 - Mg g u*v.2.2)
def DY(g u v h:Tr):Mg h (MY g u v)=Mg g v*Mg h u - Mg g u*Mg h v:=by unfold MY Mg;grind
def C8(e1:Mg g y=0)(a:NB u v y=0):Mg h y*(MY g u v).1=y.1*Mg h (MY g u v):=by unfold NB Mg MT at a;unfold MY Mg at *;dsimp only at *;grind
def Ir(l:Mg g y1=0)(p:Mg g y2=0)(d1:NB u v y1<=0)(m:0<=NB u v y2)(e:0<y1.1)(n:0<y2.1)(j:0<=Mg h y1)(o:0<=Mg h y2):0<=Mg h (MY g u v)*(MY g u v).1:=by
 by_cases z:NB u v y1=0
 ·have k:=C8 (h:=h) l z;have c:0<=(MY g u v).1*(MY g u v).1:=V2 _;have:0<=y1.1*(Mg h (MY g u v)*(MY g u v).1):=by
   have:y1.1*(Mg h (MY g u v)*(MY g u v).1)=Mg h y1*((MY g u v).1*(MY g u v).1):=by rw[<- Wh,<- k,Wh]
   rw[this];exact OA j c
  exact Ur this e
 ·have i:NB u v y1<0:=by lia
  generalize ha:NB u v y1=a at *;generalize hb:NB u v y2=b at *
  let y:Tr:=(b*y1.1 - a*y2.1,b*y1.2.1 - a*y2.2.1,b*y1.2.2 - a*y2.2.2)
  have d:∀f:Tr,Mg f y=b*Mg f y1 - a*Mg f y2:=λf=>by show Mg f (b*y1.1 - a*y2.1,b*y1.2.1 - a*y2.2.1,b*y1.2.2 - a*y2.2.2)=_;unfold Mg;grind
  have k:=C8 (h:=h) (u:=u) (v:=v) (y:=y) (g:=g) (by rw[d,l,p];simp) (by
   show Mg (MT u v) y=0;rw[d];show b*NB u v y1 - a*NB u v y2=0;rw[ha,hb,OY]
   lia)
  rw[d]at k;have d:0<y.1:=by
   show 0<b*y1.1 - a*y2.1;have:=OA m (N8 e);have:=SK i n
   lia
  have n:0<=b*Mg h y1 - a*Mg h y2:=by
   have:=OA m j;have:=Xa (N8 i) o
   lia
  have c:0<=(MY g u v).1*(MY g u v).1:=V2 _;have:0<=y.1*(Mg h (MY g u v)*(MY g u v).1):=by
   have:y.1*(Mg h (MY g u v)*(MY g u v).1)=(b*Mg h y1 - a*Mg h y2)*((MY g u v).1*(MY g u v).1):=by rw[<- Wh,<- k,Wh]
   rw[this];exact OA n c
  exact Ur this d
def wK(B:TF g qf){A C D:yaw}{u v z:Tr}(hz:A++u::(C++v::D)=(A++u::(C++v::D)).dropLast++[z])(Ql:RG (A++u::(C++v::D)))(pos:∀x∈A++u::(C++v::D),0<x.1)
  (j:Mg g u*Mg g v<0) (k:∀y∈aH g qf z (A++u::(C++v::D)),0<=Mg h y):0<=Mg h (MY g u v)*(MY g u v).1:=by
 have e:0<u.1:=pos u (by simp);have d:0<v.1:=pos v (by simp);have a:∀x∈C,0<x.1:=λx hx=>pos x (by simp[hx])
 have m:∀x∈A,0<x.1:=λx hx=>pos x (by simp[hx])
 have l:∀x∈D,0<x.1:=λx hx=>pos x (by simp[hx])
 have zp:0<z.1:=pos z (by rw[hz];simp);have i:aH g qf z (A++u::(C++v::D))=aH g qf z (A++[u])++(aH g qf u (C++[v])++aH g qf v D):=by rw[i5 g qf A z u,i5 g qf C u v]
 obtain⟨b,g,r,c⟩:=nL B C u v (λx hx=>by
  rcases MD.mp hx with rfl|hx
  ·exact e
  ·exact a x hx) d j
 have p:0<b.1:=rD B (C++[v]) u (λx hx=>by
  simp only[MD,Nu,OX,or_false]at hx;rcases hx with rfl|hx|rfl
  ·exact e
  ·exact a x hx
  ·exact d) b g
 have n:NB u v b<=0:=by
  have:=c (MT v u) λx hx=>by
   show 0<=NB v u x;simp only[MD,Nu,OX,or_false]at hx;rcases hx with rfl|hx|rfl
   ·rw[pM];exact PR _
   ·have t:=Ql u x v (by
     have a:List.Sublist [u,x,v] (u::(C++v::D)):=by refine List.Sublist.cons_cons u ?_;have:[x,v]=[x]++[v]:=rfl;rw[this];exact(V7.mpr hx).append (V7.mpr (by simp))
     exact a.trans (V6 _ _))
    rw[fq,fq]at t;exact t
   ·rw[pL];exact PR _
  have q:0<=NB v u b:=this;rw[qG]
  lia
 have s:∀x∈v::D++(A++[u]),0<=NB u v x:=λx hx=>by
  simp only[MD,Nu,OX,or_false,PQ]at hx;rcases hx with rfl|hx|hx|rfl
  ·rw[pM];exact PR _
  ·exact Ql u v x (by
    have a:List.Sublist [u,v,x] (u::(C++v::D)):=by refine List.Sublist.cons_cons u ?_;exact(List.Sublist.cons_cons v (V7.mpr hx)).trans (V6 _ _)
    exact a.trans (V6 _ _))
  ·have t:=Ql x u v (by
    have:[x,u,v]=[x]++[u,v]:=rfl;rw[this];refine(V7.mpr hx).append (List.Sublist.cons_cons u ?_);exact(V7.mpr (by simp)).trans (V6 _ _))
   rw[fq]at t;exact t
  ·rw[pL];exact PR _
 obtain⟨a,c,f,t⟩:=nL B (D++A) v u (λx hx=>by
  simp only[MD,Nu]at hx;rcases hx with rfl|hx|hx
  ·exact d
  ·exact l x hx
  ·exact m x hx) e (by rw[OY];exact j)
 have o:0<a.1:=rD B (D++A++[u]) v (λx hx=>by
  simp only[MD,Nu,OX,or_false]at hx;rcases hx with rfl|(hx|hx)|rfl
  ·exact d
  ·exact l x hx
  ·exact m x hx
  ·exact e) a c
 have j:0<=NB u v a:=t (MT u v) λx hx=>s x (by
  simp only[MD,Nu,OX,or_false,PQ]at hx ⊢;rcases hx with hx|(hx|hx)|hx
  ·exact .inl hx
  ·exact .inr (.inl hx)
  ·exact .inr (.inr (.inl hx))
  ·exact .inr (.inr (.inr hx)))
 have l:0<=Mg h b:=k b (by rw[i];exact P4 _ (RV _ g));have g:0<=Mg h a:=by
  apply k a;rw[i];have:∃b,v::D=b++[z]:=by
   have a:v::D ≠ []:=by simp
   refine⟨(v::D).dropLast,?_⟩;have e:(A++u::(C++v::D)).getLast?=some z:=by rw[hz];simp
   have f:(A++u::(C++v::D)).getLast?=(v::D).getLast?:=by
    have:A++u::(C++v::D)=(A++u::C)++(v::D):=by simp
    rw[this,List.getLast?_append,X2 a];rfl
   rw[f,X2 a]at e;have d:=(Xb a).symm;rw[Pp e]at d;exact d
  obtain⟨b,a⟩:=this;rcases b with _|⟨w,b⟩
  ·cases a;rw[QV]at c;exact RV _ c
  ·rw[PQ]at a;cases a;have e:b++[z]++A++[u]=b++z::(A++[u]):=by simp
   rw[e,i5]at c;rcases Nu.mp c with q|q
   ·exact P4 _ (P4 _ q)
   ·exact RV _ q
 exact Ir r f n j p o l g
def Dy{l:yaw}{a b:Tr}(e:a∈l)(d:b∈l)(c:a≠b):(∃A C D,l=A++a::(C++b::D))∨∃ A C D,l=A++b::(C++a::D):=by
 obtain⟨A,R,rfl⟩:=Xh e;rcases Nu.mp d with q|q
 ·obtain⟨b,a,rfl⟩:=Xh q;exact .inr ⟨b,a,R,by simp⟩
 ·rcases MD.mp q with q|q
  ·exact absurd q.symm c
  ·obtain⟨b,a,rfl⟩:=Xh q;exact .inl ⟨A,b,a,rfl⟩
theorem qL(g h:Tr):∀l:yaw,(∃n∈l,Mg g n<0/\Mg h n<0)->∃n∈l,Mg g n<0/\Mg h n<0/\∀m∈l,Mg g m<0->Mg g n*Mg h m<=Mg h n*Mg g m
 |[],⟨_,hn,_⟩=>by cases hn
 |x::r,l=>by
  by_cases j:∃n∈r,Mg g n<0/\Mg h n<0
  ·obtain⟨n,hn,i,f,o⟩:=qL g h r j;by_cases c:Mg g x<0/\¬(Mg g n*Mg h x<=Mg h n*Mg g x)
   ·obtain⟨a,b⟩:=c;have c2':=QW.mp b;have b:Mg h x<0:=by
     have:0<Mg h n*Mg g x:=Xd f a;exact QW.mp λz=>by
      have:=Xa (N8 i) z
      lia
    refine⟨x,by simp,a,b,λm hm d=>?_⟩;rcases MD.mp hm with rfl|hm
    ·rw[OY];exact PR _
    ·have k:=o m hm d;have a:0<=(-Mg g x)*(Mg h n*Mg g m - Mg g n*Mg h m):=OA (by lia) (by lia);have b:0<=(-Mg g m)*(Mg g n*Mg h x - Mg h n*Mg g x):=OA (by lia) (by lia);have e:(-Mg g x)*(Mg h n*Mg g m - Mg g n*Mg h m)+(-Mg g m)*(Mg g n*Mg h x - Mg h n*Mg g x)=(-Mg g n)*(Mg h x*Mg g m - Mg g x*Mg h m):=by grind
     have:0<=(-Mg g n)*(Mg h x*Mg g m - Mg g x*Mg h m):=by lia
     have:=Ur this (by lia)
     lia
   ·refine⟨n,Ni _ hn,i,f,λm hm d=>?_⟩;rcases MD.mp hm with rfl|hm
    ·exact Decidable.byContradiction λz=>c ⟨d,z⟩
    ·exact o m hm d
  ·obtain⟨n,hn,i,f⟩:=l;rcases MD.mp hn with rfl|hn
   ·refine⟨n,by simp,i,f,λm hm d=>?_⟩;rcases MD.mp hm with rfl|hm
    ·rw[OY];exact PR _
    ·have:0<=Mg h m:=Tp.mp λz=>j ⟨m,hm,d,z⟩
     have a:=Xa (N8 i) this;have b:=Xd f d
     lia
   ·exact absurd ⟨n,hn,i,f⟩ j
def FP(B:TF g qf){l:yaw}{z:Tr}(hz:l=l.dropLast++[z])(Ql:RG l)(pos:∀x∈l,0<x.1)(t:Uo l X)(y:0<=Mg g X):Uo (aH g qf z l) X:=λh f=>by
 have m:∀p∈l,0<=Mg g p->0<=Mg h p:=λp c q=>f p (pD l z c q)
 by_cases s:∃n∈l,Mg g n<0/\Mg h n<0
 ·obtain⟨n,o,d,w,e⟩:=qL g h l s
  let k:Tr:=(Mg h n*g.1 - Mg g n*h.1,Mg h n*g.2.1 - Mg g n*h.2.1,Mg h n*g.2.2 - Mg g n*h.2.2)
  have u:∀p:Tr,Mg k p=Mg h n*Mg g p - Mg g n*Mg h p:=λp=>by show Mg (Mg h n*g.1 - Mg g n*h.1,Mg h n*g.2.1 - Mg g n*h.2.1,Mg h n*g.2.2 - Mg g n*h.2.2) p=_;generalize Mg h n=a;generalize Mg g n=b;unfold Mg;grind
  have x:∀p∈l,0<=Mg k p:=λp c=>by
   rw[u];rcases Vy (Mg g p) 0 with q|q|q
   ·have:=e p c q
    lia
   ·rw[q,UW];have:=Xa (N8 d) (m p c (by lia))
    lia
   ·have b:p≠n:=λe=>by rw[e]at q;lia
    have j:=pos n o;have i:=pos p c;rcases Dy c o b with⟨A,C,D,rfl⟩| ⟨A,C,D,rfl⟩
    ·have r:=wK B hz Ql pos (Xc q d) f;rw[DY]at r;have b:(MY g p n).1<0:=by
      show Mg g n*p.1 - Mg g p*n.1<0;have:=SK d i;have:=RP q j
      lia
     have e:Mg g n*Mg h p - Mg g p*Mg h n<=0:=Tp.mp λz=>by
      have:=Xc z b
      lia
     rw[OY (Mg h n)]
     lia
    ·have r:=wK B hz Ql pos (SK d q) f;rw[DY]at r;have b:0<(MY g n p).1:=by
      show 0<Mg g p*n.1 - Mg g n*p.1;have:=SK d i;have:=RP q j
      lia
     have e:0<=Mg g p*Mg h n - Mg g n*Mg h p:=Tp.mp λz=>by
      have:=SK z b
      lia
     rw[OY (Mg h n)];exact e
  have b:=t k x;rw[u]at b;have a:=Xa (N8 w) y;exact Tp.mp λz=>by
   have:=Xd d z
   lia
 ·refine t h λp c=>?_
  by_cases q:0<=Mg g p
  ·exact m p c q
  ·exact Tp.mp λz=>s ⟨p,c,by lia,z⟩
def QI(R:Tr->Tr->Prop):yaw->Prop
 |[]=>True
 |[_]=>True
 |a::b::r=>R a b/\QI R (b::r)
def QI.tail{a:Tr}:∀{l:yaw},QI R (a::l)->QI R l
 |[],_=>True.intro
 |_::_,h=>h.2
theorem j7:∀(l:yaw) (x:Tr) (k:yaw),QI R (l++x::k)↔QI R (l++[x])/\QI R (x::k)
 |[],x,k=>by simp[QI]
 |[a],x,k=>by simp[QI]
 |a::b::l,x,k=>by have:=j7 (R:=R) (b::l) x k;simp only[PQ,QI]at this ⊢;rw[this,and_assoc]
def Sh(G:Tr->Prop)(a b:Tr):Prop:=∃e,G e/\Mg e a=0/\Mg e b=0
theorem nK(B:TF g qf){G:Tr->Prop}(f:G g):∀(l:yaw) (p x:Tr),(∀y∈p::l,0<y.1)->((x=p/\0<=Mg g p)∨(Mg g x=0/\Mg g p<0))->QI (Sh G) (p::l)->QI (Sh G) (x::aH g qf p l)
 |[],_,_,_,_,_=>True.intro
 |c::r,p,x,b,a,h=>by
  have l:∀y∈c::r,0<y.1:=λy d=>b y (Ni _ d)
  obtain⟨⟨e,i,j,k⟩,d⟩:=h;have ih:=λx a=>nK B f r c x l a d
  unfold aH;by_cases d:Mg g p*Mg g c<0
  ·rw[Ml d];obtain⟨⟨m,s,t,C⟩,h⟩:=B p c (b p (by simp)) (b c (by simp)) d;have l:Mg e (qf p c)=0:=C.zero j k;by_cases b:0<=Mg g c
   ·rw[Ml b];refine⟨?_,⟨e,i,l,k⟩,ih c (.inl ⟨rfl,b⟩)⟩;rcases a with⟨rfl,_⟩| ⟨a,_⟩
    ·exact⟨e,i,j,l⟩
    ·exact⟨g,f,a,h⟩
   ·rw[Mj b];refine⟨?_,ih _ (.inr ⟨h,by lia⟩)⟩;rcases a with⟨rfl,_⟩| ⟨a,_⟩
    ·exact⟨e,i,j,l⟩
    ·exact⟨g,f,a,h⟩
  ·rw[Mj d];by_cases b:0<=Mg g c
   ·rw[Ml b];refine⟨?_,ih c (.inl ⟨rfl,b⟩)⟩;rcases a with⟨rfl,_⟩| ⟨a,h⟩
    ·exact⟨e,i,j,k⟩
    ·have:Mg g c=0:=by
      rcases Int.lt_or_eq_of_le b with q|q
      ·exact absurd (SK h q) d
      ·exact q.symm
     exact⟨g,f,a,this⟩
   ·rw[Mj b];refine ih x ?_;rcases a with⟨rfl,h⟩| ⟨a,_⟩
    ·right
     refine⟨?_,by lia⟩;rcases Int.lt_or_eq_of_le h with q|q
     ·exact absurd (Xc q (by lia)) d
     ·exact q.symm
    ·exact .inr ⟨a,by lia⟩
theorem vi(B:TF g qf){G:Tr->Prop}(b:G g):∀(l:yaw) (p:Tr),(∀y∈p::l,0<y.1)->QI (Sh G) (p::l)->QI (Sh G) (aH g qf p l)
 |[],_,_,_=>True.intro
 |c::r,p,a,h=>by
  by_cases j:0<=Mg g p
  ·exact(nK B b (c::r) p p a (.inl ⟨rfl,j⟩) h).tail
  have i:∀y∈c::r,0<y.1:=λy d=>a y (Ni _ d)
  obtain⟨⟨e,l,n,k⟩,f⟩:=h;unfold aH;by_cases d:Mg g p*Mg g c<0
  ·rw[Ml d];obtain⟨⟨m,s,t,C⟩,eq⟩:=B p c (a p (by simp)) (a c (by simp)) d;have h:Mg e (qf p c)=0:=C.zero n k;by_cases a:0<=Mg g c
   ·rw[Ml a];exact⟨⟨e,l,h,k⟩,nK B b r c c i (.inl ⟨rfl,a⟩) f⟩
   ·exact absurd (Xd (QW.mp j) (QW.mp a)) (by lia)
  ·rw[Mj d];by_cases a:0<=Mg g c
   ·rw[Ml a];exact nK B b r c c i (.inl ⟨rfl,a⟩) f
   ·rw[Mj a];exact vi B b r c i f
def XY(R:Tr->Tr->Prop)(l:yaw):Prop:=∀k z,l=k++[z]->QI R (z::l)
def FO(B:TF g qf){G:Tr->Prop}(c:G g){l:yaw}{z:Tr}(hz:l=l.dropLast++[z])(pos:∀y∈l,0<y.1)(h:XY (Sh G) l):XY (Sh G) (aH g qf z l):=λk y d=>by
 have a:=h _ z hz;have f:QI (Sh G) (z::(l++l)):=by
  have e:z::(l++l)=(z::l.dropLast)++(z::l):=by
   rw[PQ];congr 1
   conv=>lhs;arg 1;rw[hz]
   simp
  rw[e,j7];refine⟨?_,a⟩;rw[PQ,<- hz];exact a
 have a:z∈l:=by rw[hz];simp
 have b:=vi B c (l++l) z (λy hy=>by
  simp only[MD,Nu,or_self]at hy;rcases hy with rfl|hy
  ·exact pos y a
  ·exact pos y hy) f
 have e:aH g qf z (l++l)=aH g qf z l++aH g qf z l:=by
  have a:l++l=l.dropLast++z::l:=by
   conv=>lhs;arg 1;rw[hz]
   simp
  rw[a,i5,<- hz]
 rw[e]at b;have a:aH g qf z l++aH g qf z l=k++y::aH g qf z l:=by
  conv=>lhs;arg 1;rw[d]
  simp
 rw[a,j7]at b;exact b.2
noncomputable def Qn:yaw->yaw->yaw
 |_,[]=>[]
 |seen,x::r=>if x∈seen then Qn seen r else x::Qn (seen++[x]) r
theorem pG:∀(l seen:yaw),(Qn seen l).Sublist l
 |[],_=>List.Sublist.slnil
 |x::r,seen=>by
  unfold Qn;split
  ·exact(pG r seen).cons x
  ·exact(pG r _).cons_cons x
theorem tQ:∀(l seen:yaw) {x:Tr},x∈l->x∈seen∨x∈Qn seen l
 |[],_,_,h=>by cases h
 |y::r,seen,x,h=>by
  unfold Qn;rcases MD.mp h with rfl|h
  ·split
   ·rename_i q;exact .inl q
   ·exact .inr (by simp)
  ·split
   ·exact tQ r seen h
   ·rcases tQ r (seen++[y]) h with q|q
    ·rcases Nu.mp q with q|q
     ·exact .inl q
     ·rw[Oy.mp q];exact .inr (by simp)
    ·exact .inr (Ni _ q)
theorem uO:∀(l seen:yaw),l.Nodup->(∀x∈l,x∉seen)->Qn seen l=l
 |[],_,_,_=>rfl
 |x::r,seen,h,c=>by
  obtain⟨a,b⟩:=R0.mp h;unfold Qn;rw[Mj (c x (by simp)),uO r (seen++[x]) b λy b q=>by
   rcases Nu.mp q with q|q
   ·exact c y (Ni _ b) q
   ·exact a (by rw[<- Oy.mp q];exact b)]
theorem ot:∀(l seen:yaw) (v:Tr) (k:yaw),v∈seen∨v∈l->Qn seen (l++v::k)=Qn seen (l++k)
 |[],seen,v,k,h=>by
  rw[QV,QV]
  conv=>lhs;unfold Qn
  rw[Ml (h.resolve_right (by simp))]
 |x::r,seen,v,k,h=>by
  rw[PQ,PQ];unfold Qn;split
  ·rename_i q;refine ot r seen v k ?_;rcases h with h|h
   ·exact .inl h
   ·rcases MD.mp h with rfl|h
    ·exact .inl q
    ·exact .inr h
  ·congr 1;refine ot r _ v k ?_;rcases h with h|h
   ·exact .inl (RV _ h)
   ·rcases MD.mp h with rfl|h
    ·exact .inl (by simp)
    ·exact .inr h
theorem qu:∀l:yaw,¬l.Nodup->∃A v C,l=A++v::C/\v∈A
 |[],h=>absurd List.nodup_nil h
 |x::r,h=>by
  by_cases a:x∈r
  ·obtain⟨A,C,rfl⟩:=Xh a;exact⟨x::A,x,C,rfl,by simp⟩
  ·obtain⟨A,v,C,e,b⟩:=qu r λq=>h (R0.mpr ⟨a,q⟩)
   exact⟨x::A,v,C,by rw[e];rfl,Ni _ b⟩
def Hi(ea:Mg e a=0)(ev:Mg e v=0)(hd:NB v a b=0)(c:MT v a≠(0,0,0)):Mg e b=0:=by
 have g:Mg e b*(MT v a).1=0:=by unfold NB Mg MT at *;dsimp only at *;grind
 have f:Mg e b*(MT v a).2.1=0:=by unfold NB Mg MT at *;dsimp only at *;grind
 have d:Mg e b*(MT v a).2.2=0:=by unfold NB Mg MT at *;dsimp only at *;grind
 refine Decidable.byContradiction λz=>c ?_
 have e:=(RM.mp g).resolve_left z;have c:=(RM.mp f).resolve_left z;have b:=(RM.mp d).resolve_left z;generalize MT v a=w at e c b;obtain⟨x,y,t⟩:=w
 simp_all
structure Pr(p:Tr):Prop where
 pos:0<p.1
 low:PM.g3 p.1 p.2.1 p.2.2=1
def wI(e:Pr v)(f:Pr a)(h:MT v a=(0,0,0)):v=a:=by
 unfold MT at h;simp only[R4]at h;obtain⟨h1,h2,h3⟩:=h;have c:v.2.1*a.1=a.2.1*v.1:=by have:=OY v.1 a.2.1;lia
 have b:v.2.2*a.1=a.2.2*v.1:=by have:=OY v.1 a.2.2;lia
 have h:v.1∣a.1:=jR (d:=v.1) (k:=a.1) (x:=v.1) (y:=v.2.1) (z:=v.2.2) (Wc _ _) (by rw[OY,c];exact Wc _ _) (by rw[OY,b];exact Wc _ _) e.low;have g:a.1∣v.1:=jR (d:=a.1) (k:=v.1) (x:=a.1) (y:=a.2.1) (z:=a.2.2) (Wc _ _) (by rw[OY,<- c];exact Wc _ _) (by rw[OY,<- b];exact Wc _ _) f.low;have d:=f.pos;have pv:=e.pos;have e:v.1=a.1:=by
  have l1:=Int.le_of_dvd d h;have l2:=Int.le_of_dvd pv g
  lia
 obtain⟨v1,v2,v3⟩:=v;obtain⟨a1,a2,a3⟩:=a;dsimp only at *;subst e;rw[Int.eq_of_mul_eq_mul_right (by lia) c,Int.eq_of_mul_eq_mul_right (by lia) b]
theorem Cf:∀(n:Nat) (l:yaw),l.length<=n->RG l->(∀p∈l,Pr p)->XY (Sh G) l->XY (Sh G) (Qn [] l)
 |n,l,i,Ql,t,o=>by
  by_cases B:l.Nodup
  ·rw[uO l [] B (by simp)];exact o
  obtain⟨A,v,C,rfl,E⟩:=qu l B;rw[ot A [] v C (.inr E)];cases n with
  |zero=>simp at i
  |succ n =>
  have sub:(A++C).Sublist (A++v::C):=(List.Sublist.refl A).append (List.sublist_cons_self v C);refine Cf n (A++C) (by simp at i ⊢;lia) (Ql.sub sub) (λp a=>t p (sub.subset a)) ?_;obtain⟨h,r,rfl⟩:=Xh E;obtain⟨K,a,d⟩:∃K a,h++v::r=K++[a]:=⟨_,_,(Xb (by simp:h++v::r ≠ [])).symm⟩;have J:a=v∨∃ f,r=f++[a]:=by
   rcases List.eq_nil_or_concat r with rfl|⟨f,w,rfl⟩
   ·left
    have:=congrArg List.getLast? d;simp at this;exact this.symm
   ·right
    have e:h++v::f.concat w=(h++v::f)++[w]:=by simp
    rw[e]at d;have:=(List.append_inj' d rfl).2;cases this;exact⟨f,by simp⟩
  have pv:Pr v:=t v (by simp);have N:Pr a:=t a (by rw[d];simp)
  have g:∀b,Sh G a v->Sh G v b->(a≠v->NB v a b=0)->Sh G a b:=λb M L O=>by
   by_cases q:a=v
   ·rw[q];exact L
   ·obtain⟨e,j,c,k⟩:=M;exact⟨e,j,c,Hi c k (O q) λz=>q (wI pv N z).symm⟩
  rw[d];rw[d]at o Ql;rcases C with _|⟨b,C⟩
  ·have c:=o (K++[a]) v (by simp);intro k z m;rw[Tn]at m ⊢;have U:a=z:=by
    have:=congrArg List.getLast? m;simp at this;exact this
   subst U;have j:QI (Sh G) ((v::K)++a::[v]):=by simpa using c
   rw[j7]at j;obtain⟨x,w,_⟩:=j;rcases hA:K++[a]with _|⟨b,R⟩
   ·simp at hA
   ·have q:QI (Sh G) (v::b::R):=by
     rw[<- hA];exact x
    refine⟨g b w q.1 λu=>?_,q.2⟩;obtain⟨f,rfl⟩:=J.resolve_left u;rcases h with _|⟨b',h⟩
    ·rw[<- d]at hA;cases hA;rw[pL]
    ·rw[<- d]at hA;cases hA;have y:=Ql b v a (by
      rw[<- d];refine List.Sublist.trans ?_ (List.sublist_append_left _ _);refine List.Sublist.cons_cons b ?_;refine List.Sublist.trans ?_ (V6 _ _);refine List.Sublist.cons_cons v ?_;exact V6 _ _)
     have s:=Ql b a v (by rw[<- d];refine List.Sublist.cons_cons b ?_;have:[a,v]=[a]++[v]:=rfl;rw[this];refine List.Sublist.append ?_ (List.Sublist.refl _);exact V7.mpr (by simp))
     rw[fq]at y;rw[fq,qG]at s
     lia
  ·intro k z m;have c:=o (((K++[a])++v::b::C).dropLast) z (by
    have I:(K++[a]++v::b::C).getLast?=some z:=by
     have T:(K++[a]++b::C).getLast?=some z:=by rw[m];simp
     have Q:(K++[a]++b::C).getLast?=(b::C).getLast?:=by rw[List.getLast?_append,X2 (by simp:b::C ≠ [])];rfl
     have H:(K++[a]++v::b::C)=(K++[a]++[v])++b::C:=by simp
     rw[H,List.getLast?_append,<- Q,T];rfl
    have i:K++[a]++v::b::C ≠ []:=by simp
    rw[X2 i]at I;have H:=(Xb i).symm;rw[Pp I]at H;exact H)
   have j:QI (Sh G) ((z::K)++a::(v::b::C)):=by simpa using c
   rw[j7]at j;obtain⟨x,w,q,H⟩:=j;have:z::(K++[a]++b::C)=(z::K)++a::(b::C):=by simp
   rw[this,j7];refine⟨x,g b w q λu=>?_,H⟩;obtain⟨f,rfl⟩:=J.resolve_left u;have y:=Ql v a b (by
    rw[<- d];have:h++v::(f++[a])++v::b::C=(h++(v::f))++(a::(v::(b::C))):=by simp
    rw[this];have:[v,a,b]=[v]++[a,b]:=rfl;rw[this];refine List.Sublist.append (V7.mpr (by simp)) (List.Sublist.cons_cons a ?_);exact List.Sublist.cons _ (List.Sublist.cons_cons b (List.nil_sublist _)))
   have s:=Ql a v b (by
    have:K++[a]++v::b::C=K++(a::v::b::C):=by simp
    rw[this];refine List.Sublist.trans ?_ (V6 _ _);exact List.Sublist.cons_cons a (List.Sublist.cons_cons v (List.Sublist.cons_cons b (List.nil_sublist _))))
   rw[qG]at s
   lia
def SJ(w:Tr):Tr:=(w.1.fdiv (PM.N1 w.1 w.2.1 w.2.2 w.1),w.2.1.fdiv (PM.N1 w.1 w.2.1 w.2.2 w.1),w.2.2.fdiv (PM.N1 w.1 w.2.1 w.2.2 w.1))
def cW(g p c:Tr):Tr:=SJ (MY g p c)
def Dg{w:Tr}(h:w.1≠0):Pr (SJ w):=⟨PM.HS h (PM.tT _ _ _) λz=>h z.1,PM.Kr λz=>h z.1⟩
def Kj{w:Tr}(e:Pr q)(c:w.1*q.2.1=q.1*w.2.1)(b:w.1*q.2.2=q.1*w.2.2):∃m,w.1=m*q.1/\w.2.1=m*q.2.1/\w.2.2=m*q.2.2:=by
 obtain⟨m,a⟩:q.1∣w.1:=jR (d:=q.1) (k:=w.1) (x:=q.1) (y:=q.2.1) (z:=q.2.2) (Wc _ _) (by rw[c];exact Int.dvd_mul_right _ _) (by rw[b];exact Int.dvd_mul_right _ _) e.low;have p:=e.pos;refine⟨m,by rw[a,OY],?_,?_⟩
 ·rw[a,Wh]at c;exact(zDc (by lia) c).symm
 ·rw[a,Wh]at b;exact(zDc (by lia) b).symm
def yp{p c:Tr}(f:0<p.1)(h:0<c.1)(d:Mg g p*Mg g c<0):(Mg g p<0/\0<Mg g c/\0<(MY g p c).1)∨(0<Mg g p/\Mg g c<0/\(MY g p c).1<0):=by
 rcases Int.lt_or_gt_of_ne (show Mg g p≠0 from λe=>by rw[e,Sw]at d;exact SY _ d)with a|a
 ·left
  have b:0<Mg g c:=QW.mp λb=>QW.mpr d (X1 (N8 a) b)
  refine⟨a,b,?_⟩;show 0<Mg g c*p.1 - Mg g p*c.1;have:=RP b f;have:=SK a h
  lia
 ·right
  have b:Mg g c<0:=QW.mp λb=>QW.mpr d (OA (N8 a) b)
  refine⟨a,b,?_⟩;show Mg g c*p.1 - Mg g p*c.1<0;have:=SK b f;have:=RP a h
  lia
def BZ(g:Tr):TF g (cW g):=λp c b d a=>by
 have k:=yp b d a;have h:=PM.dS (l:=(MY g p c).1) (PM.tT (MY g p c).1 (MY g p c).2.1 (MY g p c).2.2);have f:=PM.dS (l:=(MY g p c).1) (PM.xh (MY g p c).1 (MY g p c).2.1 (MY g p c).2.2);have e:=PM.dS (l:=(MY g p c).1) (PM.xi (MY g p c).1 (MY g p c).2.1 (MY g p c).2.2);have a:(MY g p c).1≠0:=by rcases k with⟨_,_,q⟩| ⟨_,_,q⟩<;>lia
 have hg:PM.g3 (MY g p c).1 (MY g p c).2.1 (MY g p c).2.2≠0:=λz=>a (PM.tU.mp z).1
 have C:∃m s t,V3 (cW g p c) p c m s t/\s*Mg g p+t*Mg g c=0:=by
  rcases k with⟨a,b,q⟩| ⟨a,b,q⟩
  ·have d:PM.N1 (MY g p c).1 (MY g p c).2.1 (MY g p c).2.2 (MY g p c).1=(PM.g3 (MY g p c).1 (MY g p c).2.1 (MY g p c).2.2:Int):=by
    unfold PM.N1;rw[Mj (by lia)]
   refine⟨PM.g3 (MY g p c).1 (MY g p c).2.1 (MY g p c).2.2,Mg g c,-Mg g p,⟨by lia,b,by lia,?_,?_,?_⟩,by rw[Qc,OY];lia⟩
   ·show _*((MY g p c).1.fdiv _)=_;rw[<- d,OY,h,Qc];rfl
   ·show _*((MY g p c).2.1.fdiv _)=_;rw[<- d,OY,f,Qc];rfl
   ·show _*((MY g p c).2.2.fdiv _)=_;rw[<- d,OY,e,Qc];rfl
  ·have d:-PM.N1 (MY g p c).1 (MY g p c).2.1 (MY g p c).2.2 (MY g p c).1=(PM.g3 (MY g p c).1 (MY g p c).2.1 (MY g p c).2.2:Int):=by
    unfold PM.N1;rw[Ml (by lia),Int.neg_neg]
   refine⟨PM.g3 (MY g p c).1 (MY g p c).2.1 (MY g p c).2.2,-Mg g c,Mg g p,⟨by lia,by lia,a,?_,?_,?_⟩,by rw[Qc,OY];lia⟩
   ·show _*((MY g p c).1.fdiv _)=_;rw[<- d,Qc,OY,h,Qc];show -(Mg g c*p.1 - Mg g p*c.1)=_
    lia
   ·show _*((MY g p c).2.1.fdiv _)=_;rw[<- d,Qc,OY,f,Qc];show -(Mg g c*p.2.1 - Mg g p*c.2.1)=_
    lia
   ·show _*((MY g p c).2.2.fdiv _)=_;rw[<- d,Qc,OY,e,Qc];show -(Mg g c*p.2.2 - Mg g p*c.2.2)=_
    lia
 obtain⟨m,s,t,C,z⟩:=C;refine⟨⟨m,s,t,C⟩,?_⟩;have:=C.gv g;rw[z]at this;exact(RM.mp this).resolve_left (by have:=C.m0;lia)
def IP{p c:Tr}(b:0<p.1)(d:0<c.1)(a:Mg g p*Mg g c<0):Pr (cW g p c):=Dg (by rcases yp b d a with⟨_,_,q⟩| ⟨_,_,q⟩<;>omega)
def IX{e:Tr}(b:e≠(0,0,0))(ep:Mg e p=0)(a:Mg g p≠0):MT e g≠(0,0,0):=λz=>b (by
 unfold MT at z;simp only[R4]at z;obtain⟨z1,z2,z3⟩:=z;have d:e.1*Mg g p=0:=by unfold Mg at *;grind
 have c:e.2.1*Mg g p=0:=by unfold Mg at *;grind
 have b:e.2.2*Mg g p=0:=by unfold Mg at *;grind
 have a1:=(RM.mp d).resolve_right a;have a2:=(RM.mp c).resolve_right a;have a3:=(RM.mp b).resolve_right a;obtain⟨x,y,t⟩:=e
 simp_all)
def C5(f:Pr q)(e1:Mg e q=0)(e2:Mg g q=0)(d:MT e g≠(0,0,0)):∃m,m≠0/\(MT e g).1=m*q.1/\(MT e g).2.1=m*q.2.1/\(MT e g).2.2=m*q.2.2:=by obtain⟨m,c,b,a⟩:=Kj (w:=MT e g) f (by unfold Mg at *;unfold MT;grind) (by unfold Mg at *;unfold MT;grind);refine⟨m,λz=>d ?_,c,b,a⟩;rw[z,Sw]at c b a;exact QX c (QX b a)
def C6(o:Pr q)(G:Mg e q=0)(E:Mg g q=0)(y:MT e g≠(0,0,0)):q=SJ (MT e g):=by
 obtain⟨m,s,t,C,B⟩:=C5 o G E y;have r:(MT e g).1≠0:=by rw[t];exact Xt s (by have:=o.pos;lia)
 have A:=Dg r;have x:=PM.dS (l:=(MT e g).1) (PM.tT (MT e g).1 (MT e g).2.1 (MT e g).2.2);have w:=PM.dS (l:=(MT e g).1) (PM.xh (MT e g).1 (MT e g).2.1 (MT e g).2.2);have u:=PM.dS (l:=(MT e g).1) (PM.xi (MT e g).1 (MT e g).2.1 (MT e g).2.2);have H:PM.N1 (MT e g).1 (MT e g).2.1 (MT e g).2.2 (MT e g).1≠0:=PM.w4 λz=>r z.1
 apply wI o A;have i:(SJ (MT e g)).1*PM.N1 (MT e g).1 (MT e g).2.1 (MT e g).2.2 (MT e g).1=m*q.1:=by rw[<- t];exact x
 have f:(SJ (MT e g)).2.1*PM.N1 (MT e g).1 (MT e g).2.1 (MT e g).2.2 (MT e g).1=m*q.2.1:=by rw[<- C];exact w
 have c:(SJ (MT e g)).2.2*PM.N1 (MT e g).1 (MT e g).2.1 (MT e g).2.2 (MT e g).1=m*q.2.2:=by rw[<- B];exact u
 generalize PM.N1 (MT e g).1 (MT e g).2.1 (MT e g).2.2 (MT e g).1=d at *;generalize SJ (MT e g)=p at *;unfold MT;have k:∀a b n j:Int,a*d=m*n->b*d=m*j->n*b - j*a=0:=λa b n j h h'=>by
  have:m*d*(n*b - j*a)=0:=by grind
  exact(RM.mp this).resolve_left (Xt s H)
 rw[k _ _ _ _ f c,k _ _ _ _ c i,k _ _ _ _ i f]
def fh(g:Tr)(l:yaw):yaw:=match l.getLast? with
 |none=>[]
 |some z=>Qn [] (aH g (cW g) z l)
structure WV(n:Nat)(e:Tr):Prop where
 ne:e≠(0,0,0)
 c:Bd (2*n+2) e.1
 a:Bd (n+1) e.2.1
 b:Bd (n+1) e.2.2
structure CB(n:Nat)(p:Tr):Prop where
 b:Bd (2*n+3) p.1
 x:Bd (3*n+4) p.2.1
 y:Bd (3*n+4) p.2.2
structure WW(n:Nat)(Gs Z l:yaw):Prop where
 Ql:RG l
 pr:∀p∈l,Pr p
 cb:∀p∈l,CB n p
 cyc:XY (Sh (·∈Gs)) l
 mem:∀p∈l,p∈Z
 len:l.length<=Z.length
def KU{k:Nat}(i:Bd n a)(h:Bd m b)(g:Bd m c)(f:Bd n d)(e:n+m+1=k):Bd k (a*b - c*d):=by subst e;have b:=i.mul h;have a:=g.mul f;rw[Nat.add_comm m n]at a;exact b.sub a
def w5{m q w:Int}(hm:m≠0)(e:w=m*q)(h:Bd n w):Bd n q:=by
 unfold Bd at *;rw[e,VB]at h;have:q.natAbs<=m.natAbs*q.natAbs:=Nat.le_mul_of_pos_left _ (by lia)
 lia
theorem tD:∀(l:yaw) (p:Tr) {y:Tr},y∈aH g (cW g) p l->y∈l∨∃ a b,a∈p::l/\b∈l/\List.Sublist [a,b] (p::l)/\Mg g a*Mg g b<0/\y=cW g a b/\∀R:Tr->Tr->Prop,QI R (p::l)->R a b
 |[],_,_,h=>by cases h
 |c::r,p,y,h=>by
  unfold aH at h;rcases Nu.mp h with q|q
  ·split at q
   ·rename_i d;exact .inr ⟨p,c,by simp,by simp,List.Sublist.cons_cons p (List.Sublist.cons_cons c (List.nil_sublist _)),d,Oy.mp q,λR d=>d.1⟩
   ·cases q
  ·rcases Nu.mp q with q|q
   ·split at q
    ·rw[Oy.mp q];exact .inl (by simp)
    ·cases q
   ·rcases tD r c q with q|⟨a,b,i,h,g,f,e,c⟩
    ·exact .inl (Ni _ q)
    ·exact .inr ⟨a,b,Ni _ i,Ni _ h,g.cons p,f,e,λR d=>c R d.2⟩
theorem wR:∀(l seen:yaw),(Qn seen l).Nodup/\∀x∈Qn seen l,x∉seen
 |[],_=>⟨List.nodup_nil,λ_ h=>(by cases h)⟩
 |x::r,seen=>by
  unfold Qn;split
  ·exact wR r seen
  ·rename_i q;obtain⟨a,b⟩:=wR r (seen++[x]);refine⟨R0.mpr ⟨λh=>b x h (by simp),a⟩,λy hy=>?_⟩;rcases MD.mp hy with rfl|hy
   ·exact q
   ·exact λz=>b y hy (RV _ z)
def xv{l:yaw}{z:Tr}(h:l.getLast?=some z):l=l.dropLast++[z]:=by
 have a:l ≠ []:=λe=>by rw[e]at h;cases h
 rw[X2 a]at h;have:=(Xb a).symm;rw[Pp h]at this;exact this
theorem xJ:∀{l Z:yaw},l.Nodup->(∀x∈l,x∈Z)->l.length<=Z.length
 |[],_,_,_=>N9 _
 |x::r,Z,h,c=>by
  obtain⟨a,b⟩:=R0.mp h;obtain⟨A,C,rfl⟩:=Xh (c x (by simp));have:=xJ (l:=r) (Z:=A++C) b λy b=>by
   have:=c y (Ni _ b);simp only[Nu,MD]at this ⊢;rcases this with q|q|q
   ·exact .inl q
   ·rw[q]at b;exact absurd b a
   ·exact .inr q
  simp at this ⊢
  lia
def Em{f Z:yaw}{g:Tr}(w:∀e∈f,WV n e)(I:g∈f)(Y:∀e∈f,SJ (MT e g)∈Z)(C:WW n f Z l):WW n f Z (fh g l):=by
 unfold fh;cases hl:l.getLast? with
 |none=>exact⟨λ_ _ _ s=>(by cases s),λ_ h=>(by cases h),λ_ h=>(by cases h),λk z e=>(by simp at e),λ_ h=>(by cases h),N9 _⟩
 |some z =>
  have i:=xv hl;have c:∀x∈l,0<x.1:=λx hx=>(C.pr x hx).pos
  have O:z∈l:=by rw[i];simp
  have d:∀x∈z::l,0<x.1:=λx hx=>by
   rcases MD.mp hx with rfl|hx
   ·exact c x O
   ·exact c x hx
  have B:=BZ g;have h:RG (z::l):=by have:=DI (l:=l.dropLast) (a:=z) (by rw[<- i];exact C.Ql);rw[<- i]at this;exact this
  have N:RG (aH g (cW g) z l):=lg.t (yo B l z d h.p).2;have cy:=FO B (G:=(·∈f)) I i c C.cyc;have j:∀y∈aH g (cW g) z l,Pr y/\CB n y/\y∈Z:=λy Q=>by
   rcases tD l z Q with q|⟨a,b,U,T,_,o,rfl,hR⟩
   ·exact⟨C.pr y q,C.cb y q,C.mem y q⟩
   ·have G:=d a U;have A:=c b T;have p:=IP G A o;obtain⟨e,u,M,eb⟩:=hR _ (C.cyc _ z i);obtain⟨⟨m,s,t,K⟩,J⟩:=B a b G A o;have L:=K.zero M eb;have t:=IX (w e u).ne M (show Mg g a≠0 from λz=>by rw[z,Sw]at o;exact SY _ o);refine⟨p,?_,?_⟩
    ·obtain⟨m,r,h1,h2,h3⟩:=C5 p L J t;have E:=w e u;have H:=w g I;exact⟨w5 r h1 (KU (k:=2*n+3) E.a H.b E.b H.a (by lia)),w5 r h2 (Bd.mono ((E.b.mul H.c).sub (Nat.add_comm _ _ ▸ E.c.mul H.b)) (by lia)),w5 r h3 (Bd.mono ((E.c.mul H.a).sub (Nat.add_comm _ _ ▸ E.a.mul H.c)) (by lia))⟩
    ·rw[C6 p L J t];exact Y e u
  have sub:=pG (aH g (cW g) z l) [];exact⟨N.sub sub,λp b=>(j p (sub.subset b)).1,λp b=>(j p (sub.subset b)).2.1,Cf _ _ (MS _) N (λp b=>(j p b).1) cy,λp b=>(j p (sub.subset b)).2.2,xJ (wR _ _).1 λp b=>(j p (sub.subset b)).2.2⟩
def rJ(Ql:RG l)(a:∀p∈l,Pr p):(∀X,Uo l X->0<=Mg g X->Uo (fh g l) X)/\(∀y∈fh g l,0<=Mg g y)/\∀d,(∀p∈l,0<=Mg d p)->∀y∈fh g l,0<=Mg d y:=by
 unfold fh;cases hl:l.getLast? with
 |none =>
  have e:=X4.mp hl;subst e;exact⟨λX h _=>h,λ_ h=>(by cases h),λ_ _ _ h=>by cases h⟩
 |some z =>
  have e:=xv hl;have b:∀x∈l,0<x.1:=λx hx=>(a x hx).pos
  have c:z∈l:=by rw[e];simp
  have a:∀x∈z::l,0<x.1:=λx hx=>by
   rcases MD.mp hx with rfl|hx
   ·exact b x c
   ·exact b x hx
  have B:=BZ g;have sub:=pG (aH g (cW g) z l) [];refine⟨λX g i h f=>FP B e Ql b g i h λp e=>?_,λy b=>vj B l z a y (sub.subset b),λd d y b=>rC B l z a (λx hx=>?_) y (sub.subset b)⟩
  ·exact f p ((tQ _ [] e).resolve_left (by simp))
  ·rcases MD.mp hx with rfl|hx
   ·exact d x c
   ·exact d x hx
def aU(a l:yaw):yaw:=a.foldl (λl g=>fh g l) l
def JP(h:Uo l X)(hX:0<X.1):l ≠ []:=λe=>by
 subst e;have:=h (-1,0,0) (λ_ q=>by cases q);unfold Mg at this;dsimp only at this
 lia
def sT(p:Sp):Tr:=(1,p.1,p.2)
def Ju(a b c:Sp):NB (sT a) (sT b) (sT c)=cr a b c:=by rw[cD];unfold NB sT Mg MT;grind
def vQ{A B:Int}{x y z:Sp}(b:0<A*y.1+B*y.2)(a:0<=A*x.1+B*x.2)(hz:0<=A*z.1+B*z.2)(d:0<=tn x y)(c:0<=tn y z):0<=tn x z:=by
 have e:(A*y.1+B*y.2)*tn x z=(A*z.1+B*z.2)*tn x y+(A*x.1+B*x.2)*tn y z:=by unfold tn;grind
 have a1:=OA hz d;have a2:=OA a c;exact Ur (a:=A*y.1+B*y.2) (by rw[e];omega) b
def sb(a b:Sp):Sp:=(a.1 - b.1,a.2 - b.2)
def gP(a b c:Sp):cr a b c=tn (sb b a) (sb c a):=by rw[cD];unfold tn sb;grind
def fY(A B:Int)(a b:Sp):A*(sb a b).1+B*(sb a b).2=fA A B a - fA A B b:=by unfold sb fA;grind
def Am(L:Way A B ps n l){i j k:Nat}(e:i<j)(d:j<k)(a:k<n):0<=cr (l i) (l j) (l k):=by
 have c:=L.ND j (by lia) (l i) (L.mem i (by lia));have b:=L.ND j (by lia) (l k) (L.mem k a);have r1:=L.rise i j e (by lia);have r2:=L.rise j (j+1) (by lia) (by lia);have r3:=L.rise j k d a;have:=vQ (A:=A) (B:=B) (x:=sb (l j) (l i)) (y:=sb (l (j+1)) (l j)) (z:=sb (l k) (l j)) (by rw[fY];lia) (by rw[fY];lia) (by rw[fY];lia) (by
  rw[cD]at c;unfold tn sb;dsimp only;have:(l j).1*1=(l j).1:=by lia
  grind) (by rw[<- gP];exact b)
 rw[gP];have e:tn (sb (l j) (l i)) (sb (l k) (l i))=tn (sb (l j) (l i)) (sb (l k) (l j)):=by unfold tn sb;grind
 rw[e];exact this
def An{m:Nat}(L:Way A B ps n l)(U:Way (-A) (-B) ps (m+2) u)(o:u (m+1)=l 0){i j k:Nat}(p:i<j)(d:j<n)(g:k<m+2):0<=cr (l i) (l j) (u k):=by
 have f:=U.mem k g;have rij:=L.rise i j p d;by_cases h:fA A B (u k)<=fA A B (l i)
 ·have b:=L.ND i (by lia) (u k) f;have c:=L.ND i (by lia) (l j) (L.mem j d);have r:=L.rise i (i+1) (by lia) (by lia);have:=vQ (A:=A) (B:=B) (x:=sb (l i) (u k)) (y:=sb (l (i+1)) (l i)) (z:=sb (l j) (l i)) (by rw[fY];lia) (by rw[fY];lia) (by rw[fY];lia) (by
   rw[gP]at b;have:tn (sb (l i) (u k)) (sb (l (i+1)) (l i))=tn (sb (l (i+1)) (l i)) (sb (u k) (l i)):=by unfold tn sb;grind
   rw[this];exact b) (by rw[<- gP];exact c)
  rw[gP];have e:tn (sb (l j) (l i)) (sb (u k) (l i))=tn (sb (l i) (u k)) (sb (l j) (l i)):=by unfold tn sb;grind
  rw[e];exact this
 ·by_cases c2:fA A B (l j)<=fA A B (u k)
  ·obtain⟨a,rfl⟩:∃a,j=a+1:=⟨j - 1,by lia⟩;have b:=L.ND a d (u k) f;have c:=L.ND a d (l i) (L.mem i (by lia));have r:=L.rise a (a+1) (by lia) d;have:=vQ (A:=A) (B:=B) (x:=sb (l (a+1)) (l i)) (y:=sb (l (a+1)) (l a)) (z:=sb (u k) (l (a+1))) (by rw[fY];lia) (by rw[fY];lia) (by rw[fY];lia) (by
    rw[gP]at c;have:tn (sb (l (a+1)) (l i)) (sb (l (a+1)) (l a))=tn (sb (l (a+1)) (l a)) (sb (l i) (l a)):=by unfold tn sb;grind
    rw[this];exact c) (by
    rw[gP]at b;have:tn (sb (l (a+1)) (l a)) (sb (u k) (l (a+1)))=tn (sb (l (a+1)) (l a)) (sb (u k) (l a)):=by unfold tn sb;grind
    rw[this];exact b)
   rw[gP];have e:tn (sb (l (a+1)) (l i)) (sb (u k) (l i))=tn (sb (l (a+1)) (l i)) (sb (u k) (l (a+1))):=by unfold tn sb;grind
   rw[e];exact this
  ·have km:k<m+1:=by
    rcases Nat.lt_or_eq_of_le (Nat.le_of_lt_succ g)with q|q
    ·exact q
    ·exfalso;rw[q,o]at h;exact h (L.lo _ (L.mem i (by lia)))
   have b:=U.ND k (by lia) (l i) (L.mem i (by lia));have c:=U.ND k (by lia) (l j) (L.mem j d);have r:=U.rise k (k+1) (by lia) (by lia);rw[cB,cB]at r;have:=vQ (A:=A) (B:=B) (x:=sb (l j) (u k)) (y:=sb (u k) (u (k+1))) (z:=sb (u k) (l i)) (by rw[fY];lia) (by rw[fY];lia) (by rw[fY];lia) (by
    rw[gP]at c;have:tn (sb (l j) (u k)) (sb (u k) (u (k+1)))=tn (sb (u (k+1)) (u k)) (sb (l j) (u k)):=by unfold tn sb;grind
    rw[this];exact c) (by
    rw[gP]at b;have:tn (sb (u k) (u (k+1))) (sb (u k) (l i))=tn (sb (u (k+1)) (u k)) (sb (l i) (u k)):=by unfold tn sb;grind
    rw[this];exact b)
   rw[gP];have e:tn (sb (l j) (l i)) (sb (u k) (l i))=tn (sb (l j) (u k)) (sb (u k) (l i)):=by unfold tn sb;grind
   rw[e];exact this
def IW(a b c:Sp):cr a b c=cr b c a:=by rw[cD,cD];grind
def Fu{n m:Nat}{h:Nat->Sp}(L:Way A B ps (n+2) l)(U:Way (-A) (-B) ps (m+2) u)(o:l (n+1)=u 0)(p:u (m+1)=l 0)
  (a:∀k,k<n+2->h k=l k) (c:∀j,j<m+1->h (n+1+j)=u j) {i j k:Nat} (g:i<j) (q:j<k) (d:k<n+m+2):0<=cr (h i) (h j) (h k):=by
 have U2:Way A B ps (n+2) l:=L;have r:Way (-(-A)) (-(-B)) ps (n+2) l:=by rw[Int.neg_neg,Int.neg_neg];exact L
 have b:∀k,n+1<=k->k<n+m+2->h k=u (k - (n+1)):=λk h1 h2=>by
  have:=c (k - (n+1)) (by lia);rw[<- this];congr 1
  lia
 by_cases c:i<n+2
 ·by_cases e:j<n+2
  ·by_cases f:k<n+2
   ·rw[a i c,a j e,a k f];exact Am L g q f
   ·rw[a i c,a j e,b k (by lia) d];exact An L U p g e (by lia)
  ·rw[a i c,b j (by lia) (by lia),b k (by lia) d,IW];exact An U r o (by lia) (by lia) c
 ·rw[b i (by lia) (by lia),b j (by lia) (by lia),b k (by lia) d];exact Am U (by lia) (by lia) (by lia)
theorem Aj:∀{l:yaw},(∀i j k (c:i<j) (b:j<k) (a:k<l.length),0<=NB (l[i]'(by lia)) (l[j]'(by lia)) (l[k]'a))->lg l
 |[],_=>True.intro
 |p::r,h=>⟨TG.mpr λi j hi hj q=>h 0 (i+1) (j+1) (by lia) (by lia) (by simp;lia),Aj λi j k c b a=>h (i+1) (j+1) (k+1) (by lia) (by lia) (by simp;lia)⟩
def xp(h:cS ys ps):RG ((aQ ys).map sT)/\(1<(aQ ys).length->∀k,k<(aQ ys).length->bP (aQ ys) k≠(aQ ys).getD k (0,0)):=by
 have yl:=qR h;obtain⟨o,a⟩:=h;unfold aQ;by_cases c:ys.length<2
 ·rw[Ml c];refine⟨λx y z s=>?_,λq=>absurd q (by lia)⟩;have:=s.length_le;simp at this
  lia
 rw[Mj c];obtain⟨M,j,g⟩:=Ek ys;have i:ys.Pairwise λp q=>fA (2*M) 1 p<fA (2*M) 1 q:=by refine List.Pairwise.imp_of_mem ?_ o;intro p q f d h;exact sj j (g p f) (g q d) h
 have m:ys.reverse.Pairwise λp q=>fA (-(2*M)) (-1) p<fA (-(2*M)) (-1) q:=by refine List.pairwise_reverse.mpr (i.imp ?_);intro p q h;rw[cB,cB];exact Int.neg_lt_neg h
 have L:=(tE i (US c)).to (qs:=ps) λp=>(a p).symm
 have U:=(tE m (by rw[RW];exact US c)).to (qs:=ps) λp=>by rw[UR];exact(a p).symm
 have c:(aL ys).length<=ys.length:=by have:=gh [] ys;unfold aL;rw[RW];simpa using this
 have b:(aL ys.reverse).length<=ys.length:=by have:=gh [] ys.reverse;unfold aL;rw[RW];simpa using this
 generalize aL ys=l at L c ⊢;generalize aL ys.reverse=u at U b ⊢;have b:∀p∈ps,∀q∈ps,fA (2*M) 1 p=fA (2*M) 1 q->p=q:=λp f q d e=>xc i p ((a p).mpr f) q ((a q).mpr d) e
 have c:∀p∈ps,∀q∈ps,fA (2*M) 1 p<=fA (2*M) 1 q->¬gg q p:=λp f q d e x =>
  Int.not_le_of_gt (sj j (g q ((a q).mpr d)) (g p ((a p).mpr f)) x) e
 generalize 2*M=A at L U b c;clear i m g j o a;obtain⟨n,g⟩:∃n,l.length=n+2:=⟨l.length - 2,by have:=L.two;lia⟩;obtain⟨m,a⟩:∃m,u.length=m+2:=⟨u.length - 2,by have:=U.two;lia⟩;have c:(l.dropLast++u.dropLast).length=n+m+2:=by
  rw[Od,TJ,TJ,g,a];show n+1+(m+1)=_
  lia
 have memD:∀{w:yau} {x:Sp},x∈w.dropLast->x∈w:=fun {w x} d=>(List.dropLast_sublist w).subset d
 have o:∀{w:yau} {i:Nat} (d:i<w.length),w.getD i (0,0)=w[i]:=fun {w i} d=>by rw[Nz,M5 d];rfl
 rw[g]at L;rw[a]at U;have p:l.getD (n+1) (0,0)=u.getD 0 (0,0):=by have f:=L.mem (n+1) (QL _);have d:=U.mem 0 (Rg _);have j:=L.hi _ d;have h:=U.lo _ f;rw[cB,cB]at h;exact b _ f _ d (Xs (Z7 h) j)
 have r:u.getD (m+1) (0,0)=l.getD 0 (0,0):=by have f:=L.mem 0 (Rg _);have d:=U.mem (m+1) (QL _);have j:=L.lo _ d;have h:=U.hi _ f;rw[cB,cB]at h;exact b _ d _ f (Xs (Z7 h) j)
 have f:∀j,j<m+1->(l.dropLast++u.dropLast).getD (n+1+j) (0,0)=u.getD j (0,0):=λj b=>by
  have ld:l.dropLast.length=n+1:=by rw[TJ,g];rfl
  rw[Nz,Nz,RI (by rw[ld];exact Vz _ _),ld,Nat.add_sub_cancel_left,Z3,a,Ml (show j<m+2 - 1 from b)]
 have d:∀k,k<n+2->(l.dropLast++u.dropLast).getD k (0,0)=l.getD k (0,0):=λk a=>by
  rcases Nat.lt_or_eq_of_le (Nat.le_of_lt_succ a)with z|z
  ·rw[Nz,Nz,RK (by rw[TJ,g];exact z),Z3,g,Ml (show k<n+2 - 1 from z)]
  ·rw[z,p];exact f 0 (Rg _)
 constructor
 rotate_left
 ·intro _ k a e;rw[c]at a;unfold bP at e;rw[c]at e;have b:∀k,n+1<=k->k<n+m+2->(l.dropLast++u.dropLast).getD k (0,0)=u.getD (k - (n+1)) (0,0):=λk h1 h2=>by
   have:=f (k - (n+1)) (by lia);rw[<- this];congr 1
   lia
  cases k with
  |zero =>
   have g:(0+(n+m+2) - 1) % (n+m+2)=n+m+1:=by rw[Pm (by lia)];lia
   rw[g,b _ (by lia) (by lia),d 0 (by lia),<- r]at e;have:=U.rise (n+m+1 - (n+1)) (m+1) (by lia) (by lia);rw[e]at this;exact SY _ this
  |succ k =>
   have g:(k+1+(n+m+2) - 1) % (n+m+2)=k:=by
    have:k+1+(n+m+2) - 1=k+(n+m+2):=by lia
    rw[this,Xl,Pm (by lia)]
   rw[g]at e;by_cases q:k+1<n+2
   ·rw[d k (by lia),d (k+1) q]at e;have:=L.rise k (k+1) (by lia) q;rw[e]at this;exact SY _ this
   ·rw[b k (by lia) (by lia),b (k+1) (by lia) a]at e;have:=U.rise (k - (n+1)) (k+1 - (n+1)) (by lia) (by lia);rw[e]at this;exact SY _ this
 apply lg.t;apply Aj;intro i j k e b a;rw[Mq,c]at a;have R:=Fu L U p r d f e b a;rw[o (by rw[c];lia),o (by rw[c];lia),o (by rw[c];lia)]at R;rw[RL,RL,RL,Ju];exact R
def Lo(p:Sp):Pr (sT p):=⟨by show(0:Int)<1;decide,by show PM.g3 1 p.1 p.2=1;unfold PM.g3;rw[Int.one_gcd];exact Int.one_gcd⟩
def pQ(h X:Tr)(p:Sp):X.1*Mg h (sT p) - Mg h X=h.2.1*(Mu X p).1+h.2.2*(Mu X p).2:=by unfold Mg sT Mu;grind
def xq{X:Tr}(h0:0<X.1)(B:nU X hs):Uo (hs.map sT) X:=λh a=>by
 have i:∀p∈hs,0<=X.1*Mg h (sT p):=λp i=>OA (N8 h0) (a _ (M4.mpr ⟨p,i,rfl⟩))
 have k:∀p∈hs,∀q∈hs,∀s t:Int,0<s->0<t->s*(Mu X p).1+t*(Mu X q).1=0->s*(Mu X p).2+t*(Mu X q).2=0->0<=Mg h X:=λp d q f s t g b u o=>by
  have n:=pQ h X p;have m:=pQ h X q;have y:=OA (N8 g) (i p d);have x:=OA (N8 b) (i q f);have e:(s+t)*Mg h X=s*(X.1*Mg h (sT p))+t*(X.1*Mg h (sT q)):=by grind
  exact Ur (a:=s+t) (by rw[e];lia) (by lia)
 have c:∀p∈hs,∀q∈hs,∀r∈hs,∀s t w:Int,0<s->0<t->0<w->s*(Mu X p).1+t*(Mu X q).1+w*(Mu X r).1=0->s*(Mu X p).2+t*(Mu X q).2+w*(Mu X r).2=0->0<=Mg h X:=λp d q f r j s t w g b l u o=>by
  have n:=pQ h X p;have m:=pQ h X q;have g3:=pQ h X r;have y:=OA (N8 g) (i p d);have x:=OA (N8 b) (i q f);have a3:=OA (N8 l) (i r j);have e:(s+t+w)*Mg h X=s*(X.1*Mg h (sT p))+t*(X.1*Mg h (sT q))+w*(X.1*Mg h (sT r)):=by grind
  exact Ur (a:=s+t+w) (by rw[e];lia) (by lia)
 rcases B with⟨p,d,b⟩| ⟨p,d,q,f,b⟩| ⟨p,d,q,f,r,j,b⟩
 ·have g:=pQ h X p;have a:Mu X p=(0,0):=b;rw[a,UW,UW]at g;have:=i p d
  lia
 ·obtain⟨g,a⟩:=C7 b.1;have h:Mu X q≠(0,0):=λe=>by have:=b.2;rw[e]at this;unfold MQ at this;simp at this
  exact k p d q f _ _ (j8 h) (by have:=b.2;lia) g a
 ·obtain⟨g,a⟩:=Ej (Mu X p) (Mu X q) (Mu X r);rcases b with⟨h,e,b⟩| ⟨h,e,b⟩
  ·exact c p d q f r j _ _ _ h e b g a
  ·exact c p d q f r j (-tn (Mu X q) (Mu X r)) (-tn (Mu X r) (Mu X p)) (-tn (Mu X p) (Mu X q)) (by lia) (by lia) (by lia) (by rw[Qc,Qc,Qc];lia) (by rw[Qc,Qc,Qc];lia)
def A7(g:mw hs ps)(d:ps ≠ []):mw hs hs:=by refine⟨λ_ h=>h,by lia,λ_=>?_,λa e p c=>g.one a e p (g.mem p c),λa b e=>⟨(g.two a b e).1,λp c=>(g.two a b e).2 p (g.mem p c)⟩,λq k b p c=>g.ND q k b p (g.mem p c),g.Q7⟩;obtain⟨a,r,e,b⟩:=g.RE d;exact⟨a,r,e,λp c=>b p (g.mem p c)⟩
def lY(g:mw hs ps)(b:ps ≠ []):hs ≠ []:=by obtain⟨a,r,e,_⟩:=g.RE b;rw[e];simp
def EN{X:Tr}(g:mw hs ps)(a:ps ≠ [])(h0:0<X.1)(c:∀b∈aK hs,0<=Mg b X):Uo (hs.map sT) X :=
 xq h0 (va (A7 g a) (lY g a) h0 c)
def wH(a b:Sp):Mg (eQ a b) (sT a)=0/\Mg (eQ a b) (sT b)=0:=by constructor<;>(unfold Mg eQ sT;grind)
def pP(a w:Sp):Mg (cA a w) (sT a)=0:=by unfold Mg cA sT;grind
theorem wy{R:Tr->Tr->Prop}:∀{l:yaw},(∀i (h:i+1<l.length),R (l[i]'(by lia)) l[i+1])->QI R l
 |[],_=>True.intro
 |[_],_=>True.intro
 |a::b::r,h=>⟨h 0 (by simp),wy λi a=>h (i+1) (by simp at a ⊢;lia)⟩
def EM{hs:yau}{g:yaw}(i:hs ≠ [])(j:∀b∈aK hs,b∈g):XY (Sh (·∈g)) (hs.map sT):=λk z l=>by
 by_cases c:hs.length<3
 ·have h:aK hs=eO (hs.getD 0 (0,0)) (hs.getD (hs.length - 1) (0,0)):=by unfold aK;rw[Ml c]
  have n:∃e∈g,∀p∈hs,Mg e (sT p)=0:=by
   refine⟨cA (hs.getD 0 (0,0)) (QT (aO (hs.getD 0 (0,0)) (hs.getD (hs.length - 1) (0,0)))),j _ (by rw[h];unfold eO;simp),λp f=>?_⟩;rcases hs with _|⟨a,_|⟨b,_|⟨d,r⟩⟩⟩
   ·exact absurd rfl i
   ·rw[Oy.mp f];exact pP _ _
   ·simp only[MD,OX,or_false]at f;rcases f with rfl|rfl
    ·exact pP _ _
    ·show Mg (cA a (QT (aO a p))) (sT p)=0;unfold aO;split
     ·rename_i e;rw[<- e];exact pP _ _
     ·unfold Mg cA sT QT;grind
   ·simp at c;lia
  obtain⟨e,m,f⟩:=n;have a:∀x∈hs.map sT,Mg e x=0:=λx hx=>by obtain⟨p,b,rfl⟩:=M4.mp hx;exact f p b
  have d:z∈hs.map sT:=by rw[l];simp
  have b:∀x∈z::hs.map sT,Mg e x=0:=λx hx=>by
   rcases MD.mp hx with rfl|hx
   ·exact a x d
   ·exact a x hx
  exact wy λi a=>⟨e,m,b _ (Rf _),b _ (Rf _)⟩
 ·have h:aK hs=(List.range' 0 hs.length).map λk=>eQ (bP hs k) (hs.getD k (0,0)):=by unfold aK;rw[Mj c]
  have b:∀{i:Nat} (a:i<hs.length),hs.getD i (0,0)=hs[i]:=fun {i} a=>by rw[Nz,M5 a];rfl
  have d:∀i (a:i<hs.length),Sh (·∈g) (sT (bP hs i)) (sT hs[i]):=λi a=>by obtain⟨f,c⟩:=wH (bP hs i) (hs.getD i (0,0));refine⟨_,j (eQ (bP hs i) (hs.getD i (0,0))) (by rw[h];exact M4.mpr ⟨i,by simp[a],rfl⟩),f,?_⟩;rw[<- b a];exact c
  have f:z=sT (bP hs 0):=by
   have c:(hs.map sT).getLast?=some z:=by rw[l];simp
   rw[List.getLast?_map,zDe]at c;unfold bP;have:(0+hs.length - 1) % hs.length=hs.length - 1:=by rw[QM];exact Pm (by lia)
   rw[this,b (by lia)];rw[M5 (by lia)]at c;exact(Pp c).symm
  refine wy λi a=>?_
  cases i with
  |zero =>
   show Sh _ z ((hs.map sT)[0]'_);rw[f,RL];exact d 0 (by lia)
  |succ i =>
   show Sh _ ((hs.map sT)[i]'_) ((hs.map sT)[i+1]'_);rw[RL,RL];simp at a;have:=d (i+1) (by lia);unfold bP at this;have e:(i+1+hs.length - 1) % hs.length=i:=by
    have:i+1+hs.length - 1=i+hs.length:=by lia
    rw[this,Xl];exact Pm (by lia)
   rw[e,b (by lia)]at this;exact this
def Ef(d:WB n a)(c:WB n b):WB (n+1) (aO a b)/\aO a b≠(0,0):=by
 unfold aO;split
 ·exact⟨⟨by unfold Bd;have:=Vv (n:=2) (by decide) (show 1<=n+1 by lia);lia,by unfold Bd;exact Nat.pow_pos (by decide)⟩,by simp⟩
 ·rename_i e;refine⟨⟨?_,?_⟩,λz=>e ?_⟩
  ·show Bd _ (1*b.1 - 1*a.1);rw[QN,QN];exact c.x.sub d.x
  ·show Bd _ (1*b.2 - 1*a.2);rw[QN,QN];exact c.y.sub d.y
  ·simp only[R4]at z;exact QX (by lia) (by lia)
def pO(c:WB n a)(b:WB (n+1) w)(h0:w≠(0,0)):WV n (cA a w):=by
 unfold cA;refine⟨λz=>h0 ?_,?_,?_,?_⟩
 ·simp only[R4]at z;exact QX (by lia) (by lia)
 ·exact Bd.mono (Bd.neg ((b.x.mul c.x).add (b.y.mul c.y))) (by lia)
 ·show Bd _ (w.1*1);rw[Int.mul_one];exact b.x
 ·show Bd _ (w.2*1);rw[Int.mul_one];exact b.y
def Fq{hs:yau}(a:hs ≠ [])(k:Nat):bP hs k∈hs:=by unfold bP;have:(k+hs.length - 1) % hs.length<hs.length:=Tq _ (Z9.mpr a);rw[Nz,M5 this];exact Rf _
def getD_mem{hs:yau}{k:Nat}(h:k<hs.length):hs.getD k (0,0)∈hs:=by rw[Nz,M5 h];exact Rf _
def BX{hs:yau}(l:hs ≠ [])(q:1<hs.length->∀k,k<hs.length->bP hs k≠hs.getD k (0,0))(i:∀p∈hs,WB n p):∀b∈aK hs,WV n b:=λb f=>by
 unfold aK at f;split at f
 ·rename_i c;have a:0<hs.length:=Z9.mpr l;have b:=i _ (getD_mem (hs:=hs) (k:=0) a);have e:=i _ (getD_mem (hs:=hs) (k:=hs.length - 1) (by lia));obtain⟨g,j⟩:=Ef b e;generalize hs.getD 0 (0,0)=a at *;generalize hs.getD (hs.length - 1) (0,0)=d at *;unfold eO at f;simp only[MD,OX,or_false]at f;generalize aO a d=w at *;have o:WB (n+1) (RF w)/\RF w≠(0,0):=⟨⟨g.x.neg,g.y.neg⟩,λz=>j (by
   unfold RF at z;simp only[R4]at z;exact QX (by lia) (by lia))⟩
  have h:WB (n+1) (QT w)/\QT w≠(0,0):=⟨⟨g.y.neg,g.x⟩,λz=>j (by unfold QT at z;simp only[R4]at z;exact QX (by lia) (by lia))⟩
  have m:WB (n+1) (RF (QT w))/\RF (QT w)≠(0,0):=⟨⟨h.1.x.neg,h.1.y.neg⟩,λz=>h.2 (by generalize QT w=v at *;unfold RF at z;simp only[R4]at z;exact QX (by lia) (by lia))⟩
  rcases f with rfl|rfl|rfl|rfl
  ·exact pO b g j
  ·exact pO e o.1 o.2
  ·exact pO b h.1 h.2
  ·exact pO b m.1 m.2
 ·rename_i c;obtain⟨k,c,rfl⟩:=M4.mp f;have f:k<hs.length:=by simp at c;exact c
  have c:=q (by lia) k f;have b:=i _ (Fq l k);have e:=i _ (getD_mem f);generalize bP hs k=a at *;generalize hs.getD k (0,0)=d at *;unfold eQ;refine⟨λz=>c ?_,?_,?_,?_⟩
  ·simp only[R4]at z;exact QX (by lia) (by lia)
  ·exact Bd.mono ((b.x.mul e.y).sub (e.x.mul b.y)) (by lia)
  ·show Bd _ (a.2*1 - d.2*1);rw[Int.mul_one,Int.mul_one];exact b.y.sub e.y
  ·show Bd _ (1*d.1 - 1*a.1);rw[QN,QN];exact e.x.sub b.x
def EL{a Z:yaw}(h:cS ys ps)(c:ps ≠ [])(d:∀p∈ps,WB n p)(i:∀b∈aK (aQ ys),b∈a)(e:∀p∈aQ ys,sT p∈Z)(f:(aQ ys).length<=Z.length):WW n a Z ((aQ ys).map sT):=by
 have g:=dH h;have w:∀p∈aQ ys,WB n p:=λp a=>d p (g.mem p a)
 refine⟨(xp h).1,λp a=>?_,λp a=>?_,EM (lY g c) i,λp a=>?_,by rw[Mq];exact f⟩
 ·obtain⟨q,_,rfl⟩:=M4.mp a;exact Lo q
 ·obtain⟨q,b,rfl⟩:=M4.mp a;refine⟨?_,(w q b).x.mono (by lia),(w q b).y.mono (by lia)⟩;show Bd _ 1;unfold Bd;exact Of (show 1<2 ^ 1 by decide) (Vv (by decide) (by lia))
 ·obtain⟨q,b,rfl⟩:=M4.mp a;exact e q b
def DW(g:Tr)(a:Tr->Tr->Tr)(z:Tr)(l:yaw)(c:Tr):aH g a z (l++[c])=aH g a z l++((if Mg g (l.getLastD z)*Mg g c<0 then[a (l.getLastD z) c]else[])++(if 0<=Mg g c then[c]else[])):=by
 rcases List.eq_nil_or_concat l with rfl|⟨k,p,rfl⟩
 ·simp only[QV,aH,Tn,List.getLastD_nil];rfl
 ·rw[List.concat_eq_append,Ss];show aH g a z (k++p::[c])=_;rw[i5];congr 1;simp only[aH,Tn];rw[List.getLastD_concat]
theorem rB(g:Tr)(a:Tr->Tr->Tr):∀(l:yaw) (z:Tr),(aH g a z l).length<=2*l.length
 |[],_=>MS _
 |c::r,z=>by unfold aH;have:=rB g a r c;rw[Od,Od,P5];split<;>split<;>simp<;>lia
theorem oo:∀(l s a:yaw),(∀x,x∈s↔x∈a)->Qn s l=Qn a l
 |[],_,_,_=>rfl
 |x::r,s,a,h=>by
  unfold Qn;by_cases q:x∈s
  ·rw[Ml q,Ml ((h x).mp q)];exact oo r s a h
  ·rw[Mj q,Mj λz=>q ((h x).mpr z)];congr 1;exact oo r _ _ λy=>by simp[h y]
theorem wU(z:Tr):∀(l a:yaw),((List.range' a.length l.length).filter λk=>!((a++l).take k).any λy=>decide (y=(a++l).getD k z)).map (λk=>(a++l).getD k z)=Qn a l
 |[],a=>rfl
 |x::r,a=>by
  have ih:=wU z r (a++[x]);have e:a++[x]++r=a++x::r:=by simp
  rw[e]at ih;have b:(a++x::r).getD a.length z=x:=by simp[Nz]
  have c:(a++x::r).take a.length=a:=by simp
  rw[P5,List.range'_succ,List.filter_cons,b,c];have c:(a.any λy=>decide (y=x))=decide (x∈a):=by rw[Xq];simp
  rw[c];have c:(a++[x]).length=a.length+1:=by simp
  rw[c]at ih;unfold Qn;by_cases q:x∈a
  ·rw[Ml q,Mj (by simp[q]),ih];exact oo r _ _ λy=>by simp only[Nu,Oy];exact⟨λh=>h.elim id λe=>e ▸ q,.inl⟩
  ·rw[Mj q,Ml (by simp[q]),MN,b,ih]
def Ku(a b:Int):(sg a*sg b<0)↔a*b<0:=by
 unfold sg;rcases Vy a 0 with c|c|c
 ·rw[Mj (by lia),Ml c];rcases Vy b 0 with a|a|a
  ·rw[Mj (by lia),Ml a];have:=Xd c a;constructor<;>intro<;>lia
  ·subst a;simp
  ·rw[Ml a];have:=SK c a;constructor<;>intro<;>lia
 ·subst c;simp
 ·rw[Ml c];rcases Vy b 0 with a|a|a
  ·rw[Mj (by lia),Ml a];have:=Xc c a;constructor<;>intro<;>lia
  ·subst a;simp
  ·rw[Ml a];have:=RP c a;constructor<;>intro<;>lia
def Kv(a:Int):(0<=sg a)↔0<=a:=by
 unfold sg;split
 ·constructor<;>intro<;>lia
 ·split<;>(constructor<;>intro<;>lia)
def Jy(p q:Tr):eqD (Mz p) (Mz q)=decide (p=q):=by unfold Mz;rw[Co];obtain⟨a,b,c⟩:=p;obtain⟨d,e,f⟩:=q;rw[Xq];simp
def pU(p:Tr):Nm 1 (Mz p):=Nm.tup (.cons (.int _ _) (.cons (.int _ _) (.cons (.int _ _) (.nil _))))
def aW(ps:yau):D:=.lst false (ps.map MA)
def EY(h:aW p=aW q):p=q:=by unfold aW at h;simp only[D.lst.injEq,true_and]at h;exact Ah h
def Hk{ps qs:yat}(h:ps.map aW=qs.map aW):ps=qs:=jt EY h
def rq(p:yau):aJ (aW p)=aW p:=by unfold aW;rw[bE,fL]
def BG(ps:yat):bf (ps.map aW)=ps.map aW:=cE aW rq ps
def bS:yat->yat->Prop
 |[],[]=>True
 |ys::a,b::c=>cS ys b/\bS a c
 |_,_=>False
theorem bS.len:∀{yss Ls:yat},bS yss Ls->yss.length=Ls.length
 |[],[],_=>rfl
 |_::_,_::_,a=>by rw[P5,P5,bS.len a.2]
 |[],_::_,a=>a.elim
 |_::_,[],a=>a.elim
theorem bS.snoc:∀{yss Ls:yat} {ys ps:yau},bS yss Ls->cS ys ps->bS (yss++[ys]) (Ls++[ps])
 |[],[],_,_,_,h=>⟨h,True.intro⟩
 |_::_,_::_,_,_,a,h=>⟨a.1,bS.snoc a.2 h⟩
 |[],_::_,_,_,a,_=>a.elim
 |_::_,[],_,_,a,_=>a.elim
theorem bS.ex:∀{yss Ls:yat},bS yss Ls->∀ys∈yss,∃ps∈Ls,cS ys ps
 |[],_,_,_,h=>by cases h
 |y::yss,p::Ls,a,ys,h=>by
  rcases MD.mp h with rfl|h
  ·exact⟨p,by simp,a.1⟩
  ·obtain⟨ps,m,r⟩:=bS.ex a.2 ys h;exact⟨ps,Ni _ m,r⟩
 |_::_,[],a,_,_=>a.elim
theorem bS.ex2:∀{yss Ls:yat},bS yss Ls->∀ps∈Ls,∃ys∈yss,cS ys ps
 |_,[],_,_,h=>by cases h
 |y::yss,p::Ls,a,ps,h=>by
  rcases MD.mp h with rfl|h
  ·exact⟨y,by simp,a.1⟩
  ·obtain⟨ys,m,r⟩:=bS.ex2 a.2 ps h;exact⟨ys,Ni _ m,r⟩
 |[],_::_,a,_,_=>a.elim
def aT:Nat->yat->yav
 |_,[]=>[]
 |n,a::r=>((aK (aQ a)).map λg=>((n:Int),g))++aT (n+1) r
theorem sH:∀(yss:yat) (n:Nat) (ys:yau),aT n (yss++[ys])=aT n yss++(aK (aQ ys)).map λg=>(((n+yss.length:Nat):Int),g)
 |[],n,ys=>by simp[aT]
 |y::yss,n,ys=>by
  rw[PQ,aT,aT,sH yss (n+1) ys,Ss,P5];congr 4
  funext g
  congr 2
  lia
theorem vd:∀{yss:yat} {n:Nat} {x:Int×Tr},x∈aT n yss->∃ys∈yss,x.2∈aK (aQ ys)
 |[],_,_,h=>by cases h
 |y::yss,n,x,h=>by
  rw[aT]at h;rcases Nu.mp h with h|h
  ·obtain⟨g,a,rfl⟩:=M4.mp h;exact⟨y,by simp,a⟩
  ·obtain⟨ys,m,q⟩:=vd h;exact⟨ys,Ni _ m,q⟩
theorem oJ:∀{yss:yat} (n:Nat) {ys:yau} {g:Tr},ys∈yss->g∈aK (aQ ys)->g∈(aT n yss).map (·.2)
 |[],_,_,_,h,_=>by cases h
 |y::yss,n,ys,g,h,a=>by
  rw[aT,OC];rcases MD.mp h with rfl|h
  ·refine RV _ ?_;rw[NY];exact M4.mpr ⟨g,a,rfl⟩
  ·exact P4 _ (oJ (n+1) h a)
theorem oK{B:Nat}:∀(yss:yat) (n:Nat),(∀ys∈yss,(aK (aQ ys)).length<=B)->(aT n yss).length<=B*yss.length
 |[],_,_=>N9 _
 |y::yss,n,h=>by
  rw[aT,Od,Mq,P5,Nat.mul_succ];have:=h y (by simp);have:=oK yss (n+1) λz a=>h z (Ni _ a)
  lia
def N7(x:Int×Tr):D:=.tup [.int x.1,Mz x.2]
def ye(x:Int×Tr):aJ (N7 x)=N7 x:=by unfold N7;simp only[cq,br,bH,cH,da]
def nF(xs:yav):bf (xs.map N7)=xs.map N7:=cE N7 ye xs
def cU(r:yag×yaf):D:=.tup [Pk r.1,.lst true (r.2.map D.int)]
def jS (y:Tr) (a:List (yag×yaf)):D:=.tup [.str "meet", Mz y,.lst true (a.map cU)]
structure LsOk(Ls:yat):Prop where
 l0:0<Ls.length
 l8:Ls.length<=8
 ne:∀ps∈Ls,0<ps.length
 le:∀ps∈Ls,ps.length<=30
 bd:∀ps∈Ls,∀p∈ps,WB 40 p
def IB(Ls:yat)(X:Tr):Prop:=0<X.1/\∀a∈Ls,∀g:Tr,(∀p∈a,0<=Mg g (1,p.1,p.2))->0<=Mg g X
def CB.pb{y:Tr}(h:CB 40 y)(p:Pr y):PB 160 y:=⟨p.pos,h.b.mono (by decide),h.x.mono (by decide),h.y.mono (by decide)⟩
def A4{a:Type}(f:a->D)(z:a)(xs:List a):mG 0 (xs.map f)=(List.range' 0 xs.length).map λk=>D.tup [.int ((k:Nat):Int),f (xs.getD k z)]:=by
 apply List.ext_getElem?;intro i;by_cases h:i<xs.length
 ·rw[oz 0 (xs.map f) i (f xs[i]) (by rw[Nj,M5 h];rfl),Nj,M5 (by rw[OO];exact h),UO,QM,QM,VF,Option.map_some,Nz,M5 h];rfl
 ·rw[Sr (by rw[oA,Mq];lia),Sr (by rw[Mq,OO];lia)]
def bI(r:yag×yaf):D:=.tup [.lst false (r.1.map λ(k:Nat)=>D.int (k:Int)),.lst false (r.2.map D.int)]
def ft (y:Tr) (a:List (yag×yaf)):D:=.tup [.str "meet", Mz y,.lst false (a.map bI)]
def tq(r:yag×yaf):aJ (cU r)=bI r:=by
 have e:r.1.map (λ(k:Nat)=>D.int (k:Int))=(r.1.map λ(k:Nat)=>(k:Int)).map D.int:=by rw[NY];rfl
 unfold cU bI Pk;rw[e];simp only[cq,br,bH,bE,fW]
theorem kQ:∀a:List (yag×yaf),bf (a.map cU)=a.map bI
 |[]=>bH
 |r::a=>by rw[MN,br,tq,kQ a,MN]
def lR(r:yag×yaf):aJ (bI r)=bI r:=by
 have e:r.1.map (λ(k:Nat)=>D.int (k:Int))=(r.1.map λ(k:Nat)=>(k:Int)).map D.int:=by rw[NY];rfl
 unfold bI;rw[e];simp only[cq,br,bH,bE,fW]
def j5(y:Tr)(a:List (yag×yaf)):aJ (jS y a)=ft y a:=by unfold jS ft;simp only[cq,br,bH,bE,jv,da,kQ]
def d6(ps:yau):D:=.lst true (ps.map MA)
def tj(ps:yau):aJ (d6 ps)=aW ps:=by unfold d6 aW;rw[bE,fL]
theorem jc:∀Ls:yat,bf (Ls.map d6)=Ls.map aW
 |[]=>bH
 |p::r=>by rw[MN,br,tj,jc r,MN]
theorem Gn:∀(l:yaf),(∀x∈l,Bd n x)->Bd (n+l.length) l.sum
 |[],_=>by unfold Bd;exact Nat.pow_pos (by decide)
 |x::r,h=>by rw[Qb,P5];exact Bd.add (m:=n+r.length) ((h x (by simp)).mono (by lia)) (Gn r λy a=>h y (Ni _ a))
def zX(ps:yau)(a:List (Nat×Int)):Int:=(a.map λz=>z.2*(ps.getD z.1 (0,0)).1).sum
def zY(ps:yau)(a:List (Nat×Int)):Int:=(a.map λz=>z.2*(ps.getD z.1 (0,0)).2).sum
theorem KP(ps:yau):∀(b:yag) (a:yaf),zX ps (b.zip a)=sX (b.map λk=>ps.getD k (0,0)) a
 |[],_=>by unfold zX sX;simp
 |_::_,[]=>by unfold zX sX;simp
 |k::b,s::a=>by have:=KP ps b a;unfold zX sX at this ⊢;rw[Xi,MN,Qb,this,MN,SM,Qb,OY]
theorem KQ(ps:yau):∀(b:yag) (a:yaf),zY ps (b.zip a)=sY (b.map λk=>ps.getD k (0,0)) a
 |[],_=>by unfold zY sY;simp
 |_::_,[]=>by unfold zY sY;simp
 |k::b,s::a=>by have:=KQ ps b a;unfold zY sY at this ⊢;rw[Xi,MN,Qb,this,MN,SM,Qb,OY]
theorem yt:∀(b:yag) (a:yaf),List.zipWith (λx y=>D.tup [x,y]) ((b.map λ(k:Nat)=>(k:Int)).map D.int) (a.map D.int)=(b.zip a).map λz=>D.tup [.int ((z.1:Nat):Int),.int z.2]
 |[],_=>rfl
 |_::_,[]=>rfl
 |k::b,s::a=>by rw[MN,MN,MN,SM,yt b a,Xi,MN]
theorem zip_parts{b a:Type}(f:b->D)(g:a->D):∀(xs:List b) (ys:List a),List.zipWith (λx y=>D.tup [x,y]) (xs.map f) (ys.map g)=(xs.zip ys).map λz=>D.tup [f z.1,g z.2]
 |[],_=>rfl
 |_::_,[]=>rfl
 |x::xs,y::ys=>by rw[MN,MN,SM,zip_parts f g xs ys,Xi,MN]
def E8(r:yag×yaf):Nm 2 (cU r):=Nm.tup (.cons (Nm.map λ(_:Nat)=>Nm.int 0 _) (.cons (Nm.map (Nm.int 0)) (.nil _)))
def Ht(a:List (yag×yaf)):okD (.lst true (a.map cU)):=(Nm.map E8).ok
def sC(t:Bool)(ps:yau):Nm 2 (.lst t (ps.map MA)):=Nm.map J7
def LV(t:Bool)(Ls:yat):okD (.lst t (Ls.map aW)):=(Nm.map (λa=>sC false a)).ok
def J6(Ls:yat):okD (.lst true (Ls.map d6)):=(Nm.map (λa=>sC true a)).ok
structure Mb(m:Sp)(ps:yau):Prop where
 l0:0<ps.length
 l3:ps.length<=3
 bd:∀p∈ps,WB 40 p
 inn:∀g:Tr,(∀p∈ps,0<=Mg g (1,p.1,p.2))->0<=Mg g (1,m.1,m.2)
def p13:((10:Int) ^ (13:Int).toNat)=10000000000000:=by decide
def IT:As 10 13:=⟨by decide,by decide,by decide⟩
def plk(a b c d:Sp):tn a b*tn c d=tn a c*tn b d - tn a d*tn b c:=by unfold tn;grind
theorem w9(t:Sp):∀V:yau,(∃v∈V,0<tn t v)->∃v∈V,0<tn t v/\∀w∈V,0<tn t w->0<=tn v w
 |[],h=>by obtain⟨v,a,_⟩:=h;cases a
 |x::V,h=>by
  by_cases f:∃v∈V,0<tn t v
  ·obtain⟨v,vm,a,g⟩:=w9 t V f;by_cases d:0<tn t x/\tn v x<0
   ·refine⟨x,OB,d.1,λw c b=>?_⟩;rcases MD.mp c with e|wm
    ·rw[e,pZ];exact PR _
    ·have k:=plk t v x w;have a1:=OA (N8 d.1) (g w wm b);have i:=RP b (show 0 < - tn v x by lia);rw[Int.mul_neg]at i;exact Ur (by rw[k];lia) a
   ·refine⟨v,Ni _ vm,a,λw c b=>?_⟩;rcases MD.mp c with e|wm
    ·subst e;exact Tp.mp λz=>d ⟨b,z⟩
    ·exact g w wm b
  ·obtain⟨v,vm,a⟩:=h;rcases MD.mp vm with e|vm
   ·subst e;refine⟨v,OB,a,λw c b=>?_⟩;rcases MD.mp c with e|wm
    ·rw[e,pZ];exact PR _
    ·exact absurd ⟨w,wm,b⟩ f
   ·exact absurd ⟨v,vm,a⟩ f
theorem BF{a:Type}(f:a->Int):∀V:List a,∃M:Int,0<M/\∀v∈V,f v<=M
 |[]=>⟨1,by decide,λv a=>by cases a⟩
 |x::V=>by
  obtain⟨M,h0,b⟩:=BF f V;refine⟨M+(f x).toNat,by lia,λv a=>?_⟩;rcases MD.mp a with e|a
  ·subst e;lia
  ·have:=b v a;lia
def sq_pos{t:Sp}(d:t≠(0,0)):0<MQ t t:=by
 obtain⟨a,b⟩:=t;show 0<a*a+b*b;have h1:0<=a*a:=by rcases Int.le_total 0 a with h|h;exact OA h h;exact X1 h h
 have h2:0<=b*b:=by rcases Int.le_total 0 b with h|h;exact OA h h;exact X1 h h
 by_cases c:a=0
 ·have a:b≠0:=λe=>d (by rw[c,e])
  have:=Xt a a;omega
 ·have:=Xt c c;omega
def JE{t:Sp}(a:t≠(0,0))(V:yau)(g:∀d:Sp,(∀v∈V,0<=MQ v d)->0<=MQ t d):(∃v∈V,tn t v=0/\0<MQ t v)∨∃ v∈V,∃w∈V,tn t v<0/\0<tn t w/\0<tn v w:=by
 refine X3 λb=>?_
 have f:∀v∈V,tn t v=0->MQ t v<=0:=λv d h=>Tp.mp λz=>b (.inl ⟨v,d,h,z⟩)
 have j:=sq_pos a;by_cases L:∃v∈V,0<tn t v
 ·obtain⟨w,i,k,ext⟩:=w9 t V L;have a:=g (-w.2,w.1) λv d=>by
   have e:MQ v (-w.2,w.1)=tn w v:=by unfold MQ tn;grind
   rw[e];rcases Vy (tn t v) 0 with c|c|c
   ·refine Tp.mp λz=>b (.inr ⟨v,d,w,i,c,k,?_⟩)
    rw[cO];lia
   ·have k:MQ t t*tn w v=MQ t v*tn w t+tn t v*MQ w t:=by unfold MQ tn;grind
    rw[c,Sw,To]at k;have q:=X1 (f v d c) (show tn w t<=0 by rw[cO];lia);rw[<- k]at q;exact Ur q j
   ·exact ext v d c
  have e:MQ t (-w.2,w.1)=tn w t:=by unfold MQ tn;grind
  rw[e,cO]at a
  lia
 ·obtain⟨M,j,i⟩:=BF (λv=>MQ v t) V;have a:=g (M*t.2 - t.1,- (M*t.1) - t.2) λv d=>by
   have e:MQ v (M*t.2 - t.1,- (M*t.1) - t.2)=M*(- tn t v) - MQ v t:=by unfold MQ tn;grind
   rw[e];have h:=Tp.mp λz=>L ⟨v,d,z⟩
   by_cases c:tn t v=0
   ·have:=f v d c;rw[qF]at this;rw[c];lia
   ·have b:M*1<=M*(- tn t v):=zDN (by lia) (N8 j);have:=i v d
    lia
  have e:MQ t (M*t.2 - t.1,- (M*t.1) - t.2)=- MQ t t:=by unfold MQ;grind
  lia
def vc(g:Tr):Sp:=(g.2.1,g.2.2)
def K4(g:Tr)(N b a:Int)(p:Tr):Mg g (N*p.1,N*p.2.1+b,N*p.2.2+a)=N*Mg g p+MQ (vc g) (b,a):=by unfold Mg MQ vc;grind
def IK{a C:yaw}(d:C ≠ [])(pos:∀p∈C,0<p.1)(o:∀p∈C,Mg g p<0)(r:∀h∈a,∀p∈C,0<=Mg h p)
  (sp:∀X:Tr,0<X.1->(∀h∈a,0<=Mg h X)->Uo C X) (f:vc g≠(0,0)) :
  ∃ p:Tr,0<p.1/\Mg g p<0/\((∃h∈a,Mg h p=0/\iz (vc h) (vc g))∨∃ h∈a,∃k∈a,Mg h p=0/\Mg k p=0/\dX (vc h) (vc k) (vc g)):=by
 obtain⟨b,c⟩:=ZW C d;have m:∀p:Tr,Mg (-1,0,0) p=- p.1:=λp=>by unfold Mg;grind
 obtain⟨p,n,d,_,i⟩:=qL g (-1,0,0) C ⟨b,c,o b c,by rw[m];have:=pos b c;lia⟩;have j:=pos p n;refine⟨p,j,d,?_⟩;have b:(- g.2.1,- g.2.2)≠((0,0):Sp):=λe=>f (by have d:=congrArg Prod.fst e;have c:=congrArg Prod.snd e;dsimp only at d c;unfold vc;rw[show g.2.1=0 by lia,show g.2.2=0 by lia])
 have l:=JE b ((a.filter λh=>decide (Mg h p=0)).map vc) λd b=>by
  obtain⟨N,q,t⟩:=BF (λh=>- MQ (vc h) d) a;have s:∀h∈a,0<=Mg h (N*p.1,N*p.2.1+d.1,N*p.2.2+d.2):=λh f=>by
   rw[K4];by_cases c:Mg h p=0
   ·rw[c,UW,Int.zero_add];exact b _ (M4.mpr ⟨h,Yl.mpr ⟨f,R3 c⟩,rfl⟩)
   ·have b:N*1<=N*Mg h p:=zDN (by have:=r h f p n;lia) (N8 q);have:=t h f;show 0<=N*Mg h p+MQ (vc h) d
    lia
  have I:=sp _ (RP q j) s (Mg g p - p.1*g.1,- (p.1*g.2.1),- (p.1*g.2.2)) λy n=>by
   have b:=i y n (o y n);rw[m,m]at b;have e:Mg (Mg g p - p.1*g.1,- (p.1*g.2.1),- (p.1*g.2.2)) y=Mg g p*y.1 - p.1*Mg g y:=by unfold Mg;grind
   rw[e];rw[Int.mul_neg,Qc]at b
   lia
  have e:Mg (Mg g p - p.1*g.1,- (p.1*g.2.1),- (p.1*g.2.2)) (N*p.1,N*p.2.1+d.1,N*p.2.2+d.2)=p.1*MQ (- g.2.1,- g.2.2) d:=by unfold Mg MQ;grind
  rw[e]at I;exact Ur I j
 have d:∀v∈(a.filter λh=>decide (Mg h p=0)).map vc,∃h∈a,Mg h p=0/\vc h=v:=λv a=>by obtain⟨h,f,e⟩:=M4.mp a;obtain⟨a,b⟩:=Yl.mp f;exact⟨h,a,RY b,e⟩
 have i:∀v:Sp,tn (- g.2.1,- g.2.2) v=- tn (vc g) v:=λv=>by unfold tn vc;grind
 have m:∀v:Sp,MQ (- g.2.1,- g.2.2) v=- MQ (vc g) v:=λv=>by unfold MQ vc;grind
 rcases l with⟨v,e,a,b⟩| ⟨v,e,w,j,a,b,c⟩
 ·obtain⟨h,f,g,rfl⟩:=d v e;rw[i]at a;rw[m]at b;exact .inl ⟨h,f,g,by rw[cO];lia,by rw[qF];lia⟩
 ·obtain⟨h,f,g,rfl⟩:=d v e;obtain⟨k,l,e,rfl⟩:=d w j;rw[i]at a b;refine .inr ⟨h,f,k,l,g,e,.inl ⟨?_,?_,c⟩⟩
  ·rw[cO];exact b
  ·lia
theorem wA{a Z:yaw}(i:∀e∈a,WV n e)(j:∀e∈a,∀g∈a,SJ (MT e g)∈Z):∀(f l:yaw),(∀g∈f,g∈a)->WW n a Z l →
  WW n a Z (aU f l)/\(∀X,Uo l X->(∀g∈f,0<=Mg g X)->Uo (aU f l) X)/\(∀g∈f,∀y∈aU f l,0<=Mg g y)/\∀d,(∀p∈l,0<=Mg d p)->∀y∈aU f l,0<=Mg d y
 |[],l,_,C=>⟨C,λ_ I _=>I,λ_ h=>(by cases h),λ_ h=>h⟩
 |g::f,l,h,C=>by
  obtain⟨n,m,k⟩:=rJ (g:=g) C.Ql C.pr;obtain⟨a,b,c,d⟩:=wA i j f (fh g l) (λx f=>h x (Ni _ f)) (Em i (h g (by simp)) (λe i=>j e i g (h g (by simp))) C);refine⟨a,λX I a=>b X (n X I (a g (by simp))) λx f=>a x (Ni _ f),λx f y a=>?_,λe i=>d e (k e i)⟩;rcases MD.mp f with rfl|f
  ·exact d x m y a
  ·exact c x f y a
def MG(yss:yat):yaw:=(aT 0 yss).map (·.2)
def F0(yss:yat):yaw:=(aQ (yss.getD 0 [])).map sT
def BY{hs:yau}(hn:hs ≠ []){b:Tr}(a:b∈aK hs):∃p:Sp,Mg b (sT p)=0:=by
 unfold aK at a;split at a
 ·unfold eO at a;simp only[MD,OX,or_false]at a;rcases a with e|e|e|e<;>(rw[e];exact⟨_,pP _ _⟩)
 ·obtain⟨k,_,e⟩:=M4.mp a;rw[<- e];exact⟨_,(wH _ _).1⟩
def Ly(h:WV n b)(e:Mg b (sT p)=0):vc b≠(0,0):=λz=>h.ne (by have c:b.2.1=0:=congrArg Prod.fst z;have a:b.2.2=0:=congrArg Prod.snd z;unfold Mg sT at e;rw[c,a]at e;obtain⟨d,b1,b2⟩:=b;dsimp only at e c a;rw[c,a,show d=0 by lia])
structure pE(yss:yat):Prop where
 zs:∃Z:yaw,Z.length<=300000/\∀j,WW 40 (MG yss) Z (aU ((MG yss).take j) (F0 yss))
 inc:∀j X,0<X.1->(∀b∈aK (aQ (yss.getD 0 [])),0<=Mg b X)->(∀g∈(MG yss).take j,0<=Mg g X)->Uo (aU ((MG yss).take j) (F0 yss)) X
 ov:∀j,∀g∈(MG yss).take j,∀y∈aU ((MG yss).take j) (F0 yss),0<=Mg g y
 gb:∀g∈MG yss,WV 40 g/\vc g≠(0,0)
 pos:0<(MG yss).length
 le:(MG yss).length<=512
 ne:F0 yss ≠ []
 own:∀j,∀b∈aK (aQ (yss.getD 0 [])),∀y∈aU ((MG yss).take j) (F0 yss),0<=Mg b y
 hd:∃r,MG yss=aK (aQ (yss.getD 0 []))++r
def rY(L:LsOk Ls)(K:bS yss Ls):pE yss:=by
 have l:∀a∈yss,∃b∈Ls,cS a b:=K.ex;have s:∀g∈MG yss,WV 40 g/\vc g≠(0,0):=λg k=>by obtain⟨x,d,rfl⟩:=M4.mp k;obtain⟨a,c,i⟩:=vd d;obtain⟨b,e,r⟩:=l a c;have c:=dH r;have d:=UL (L.ne b e);have B:=BX (lY c d) (xp r).2 (λp h=>L.bd b e p (c.mem p h)) x.2 i;obtain⟨p,h⟩:=BY (lY c d) i;exact⟨B,Ly B h⟩
 obtain⟨n,Lr,rfl⟩:∃p r,Ls=p::r:=by
  cases Ls with
  |nil=>exact absurd L.l0 (by simp)
  |cons p r=>exact⟨p,r,rfl⟩
 obtain⟨c,d,rfl⟩:∃p r,yss=p::r:=by
  cases yss with
  |nil=>exact K.elim
  |cons p r=>exact⟨p,r,rfl⟩
 have q:cS c n:=K.1;have m:=dH q;have f:=UL (L.ne n (by simp));have j:∀a∈c::d,(aK (aQ a)).length<=64:=λa o=>by
  obtain⟨b,e,r⟩:=l a o;have:=(dH r).len;have:=L.le b e;have:=mB (aQ a)
  lia
 have lo:(aT 0 (c::d)).length<=64*(c::d).length:=oK _ 0 j;have ly:=K.len;have l8:=L.l8;have u:∃r,MG (c::d)=aK (aQ c)++r:=by refine⟨(aT 1 d).map (·.2),?_⟩;unfold MG;rw[aT,OC,NY];congr 1;exact List.map_id'' (λ_=>rfl) _
 have x:∀b∈aK (aQ c),b∈MG (c::d):=λb i=>oJ 0 (by simp) i
 have z:0<(MG (c::d)).length:=by
  unfold MG;rw[Mq,aT,Od,Mq];have:0<(aK (aQ c)).length:=by
   unfold aK;split
   ·unfold eO;simp
   ·rw[Mq,OO];lia
  lia
 have o:(MG (c::d)).length<=512:=by unfold MG;rw[Mq];lia
 have t:F0 (c::d)=(aQ c).map sT:=rfl
 let Z:yaw:=(aQ c).map sT++(MG (c::d)).flatMap λe=>(MG (c::d)).map λg=>SJ (MT e g)
 have y:Z.length<=300000:=by
  show((aQ c).map sT++(MG (c::d)).flatMap λe=>(MG (c::d)).map λg=>SJ (MT e g)).length<=300000;generalize MG (c::d)=j at o ⊢;rw[Od,Mq];have h1:=m.len;have h2:=L.le n (by simp);have h3:(j.flatMap λe=>j.map λg=>SJ (MT e g)).length<=512*512:=by
   have w:∀l:yaw,(l.flatMap λe=>j.map λg=>SJ (MT e g)).length<=l.length*512:=λl=>by
    induction l with
    |nil=>simp
    |cons a r ih =>
     rw[List.flatMap_cons,Od,Mq,P5,Nat.succ_mul]
     lia
   have:=w j;have:j.length*512<=512*512:=Yb _ o
   lia
  lia
 have l:∀e∈MG (c::d),∀g∈MG (c::d),SJ (MT e g)∈Z:=λe a g k=>P4 _ (Yi.mpr ⟨e,a,M4.mpr ⟨g,k,rfl⟩⟩)
 have r:WW 40 (MG (c::d)) Z (F0 (c::d)):=EL q f (L.bd n (by simp)) x (λp h=>RV _ (M4.mpr ⟨p,h,rfl⟩)) (by have e:((aQ c).map sT).length=(aQ c).length:=Mq _;show _<=((aQ c).map sT++_).length;rw[Od,e];exact Vz _ _)
 have run:=λj=>wA (λe a=>(s e a).1) l ((MG (c::d)).take j) _ (λg k=>(List.take_sublist j _).subset k) r
 refine⟨⟨Z,y,λj=>(run j).1⟩,λj X a i k=>(run j).2.1 X (EN m f a i) k,λj=>(run j).2.2.1,s,z,o,?_,λj b i=>(run j).2.2.2 b λp h=>?_,u⟩
 ·rw[t];intro z;exact lY m f (List.map_eq_nil_iff.mp z)
 ·rw[t]at h;obtain⟨q,a,rfl⟩:=M4.mp h;exact qi m f i (m.mem q a)
theorem zh:∀a:yaw,aU a []=[]
 |[]=>rfl
 |g::a=>zh a
def zf(a b l:yaw):aU (a++b) l=aU b (aU a l):=List.foldl_append
def En{G:yaw}{j:Nat}(h:aU (G.take i) F=[])(a:i<=j):aU (G.take j) F=[]:=by
 have e:G.take j=G.take i++(G.drop i).take (j - i):=by rw[<- List.take_add,Nat.add_sub_cancel' a]
 rw[e,zf,h,zh]
theorem wC{G F:yaw}(d:F ≠ []):∀n,aU (G.take n) F=[]->∃a,a<n/\(∀j,j<=a->aU (G.take j) F ≠ [])/\aU (G.take (a+1)) F=[]
 |0,h=>absurd h d
 |n+1,h=>by
  by_cases c:aU (G.take n) F=[]
  ·obtain⟨k,hk,a,b⟩:=wC d n c;exact⟨k,by lia,a,b⟩
  ·exact⟨n,by lia,λj a z=>c (En z a),h⟩
def wD{G:yaw}{k:Nat}{g:Tr}(h:G[k]?=some g):aU (G.take (k+1)) F=fh g (aU (G.take k) F):=by rw[List.take_add_one,h,zf];rfl
def Q8(G:yaw)(a:yag):yau:=a.map λk=>vc (G.getD k (0,0,0))
def qz(G:yaw)(b:yag)(a:yaf):Int:=((b.zip a).map λz=>(G.getD z.1 (0,0,0)).1*z.2).sum
def gN(G:yaw)(a:Nat):List (yag)->Option (yag×yaf)
 |[]=>none
 |o::r=>match dZ (Q8 G (o++[a]))with
  |some b=>if qz G (o++[a]) b<0 then some (o++[a],b)else gN G a r
  |none=>gN G a r
set_option tactic.hygienic true in
theorem uI:∀{L:List (yag)} {a:yag} {b:yaf},gN G last L=some (a,b)->(∃o∈L,a=o++[last])/\dZ (Q8 G a)=some b/\qz G a b<0
 |[],_,_,h=>by cases h
 |o::r,a,b,h=>by
  have f:gN G last r=some (a,b)->(∃d∈o::r,a=d++[last])/\dZ (Q8 G a)=some b/\qz G a b<0:=λh=>by obtain⟨⟨d,m,e⟩,q⟩:=uI h;exact⟨⟨d,Ni _ m,e⟩,q⟩
  unfold gN at h;split at h
  ·rename_i s g;split at h
   ·rename_i c;cases h;exact⟨⟨o,OB,rfl⟩,g,c⟩
   ·exact f h
  ·exact f h
theorem pF{a:Nat}:∀{L:List (yag)} {o:yag} {b:yaf},o∈L->dZ (Q8 G (o++[a]))=some b->qz G (o++[a]) b<0->∃r,gN G a L=some r
 |[],_,_,m,_,_=>by cases m
 |x::r,o,b,m,a,d=>by
  unfold gN;split
  ·rename_i s b;split
   ·exact⟨_,rfl⟩
   ·rename_i c;rcases MD.mp m with e|m
    ·subst e;rw[b]at a;cases a;exact absurd d c
    ·exact pF m a d
  ·rename_i b;rcases MD.mp m with e|m
   ·subst e;rw[b]at a;cases a
   ·exact pF m a d
def CT{p c t v:Int}(d:0<p)(b:0<t)(a:v<0)(e:p*c=t*v):c<0:=by have h:=Xc b a;rw[<- e]at h;exact QW.mp λz=>by have:=OA (N8 d) z;lia
def LH{p:Tr}(B:vG [vc h,vc g] a)(h0:0<p.1)(hp:Mg h p=0)(c:Mg g p<0):∃s t,a=[s,t]/\h.1*s+g.1*t<0:=by
 obtain⟨s,t,rfl⟩:∃s t,a=[s,t]:=by
  have:=B.len;rcases a with _|⟨s,_|⟨t,_|⟨u,r⟩⟩⟩
  ·simp at this
  ·simp at this
  ·exact⟨s,t,rfl⟩
  ·simp at this
 have b:=B.sum;unfold wsum vc at b;simp only[SM,X9,Qb,VE,To,R4]at b;obtain⟨b1,b2⟩:=b;have a:=B.pos t (by simp);refine⟨s,t,rfl,CT h0 a c ?_⟩;unfold Mg at *;grind
def LJ{p:Tr}(B:vG [vc h,vc k,vc g] a)(h0:0<p.1)(hp:Mg h p=0)(kp:Mg k p=0)(c:Mg g p<0):∃s t u,a=[s,t,u]/\h.1*s+(k.1*t+g.1*u)<0:=by
 obtain⟨s,t,u,rfl⟩:∃s t u,a=[s,t,u]:=by
  have:=B.len;rcases a with _|⟨s,_|⟨t,_|⟨u,_|⟨v,r⟩⟩⟩⟩
  ·simp at this
  ·simp at this
  ·simp at this
  ·exact⟨s,t,u,rfl⟩
  ·simp at this
 have b:=B.sum;unfold wsum vc at b;simp only[SM,X9,Qb,VE,To,R4]at b;obtain⟨b1,b2⟩:=b;have a:=B.pos u (by simp);refine⟨s,t,u,rfl,CT h0 a c ?_⟩;unfold Mg at *;grind
def uz{G:yaw}{h:Tr}(m:h∈G.take n):∃i,i<n/\G.getD i (0,0,0)=h:=by obtain⟨i,a,e⟩:=TL m;rw[RZ]at a;rw[List.getElem_take]at e;exact⟨i,by lia,by rw[Nz,M5 (by lia),e];rfl⟩
def AM(S:pE yss)(e:aU (MG yss) (F0 yss)=[]) :
  ∃ a,a<(MG yss).length/\(∀j,j<=a->aU ((MG yss).take j) (F0 yss) ≠ [])/\aU ((MG yss).take (a+1)) (F0 yss)=[]/\∃r,gN (MG yss) a (Ng a 1++Ng a 2)=some r:=by
 obtain⟨a,f,k,i⟩:=wC S.ne (MG yss).length (by rw[SR];exact e);refine⟨a,f,k,i,?_⟩;obtain⟨Z,_,b⟩:=S.zs;have e:=b a;have b:(MG yss)[a]?=some (MG yss)[a]:=M5 f;have n:(MG yss).getD a (0,0,0)=(MG yss)[a]:=by rw[Nz,b];rfl
 have c:∀y∈aU ((MG yss).take a) (F0 yss),Mg (MG yss)[a] y<0:=λy d=>QW.mp λz=>by have l:=(rJ (g:=(MG yss)[a]) e.Ql e.pr).1 y (λh g=>g y d) z;rw[wD b]at i;exact JP l (e.pr y d).pos i
 have l:=k a (MS _);obtain⟨g,k⟩:=ZW _ l;obtain⟨r,i⟩:=S.hd;have p:(aK (aQ (yss.getD 0 []))).length<=a:=Sy.mp (by
  intro z;have o:a<(aK (aQ (yss.getD 0 []))).length:=by lia
  have m:(MG yss)[a]∈aK (aQ (yss.getD 0 [])):=by
   have q:(MG yss)[a]?=(aK (aQ (yss.getD 0 [])))[a]?:=by rw[i,RK o]
   rw[b]at q;exact NF q.symm
  have:=S.own a _ m g k;have:=c g k
  lia)
 have sub:∀b∈aK (aQ (yss.getD 0 [])),b∈(MG yss).take a:=λb g=>by rw[i,List.take_append];refine RV _ ?_;rw[UN p];exact g
 obtain⟨p,C,E,i⟩:=IK l (λy d=>(e.pr y d).pos) c (S.ov a) (λX d c=>S.inc a X d (λb g=>c b (sub b g)) c) (S.gb _ (Rf f)).2;rcases i with⟨h,c,e,B⟩| ⟨h,c,k,m,e,l,B⟩
 ·obtain⟨i,w,d⟩:=uz c;have x:Q8 (MG yss) ([i]++[a])=[vc h,vc (MG yss)[a]]:=by
   show[vc ((MG yss).getD i (0,0,0)),vc ((MG yss).getD a (0,0,0))]=_;rw[d,n]
  have g:dZ [vc h,vc (MG yss)[a]]=some (c9 [bu (vc (MG yss)[a]),bu (vc h)]):=Ml B;obtain⟨s,t,y,A⟩:=LH (nY (by simp) g) C e E;refine pF (o:=[i]) (RV _ (qJ w)) (by rw[x,g]) ?_;rw[y];show([((MG yss).getD i (0,0,0)).1*s,((MG yss).getD a (0,0,0)).1*t]:yaf).sum<0;rw[d,n];simp only[Qb,VE,To];exact A
 ·obtain⟨i,w,d⟩:=uz c;obtain⟨j,q,f⟩:=uz m;have m:i≠j:=λz=>by
   rw[z,f]at d;rw[d]at B;unfold dX at B;have:=pZ (vc h)
   lia
  have z:∀(i j:Nat) (h k:Tr),i<j->j<a->(MG yss).getD i (0,0,0)=h->(MG yss).getD j (0,0,0)=k->Mg h p=0->Mg k p=0->dX (vc h) (vc k) (vc (MG yss)[a])->∃r,gN (MG yss) a (Ng a 1++Ng a 2)=some r:=λi j h k p q d f e l B=>by
   have x:Q8 (MG yss) ([i,j]++[a])=[vc h,vc k,vc (MG yss)[a]]:=by show[vc ((MG yss).getD i (0,0,0)),vc ((MG yss).getD j (0,0,0)),vc ((MG yss).getD a (0,0,0))]=_;rw[d,f,n]
   obtain⟨c,g⟩:∃c,dZ [vc h,vc k,vc (MG yss)[a]]=some c:=by
    show∃c,jC _ _ _=some c;unfold jC;split
    ·exact⟨_,rfl⟩
    ·rename_i c;rcases B with b|b
     ·exact absurd b c
     ·exact⟨_,Ml b⟩
   obtain⟨s,t,u,y,A⟩:=LJ (nY (by simp) g) C e l E;refine pF (o:=[i,j]) (P4 _ (qK p q)) (by rw[x,g]) ?_;rw[y];show([((MG yss).getD i (0,0,0)).1*s,((MG yss).getD j (0,0,0)).1*t,((MG yss).getD a (0,0,0)).1*u]:yaf).sum<0;rw[d,f,n];simp only[Qb,VE,To];exact A
  rcases Xj m with c|c
  ·exact z i j h k c q d f e l B
  ·refine z j i k h c w f d l e ?_;unfold dX at B ⊢;have a1:=cO (vc h) (vc k);have a2:=cO (vc k) (vc (MG yss)[a]);have a3:=cO (vc (MG yss)[a]) (vc h)
   lia
def iD(h g:Tr)(s:Int):Tr:=(h.1+g.1*s,h.2.1+g.2.1*s,h.2.2+g.2.2*s)
def PY(T:yav)(o:Int):Option Tr:=(T.find? λx=>decide (x.1=o)).map (·.2)
def ptT(T:yav)(o:Int)(h:Tr):yav:=if(PY T o).isSome=true then T.map (λx=>if x.1=o then(x.1,h)else x)else T++[(o,h)]
def stT(T:yav)(x:Int×Tr×Int):yav:=ptT T x.1 (iD ((PY T x.1).getD (0,0,0)) x.2.1 x.2.2)
def cg(xs:List (Int×Tr×Int)):yav:=xs.foldl stT []
def l6(p:Int×Tr)(r:yav)(o:Int):PY (p::r) o=if p.1=o then some p.2 else PY r o:=by
 unfold PY;rw[Uv];by_cases h:p.1=o
 ·rw[Ml h,R3 h];rfl
 ·rw[Mj h,SV h]
theorem zL:∀{T:yav},PY T o=none->o∉T.map (·.1)
 |[],_=>by simp
 |p::r,h=>by
  rw[l6]at h;by_cases e:p.1=o
  ·rw[Ml e]at h;cases h
  ·rw[Mj e]at h;rw[MN,MD];rintro(z|z)
   ·exact e z.symm
   ·exact zL h z
theorem xD{h:Tr}:∀{T:yav},PY T o=some h->(o,h)∈T
 |[],q=>by cases q
 |p::r,q=>by
  rw[l6]at q;by_cases e:p.1=o
  ·rw[Ml e]at q;cases q;rw[<- e];exact OB
  ·rw[Mj e]at q;exact Ni _ (xD q)
theorem Bc{x:Int×Tr}:∀{T:yav},(T.map (·.1)).Nodup->x∈T->PY T x.1=some x.2
 |[],_,m=>by cases m
 |p::r,a,m=>by
  rw[MN,R0]at a;rw[l6];rcases MD.mp m with e|m
  ·rw[e,Ml rfl]
  ·rw[Mj λe=>a.1 (by rw[e];exact M4.mpr ⟨x,m,rfl⟩)];exact Bc a.2 m
theorem Ab(o:Int)(h:Tr):∀T:yav,(T.map λx=>if x.1=o then(x.1,h)else x).map (·.1)=T.map (·.1)
 |[]=>rfl
 |p::r=>by
  rw[MN,MN,MN,Ab o h r];by_cases e:p.1=o
  ·rw[Ml e]
  ·rw[Mj e]
theorem Ac{o:Int}(h:Tr):∀{T:yav},o∉T.map (·.1)->(T.map λx=>if x.1=o then(x.1,h)else x)=T
 |[],_=>rfl
 |p::r,n=>by rw[MN,MD]at n;rw[MN,Ac h λz=>n (.inr z),Mj λe=>n (.inl e.symm)]
theorem Dn{h h0:Tr}(f:Tr->Int):∀{T:yav},(T.map (·.1)).Nodup->PY T o=some h0->((T.map λx=>if x.1=o then(x.1,h)else x).map λx=>f x.2).sum=(T.map λx=>f x.2).sum - f h0+f h
 |[],_,q=>by cases q
 |p::r,a,q=>by
  rw[MN,R0]at a;rw[l6]at q;rw[MN,MN,Qb,MN,Qb];by_cases e:p.1=o
  ·rw[Ml e]at q;cases q;rw[Ml e,Ac h (by rw[<- e];exact a.1)];show f h+_=_
   lia
  ·rw[Mj e]at q;rw[Mj e,Dn f a.2 q]
   lia
structure vX(P:Nat->Int->Tr->Prop)(done:List (Int×Tr×Int))(T:yav):Prop where
 nd:(T.map (·.1)).Nodup
 le:T.length<=done.length
 ok:∀x∈T,P done.length x.1 x.2
 sm:∀f:Tr->Int,f (0,0,0)=0->(∀h g s,f (iD h g s)=f h+f g*s)->(T.map λx=>f x.2).sum=(done.map λx=>f x.2.1*x.2.2).sum
def vX.step{P:Nat->Int->Tr->Prop}(d:∀n o h,P n o h->P (n+1) o h)(I:vX P done T){x:Int×Tr×Int}(h0:P 0 x.1 (0,0,0))(hs:∀n h,P n x.1 h->P (n+1) x.1 (iD h x.2.1 x.2.2)):vX P (done++[x]) (stT T x):=by
 have j:∀n,P n x.1 (0,0,0):=λn=>by
  induction n with
  |zero=>exact h0
  |succ n ih=>exact d n _ _ ih
 unfold stT ptT;cases hl:PY T x.1 with
 |none =>
  have k:=zL hl;rw[Mj (by simp)];refine⟨?_,by rw[Od,Od];exact Nat.add_le_add_right I.le _,λy c=>?_,λf i g=>?_⟩
  ·rw[OC,List.nodup_append];refine⟨I.nd,by simp,λa l b a=>?_⟩;rw[MN,Sv,Oy]at a;rw[a];exact λe=>k (e ▸ l)
  ·rw[Od];rcases Nu.mp c with c|c
   ·exact d _ _ _ (I.ok y c)
   ·rw[Oy.mp c];exact hs _ _ (j _)
  ·rw[OC,OC,List.sum_append,List.sum_append,I.sm f i g];have e:=g (0,0,0) x.2.1 x.2.2;show _+(f (iD (0,0,0) x.2.1 x.2.2)+0)=_+(f x.2.1*x.2.2+0);rw[e,i]
   lia
 |some h =>
  rw[Ml (by simp)];refine⟨by rw[Ab];exact I.nd,by rw[Mq,Od];exact Nat.le_succ_of_le I.le,λy c=>?_,λf i g=>?_⟩
  ·rw[Od];obtain⟨z,a,e⟩:=M4.mp c;by_cases c:z.1=x.1
   ·rw[Ml c]at e;rw[<- e];show P _ z.1 (iD h x.2.1 x.2.2);rw[c];exact hs _ _ (I.ok _ (xD hl))
   ·rw[Mj c]at e;rw[<- e];exact d _ _ _ (I.ok z a)
  ·rw[Dn f I.nd hl,OC,List.sum_append,I.sm f i g];have e:=g h x.2.1 x.2.2;show _ - f h+f (iD h x.2.1 x.2.2)=_+(f x.2.1*x.2.2+0);rw[e]
   lia
theorem ud{P:Nat->Int->Tr->Prop}(a:∀n o h,P n o h->P (n+1) o h)(xs:List (Int×Tr×Int))(h0:∀x∈xs,P 0 x.1 (0,0,0))(hs:∀x∈xs,∀n h,P n x.1 h->P (n+1) x.1 (iD h x.2.1 x.2.2)):∀n,vX P (xs.take n) (cg (xs.take n))
 |0=>⟨by simp[cg],by simp[cg],λx b=>by simp[cg]at b,λf _ _=>by simp[cg]⟩
 |n+1=>by
  by_cases c:n<xs.length
  ·have e:xs.take (n+1)=xs.take n++[xs[n]]:=by rw[List.take_add_one,M5 c];rfl
   rw[e];have m:xs[n]∈xs:=Rf c;unfold cg;rw[List.foldl_append];exact(ud a xs h0 hs n).step a (h0 _ m) (hs _ m)
  ·have e:xs.take (n+1)=xs.take n:=by rw[UN (by lia),UN (by lia)]
   rw[e];exact ud a xs h0 hs n
def jF(T:yav)(a:yaf):yav:=a.map λo=>(o,(PY T o).getD (0,0,0))
def HX{T:yav}{a:yaf}(c:(T.map (·.1)).Nodup)(b:a.Perm (T.map (·.1))):(jF T a).Perm T:=by
 have e:(T.map (·.1)).map (λo=>(o,(PY T o).getD (0,0,0)))=T:=by rw[NY];refine(Us λx a=>?_).trans (List.map_id T);show(x.1,(PY T x.1).getD (0,0,0))=x;rw[Bc c a];rfl
 have:=b.map (λo=>(o,(PY T o).getD (0,0,0)));rw[e]at this;exact this
structure TB(n:Nat)(h:Tr):Prop where
 c:Bd n h.1
 a:Bd n h.2.1
 b:Bd n h.2.2
structure kR(Ls:yat)(rs:yav):Prop where
 l2:2<=rs.length
 l3:rs.length<=3
 rise:(rs.map (·.1)).Pairwise (·<·)
 own:∀x∈rs,∃i:Nat,i<Ls.length/\x.1=(i:Int)/\∀p∈Ls.getD i [],0<=Mg x.2 (1,p.1,p.2)
 bd:∀x∈rs,TB 990 x.2
 c0:(rs.map λx=>x.2.1).sum<0
 a0:(rs.map λx=>x.2.2.1).sum=0
 b0:(rs.map λx=>x.2.2.2).sum=0
theorem Cs(X:Tr):∀a:yav,(a.map λx=>Mg x.2 X).sum=(a.map λx=>x.2.1).sum*X.1+(a.map λx=>x.2.2.1).sum*X.2.1+(a.map λx=>x.2.2.2).sum*X.2.2
 |[]=>by simp
 |x::r=>by simp only[MN,Qb];rw[Cs X r];unfold Mg;grind
theorem DF{a:Type}(f:a->Int):∀xs:List a,(∀x∈xs,0<=f x)->0<=(xs.map f).sum
 |[],_=>by simp
 |x::r,h=>by
  rw[MN,Qb];have:=h x OB;have:=DF f r λy a=>h y (Ni _ a)
  lia
def BS{a:yav}(b:(a.map λx=>x.2.1).sum<0)(a0:(a.map λx=>x.2.2.1).sum=0)(c:(a.map λx=>x.2.2.2).sum=0){X:Tr}(h0:0<X.1)(h:∀x∈a,0<=Mg x.2 X):False:=by
 have e:=Cs X a;rw[a0,c]at e;have:=DF (λx:Int×Tr=>Mg x.2 X) a h;have:=SK b h0
 lia
def RH(yss:yat)(b:yag)(a:yaf):List (Int×Tr×Int):=(b.zip a).map λz=>(((aT 0 yss).getD z.1 (0,0,0,0)).1,((aT 0 yss).getD z.1 (0,0,0,0)).2,z.2)
theorem xO:∀{yss:yat} {n:Nat} {x:Int×Tr},x∈aT n yss->∃(i:Nat) (ys:yau),x.1=((n+i:Nat):Int)/\yss[i]?=some ys/\x.2∈aK (aQ ys)
 |[],_,_,h=>by cases h
 |ys::r,n,x,h=>by
  rw[aT]at h;rcases Nu.mp h with q|q
  ·obtain⟨g,a,rfl⟩:=M4.mp q;exact⟨0,ys,rfl,rfl,a⟩
  ·obtain⟨i,a,d,c,b⟩:=xO q;exact⟨i+1,a,by rw[d];congr 1;lia,c,b⟩
theorem bS.at_:∀{yss Ls:yat} {i:Nat} {ys:yau},bS yss Ls->yss[i]?=some ys->∃ps,Ls[i]?=some ps/\cS ys ps
 |[],[],_,_,_,h=>by simp at h
 |[],_::_,_,_,k,_=>k.elim
 |_::_,[],_,_,k,_=>k.elim
 |y::r,p::q,0,ys,k,h=>by
  cases(show y=ys from Pp h);exact⟨p,rfl,k.1⟩
 |y::r,p::q,i+1,ys,k,h=>bS.at_ (yss:=r) (Ls:=q) k.2 h
def JM(yss:yat)(k:Nat):(MG yss).getD k (0,0,0)=((aT 0 yss).getD k (0,0,0,0)).2:=by unfold MG;rw[Nz,Nz,Nj];cases(aT 0 yss)[k]?<;>rfl
def Ig(yss:yat)(f:Tr->Int):∀(b:yag) (a:yaf),((RH yss b a).map λx=>f x.2.1*x.2.2).sum=((b.zip a).map λz=>f ((MG yss).getD z.1 (0,0,0))*z.2).sum:=λb a=>by
 unfold RH;rw[NY];congr 1;exact Us λz _=>by show f _*_=_;rw[JM]
theorem D4(G:yaw):∀(d:yag) (c:yaf),d.length=c.length->((d.zip c).map λz=>(G.getD z.1 (0,0,0)).2.1*z.2).sum=(wsum c (Q8 G d)).1/\((d.zip c).map λz=>(G.getD z.1 (0,0,0)).2.2*z.2).sum=(wsum c (Q8 G d)).2
 |[],[],_=>⟨rfl,rfl⟩
 |k::d,s::c,h=>by obtain⟨a,b⟩:=D4 G d c (Nat.succ.inj h);unfold wsum Q8 at a b ⊢;simp only[Xi,MN,Qb,SM]at a b ⊢;rw[a,b];unfold vc;exact⟨by rw[OY],by rw[OY]⟩
def Gf{o:yag}(h:o∈Ng last 1++Ng last 2):o.length<=2/\∀k∈o,k<last:=by
 rcases Nu.mp h with q|q
 ·exact⟨by rw[(gJ q).1];decide,(gJ q).2⟩
 ·exact⟨by rw[(gJ q).1];decide,(gJ q).2⟩
structure Eb(yss:yat)(pk:yag)(sh:yaf):Prop where
 l3:pk.length<=3
 lt:∀k∈pk,k<(aT 0 yss).length
 WY:vG (Q8 (MG yss) pk) sh
 bs:∀s∈sh,Bd 900 s
 neg:qz (MG yss) pk sh<0
def Gi(S:pE yss){a:Nat}{b:yag}{c:yaf}(h:a<(MG yss).length)(e:gN (MG yss) a (Ng a 1++Ng a 2)=some (b,c)):Eb yss b c:=by
 obtain⟨⟨o,a,c⟩,f,i⟩:=uI e;obtain⟨l2,e⟩:=Gf a;have g:(MG yss).length=(aT 0 yss).length:=Mq _;have d:b.length<=3:=by rw[c,Od,Vu];lia
 have lt':∀k∈b,k<(MG yss).length:=λk a=>by
  rw[c]at a;rcases Nu.mp a with q|q
  ·have:=e k q;lia
  ·rw[Oy.mp q];exact h
 have c:(Q8 (MG yss) b).length<=3:=by unfold Q8;rw[Mq];exact d
 refine⟨d,λk a=>by rw[<- g];exact lt' k a,nY c f,wq (λw b=>?_) c f,i⟩;obtain⟨k,a,rfl⟩:=M4.mp b;have q:=M5 (lt' k a);rw[Nz,q];have B:=(S.gb _ (Rf (lt' k a))).1;exact⟨B.a.mono (by decide),B.b.mono (by decide)⟩
def Fm{a:yaf}(h:a.Perm b):a.sum=b.sum:=by
 induction h with
 |nil=>rfl
 |cons x _ ih=>rw[Qb,Qb,ih]
 |swap x y l=>simp only[Qb];lia
 |trans _ _ b a=>exact b.trans a
def IH(Ls:yat)(n:Nat)(o:Int)(h:Tr):Prop:=(∃i:Nat,i<Ls.length/\o=(i:Int)/\∀q∈Ls.getD i [],0<=Mg h (1,q.1,q.2))/\TB (983+n) h
def xT(L:LsOk Ls)(K:bS yss Ls)(S:pE yss)(p:Eb yss g f):∀n,vX (IH Ls) ((RH yss g f).take n) (cg ((RH yss g f).take n)):=by
 have c:∀x∈RH yss g f,(∃i:Nat,i<Ls.length/\x.1=(i:Int)/\∀q∈Ls.getD i [],0<=Mg x.2.1 (1,q.1,q.2))/\TB 82 x.2.1/\0<x.2.2/\Bd 900 x.2.2:=λx d=>by
  obtain⟨z,j,e⟩:=M4.mp d;have h:=(VA (a:=z.1) (b:=z.2) j);have a:=p.lt _ h.1;have k:(aT 0 yss).getD z.1 (0,0,0,0)∈aT 0 yss:=by rw[Nz,M5 a];exact Rf a
  obtain⟨i,ys,r,a,o⟩:=xO k;obtain⟨j,b,rk⟩:=K.at_ a;have a:j∈Ls:=NF b;have m:=dH rk;have l:=UL (L.ne j a);have B:=(S.gb _ (M4.mpr ⟨_,k,rfl⟩)).1;rw[<- e];refine⟨⟨i,(Nk.mp b).1,by rw[r];congr 1;lia,λq a=>?_⟩,⟨B.c.mono (by decide),B.a.mono (by decide),B.b.mono (by decide)⟩,p.WY.pos _ h.2,p.bs _ h.2⟩;rw[Nz,b]at a;exact qi m l o a
 exact ud (P:=IH Ls) (λn o h q=>⟨q.1,q.2.c.mono (by lia),q.2.a.mono (by lia),q.2.b.mono (by lia)⟩) (RH yss g f) (λx d=>by
  obtain⟨⟨i,a,e,_⟩,_⟩:=c x d;refine⟨⟨i,a,e,λq _=>?_⟩,?_⟩
  ·have:Mg (0,0,0) (1,q.1,q.2)=0:=by unfold Mg;grind
   lia
  ·have z:∀n,Bd n 0:=λn=>by unfold Bd;simp;exact Yn n
   exact⟨z _,z _,z _⟩) (λx d n h q=>by
  obtain⟨⟨i,a,e,f⟩,B,b,sb⟩:=c x d;obtain⟨⟨j,c,d,g⟩,H⟩:=q;have a:j=i:=by rw[e]at d;lia
  subst a;have m:∀{y:Int},Bd 82 y->Bd (983+n) (y*x.2.2):=λa=>(a.mul sb).mono (by lia)
  refine⟨⟨j,c,e,λw a=>?_⟩,H.c.add (m B.c),H.a.add (m B.a),H.b.add (m B.b)⟩;have k:Mg (iD h x.2.1 x.2.2) (1,w.1,w.2)=Mg h (1,w.1,w.2)+Mg x.2.1 (1,w.1,w.2)*x.2.2:=by unfold Mg iD;grind
  rw[k];exact Int.add_nonneg (g w a) (OA (f w a) (N8 b)))
def yz(L:LsOk Ls)(K:bS yss Ls)(S:pE yss)(p:Eb yss pk sh){b:yaf}(a:b.Perm ((cg (RH yss pk sh)).map (·.1)))(k:b.Pairwise (·<·)) :
  kR Ls (jF (cg (RH yss pk sh)) b):=by
 have i:pk.length=sh.length:=by have:=p.WY.len;unfold Q8 at this;rw[Mq]at this;exact this.symm
 have lx:(RH yss pk sh).length<=3:=by unfold RH;rw[Mq,Xu];have:=p.l3;lia
 have I:=xT L K S p (RH yss pk sh).length;rw[SR]at I;generalize hT:cg (RH yss pk sh)=T at I a ⊢;have c:=HX I.nd a;have lr:=c.length_eq;have le:=I.le;have a:∀f:Tr->Int,f (0,0,0)=0->(∀h g s,f (iD h g s)=f h+f g*s)->((jF T b).map λx=>f x.2).sum=((pk.zip sh).map λz=>f ((MG yss).getD z.1 (0,0,0))*z.2).sum:=λf e d=>by rw[Fm (c.map λx=>f x.2),I.sm f e d,Ig]
 have e:((jF T b).map λx=>x.2.1).sum<0:=by rw[a (λh=>h.1) rfl λ_ _ _=>rfl];exact p.neg
 obtain⟨f,d⟩:=D4 (MG yss) pk sh i;have j:((jF T b).map λx=>x.2.2.1).sum=0:=by rw[a (λh=>h.2.1) rfl λ_ _ _=>rfl,f,p.WY.sum]
 have g:((jF T b).map λx=>x.2.2.2).sum=0:=by rw[a (λh=>h.2.2) rfl λ_ _ _=>rfl,d,p.WY.sum]
 have a:∀x∈jF T b,∃i:Nat,i<Ls.length/\x.1=(i:Int)/\∀q∈Ls.getD i [],0<=Mg x.2 (1,q.1,q.2):=λx d=>(I.ok x (c.mem_iff.mp d)).1
 refine⟨?_,by lia,?_,a,λx d=>?_,e,j,g⟩
 ·generalize jF T b=f at *;rcases f with _|⟨x,_|⟨y,r⟩⟩
  ·simp at e
  ·exfalso;obtain⟨i,f,_,h⟩:=a x (by simp);have q:=M5 f;obtain⟨w,l⟩:=ZW _ (UL (L.ne Ls[i] (Rf f)));refine BS e j g (X:=(1,w.1,w.2)) (show(0:Int)<1 by decide) λy a=>?_
   rw[Oy.mp a];exact h w (by rw[Nz,q];exact l)
  ·simp
 ·unfold jF;rw[NY];show(b.map id).Pairwise _;rw[List.map_id];exact k
 ·obtain⟨_,B⟩:=I.ok x (c.mem_iff.mp d);exact⟨B.c.mono (by lia),B.a.mono (by lia),B.b.mono (by lia)⟩
structure Mc(Ls:yat):Prop where
 l5:Ls.length<=5
 le:∀ps∈Ls,ps.length<=5
structure gM(Ls:yat)(y:Tr)(rs:List (yag×yaf)):Prop where
 pr:Pr y
 cb:CB 40 y
 len:rs.length=Ls.length
 ok:∀i,i<Ls.length->D8 (Ls.getD i []) y (rs.getD i ([],[])).1 (rs.getD i ([],[])).2
 com:IB Ls y
def sy(L:LsOk Ls)(K:bS yss Ls)(S:pE yss){y:Tr}(e:y∈aU (MG yss) (F0 yss)) :
  (∀ps∈Ls,bX (ps.map (Mu y)) (cw ps.length)=some ((bX (ps.map (Mu y)) (cw ps.length)).getD ([],[])))/\gM Ls y (Ls.map λps=>(bX (ps.map (Mu y)) (cw ps.length)).getD ([],[])):=by
 obtain⟨Z,_,b⟩:=S.zs;have a:=b (MG yss).length;have d:=S.ov (MG yss).length;rw[SR]at a d;have c:=a.pr y e;have f:=a.cb y e;have h:∀ps∈Ls,nU y ps:=λps a=>by obtain⟨ws,g,b⟩:=K.ex2 ps a;exact va (dH b) (UL (L.ne ps a)) c.pos λb i=>d b (oJ 0 g i) y e
 have b:∀ps∈Ls,bX (ps.map (Mu y)) (cw ps.length)=some ((bX (ps.map (Mu y)) (cw ps.length)).getD ([],[])):=λps a=>by
  have:=Eh (h ps a);cases hm:bX (ps.map (Mu y)) (cw ps.length)with
  |none=>exact absurd hm this
  |some r=>rfl
 refine⟨b,c,f,by rw[Mq],λi e=>?_,c.pos,λps a g j=>?_⟩
 ·have d:Ls[i]?=some Ls[i]:=M5 e;have a:Ls[i]∈Ls:=Rf _;rw[Nz,d,Nz,Nj,d];exact K7 (L.bd _ a) (f.pb c) (b _ a)
 ·refine xq c.pos (h ps a) g λp b=>?_
  obtain⟨q,a,rfl⟩:=M4.mp b;exact j q a
def nZ (a:yav):D:=.tup [.str "bar", .lst true (a.map N7)]
def CU(B:kR Ls rs)(C:IB Ls X):False :=
 BS B.c0 B.a0 B.b0 C.1 λx c=>by obtain⟨i,a,_,b⟩:=B.own x c;refine C.2 (Ls.getD i []) ?_ x.2 b;rw[Nz,M5 a];exact Rf a
theorem nE{c:Type}{f:c->D}(d:∀a b,f a=f b->a=b):∀{xs ys:List c},xs.map f=ys.map f->xs=ys
 |[],[],_=>rfl
 |[],_::_,h=>by simp at h
 |_::_,[],h=>by simp at h
 |a::r,b::q,h=>by rw[MN,MN]at h;rw[d a b (List.cons.inj h).1,nE d (List.cons.inj h).2]
def Ho{xs ys:yav}(h:xs.map N7=ys.map N7):xs=ys:=nE (λa b e=>by obtain⟨i,a0,a1,a2⟩:=a;obtain⟨j,b0,b1,b2⟩:=b;simp only[N7,Mz,T3,D.tup.injEq,SQ,D.int.injEq,and_true]at e;obtain⟨rfl,rfl,rfl,rfl⟩:=e;rfl) h
def d9(z:Nat×Int):D:=.tup [.int ((z.1:Nat):Int),.int z.2]
def Ie{xs ys:List (Nat×Int)}(h:xs.map d9=ys.map d9):xs=ys:=nE (λa b e=>by obtain⟨i,s⟩:=a;obtain⟨j,t⟩:=b;simp only[d9,D.tup.injEq,SQ,D.int.injEq,and_true]at e;obtain⟨e1,rfl⟩:=e;rw[show i=j by lia]) h
def yf(z:Nat×Int):aJ (d9 z)=d9 z:=by unfold d9;simp only[cq,br,bH,cH]
def tu(a:List (Nat×Int)):bf (a.map d9)=a.map d9:=cE d9 yf a
theorem uB:∀(b:yag) (a:yaf),List.zipWith (λx y=>D.tup [x,y]) (b.map λ(k:Nat)=>D.int (k:Int)) (a.map D.int)=(b.zip a).map d9
 |[],_=>by simp
 |_::_,[]=>by simp
 |k::b,s::a=>by rw[MN,MN,SM,uB b a,Xi,MN];rfl
def gE(os:yav)(a:List (Nat×Int)):List (Int×Tr×Int):=a.map λz=>((os.getD z.1 (0,0,0,0)).1,(os.getD z.1 (0,0,0,0)).2,z.2)
def lQ(T:yav):List (Key×D):=T.map λx=>(Sum.inl x.1,Mz x.2)
theorem mO(o:Int):∀T:yav,dM (lQ T) (Sum.inl o)=(PY T o).map Mz
 |[]=>rfl
 |x::r=>by
  show dM ((Sum.inl x.1,Mz x.2)::lQ r) (Sum.inl o)=_;rw[sk,l6,mO o r];by_cases c:x.1=o
  ·rw[Ml c,Ml (by rw[c])];rfl
  ·rw[Mj c,Mj λe=>c (Sum.inl.inj e)]
def HK(T:yav)(o:Int)(h:Tr):putD (lQ T) (Sum.inl o) (Mz h)=lQ (ptT T o h):=by
 unfold putD ptT;rw[mO,Option.isSome_map];by_cases c:(PY T o).isSome=true
 ·rw[Ml c,Ml c];unfold lQ;rw[NY,NY];refine Us λx _=>?_
  show(if(Sum.inl x.1:Key)=Sum.inl o then _ else _)=((λy:Int×Tr=>((Sum.inl y.1:Key),Mz y.2)) (if x.1=o then(x.1,h)else x));by_cases e:x.1=o
  ·rw[Ml e,Ml (by rw[e])]
  ·rw[Mj e,Mj λq=>e (Sum.inl.inj q)]
 ·rw[Mj c,Mj c];unfold lQ;rw[OC];rfl
theorem uC:∀T:yav,(((T.map (·.1)).map Sum.inl:List Key).zip (T.map λx=>Mz x.2))=lQ T
 |[]=>rfl
 |x::r=>by show(Sum.inl x.1,Mz x.2)::_=(Sum.inl x.1,Mz x.2)::lQ r;rw[<- uC r];rfl
def iE (a:yav):D:=.tup [.str "bar", .lst false (a.map N7)]
def pB(a:yav):aJ (nZ a)=iE a:=by unfold nZ iE;simp only[cq,br,bH,bE,jv,nF]
def eV(ps:yau):LI:=.own (ps.map MA)
def EI(Ls:yat):(Ls.map eV).map vI=Ls.map d6:=by rw[NY];rfl
def FE(Ls:yat):(Ls.map eV).map sS=Ls.map aW:=by rw[NY];rfl
def CH{n k:Nat}(h:k<n):ixN n (k:Int)=some k:=by unfold ixN;simp;lia
def eq_nil(t:Bool)(ps:yau):eqD (.lst t (ps.map MA)) (.lst true [])=decide (ps=[]):=by
 rw[lW];cases ps with
 |nil=>exact iI
 |cons p r=>rfl
theorem vf:∀{a yss Ls:yat},bS a Ls->bS yss Ls->a=yss
 |[],[],_,_,_=>rfl
 |[],_::_,[],_,h=>h.elim
 |[],_::_,_::_,h,_=>h.elim
 |_::_,[],[],h,_=>h.elim
 |_::_,[],_::_,_,h=>h.elim
 |_::_,_::_,[],h,_=>h.elim
 |x::a,y::yss,_::_,h,k=>by rw[xR h.1 k.1,vf h.2 k.2]
abbrev PC(y:Tr)(ps:yau):yag×yaf:=(bX (ps.map (Mu y)) (cw ps.length)).getD ([],[])
def HmR (Ls : yat) (d : D) : Prop := ∃ a, bS a Ls ∧
  ((∃ y rest, aU (MG a) (F0 a) = y :: rest /\ d = jS y (Ls.map (PC y))) ∨
   ∃ b e c f, aU (MG a) (F0 a) = [] /\ b < (MG a).length /\ (∀ j, j <= b -> aU ((MG a).take j) (F0 a) ≠ []) /\ aU ((MG a).take (b + 1)) (F0 a) = [] ∧
    gN (MG a) b (Ng b 1 ++ Ng b 2) = some (e, c) /\ f.Perm ((cg (RH a e c)).map (·.1)) /\ f.Pairwise (· < ·) /\ d = nZ (jF (cg (RH a e c)) f))
def Fj:∀{a b:yaf},a.Perm b->a.Pairwise (·<·)->b.Pairwise (·<·)->a=b:=fun {a b} p b a=>p.eq_of_pairwise (λx y _ _ h1 h2=>by lia) b a
def Cv(h:HmR Ls a)(k:HmR Ls b):a=b:=by
 obtain⟨yss,rk,h⟩:=h;obtain⟨zss,a,k⟩:=k;rw[vf a rk]at k;rcases h with⟨y,r,e,rfl⟩| ⟨i,pk,sh,ms,e,h1,p,o,n,m,l,rfl⟩<;>rcases k with⟨y',r',a,rfl⟩| ⟨j,pk',sh',ms',a,k1,h,g,b,f,d,rfl⟩
 ·rw[e]at a;cases a;rfl
 ·rw[e]at a;cases a
 ·rw[e]at a;cases a
 ·have a:i=j:=by
   rcases Wb i j with c|c|c
   ·exact absurd o (h (i+1) c)
   ·exact c
   ·exact absurd g (p (j+1) c)
  subst a;rw[n]at b;cases b;rw[Fj (m.trans f.symm) l d]
def vJ(L:LsOk Ls)(h:HmR Ls d):(∃y,d=jS y (Ls.map (PC y))/\gM Ls y (Ls.map (PC y))/\∀ps∈Ls,bX (ps.map (Mu y)) (cw ps.length)=some (PC y ps))∨∃ a,d=nZ a/\kR Ls a:=by
 obtain⟨yss,rk,h⟩:=h;have St:=rY L rk;rcases h with⟨y,r,e,rfl⟩| ⟨i,pk,sh,ms,e,f,h2,h3,d,c,b,rfl⟩
 ·obtain⟨a,g⟩:=sy L rk St (y:=y) (by rw[e];simp);exact .inl ⟨y,rfl,g,a⟩
 ·exact .inr ⟨_,rfl,yz L rk St (Gi St f d) c b⟩
def EF{c:Type}{wi:DA}{g:DG}{e:DS}{E:mv}(xs:List c)(f:c->D)(Pv:Ro->Prop)(i:∀R:yas->Prop,R (xs.map f)->wi ρ R)(h:Pv ρ)
  (b:∀(x:c) (a:Ro),x∈xs->Pv a->g (f x) a λj=>e {E with nx:=Pv,ct:=Pv,bk:=E.nx} j) (d:∀a,Pv a->E.nx a):AU wi g e E ρ :=
 PD.bo xs f (λ_ ρ=>Pv ρ) i h (λ_ x a c e=>b x a (NF c) e) d
theorem yu{b a:Type}{f:a->b}:∀{xs:List a} {z:b×a},z∈(xs.map f).zip xs->z.1=f z.2
 |x::xs,z,h=>by
  rcases MD.mp (show z∈(f x,x)::(xs.map f).zip xs from h)with e|e
  ·rw[e]
  ·exact yu e
def Ec(a:D):Prop:=∀(K:yac) (P:yak) (H:Hp) (u:V),Den K P H a u->∃c b a,u=.ref c/\H c=some (.tup [b,a])/\∀i j:Int,¬(b=V.int i/\a=V.int j)
def oP(r:yag×yaf):Ec (cU r):=λK P H u h=>by obtain⟨d,c,rfl,q,b,r0,i,h0,v1,r1,g,e,f⟩:=h.Oi;obtain⟨a,_,rfl,_⟩:=e.OT;exact⟨d,b,.ref a,rfl,by rw[<- show c=[b,.ref a]by rw[i,g,f]];exact q,λi j z=>by cases z.2⟩
def Aa(x:Int×Tr):Ec (N7 x):=λK P H u h=>by obtain⟨d,c,rfl,q,b,r0,i,h0,v1,r1,g,e,f⟩:=h.Oi;obtain⟨a,_,rfl,_⟩:=e.Oi;exact⟨d,b,.ref a,rfl,by rw[<- show c=[b,.ref a]by rw[i,g,f]];exact q,λi j z=>by cases z.2⟩
def G0(h:oI d=true):iB ds d:=λ_ _ _ _ _ _ _ _ _ _ a=>Den.Uc d _ h a
section
variable{d0:D}{r:yas}(hx:Ec d0)
include hx
def mH{ns:yaf}:iB (d0::r) (.lst t (ns.map D.int)):=λK P h H b us v d b c e=>by
 obtain⟨a,ur,g,f,_⟩:=c;obtain⟨t0,v0,v1,rfl,q0,_⟩:=hx K h H a f;obtain⟨a,vs,rfl,n,q,a⟩:=e.OT;have c:=du a;refine Den.lst (λz=>z.elim n λz=>?_) q (by rw[c];exact mD _);subst z;rcases q.1 with(a|⟨w,a⟩)|⟨o,Mp,n',a,_⟩
 ·rw[b,c,g]at a;cases ns<;>cases a
 ·rw[b]at a;cases a
 ·rw[d]at a;cases a
def Cp:iB (d0::r) (d6 ps):=λK P j H b us v kb h b e=>by
 obtain⟨a,ur,i,c,_⟩:=b;obtain⟨d,v0,v1,rfl,f,g⟩:=hx K j H a c;obtain⟨a,c,rfl,n,q,b⟩:=e.OT;refine Den.lst (λz=>z.elim n λz=>?_) q (af.Uc _ _ (zO ps) b);subst z;have a:=(q.2 rfl).1;rw[h,i]at a;cases ps with
 |nil =>
  have e:c=[]:=b;rw[e]at a;cases a
 |cons p ps =>
  obtain⟨w,wr,c,e,_⟩:=b;rw[c]at a;cases a;obtain⟨c,b,a,c,y0,yr,l,i,y1,yr1,k,h,j⟩:=e.Oi;cases a;have a:H d=some (.tup b):=c;rw[f,l,k,j]at a;cases a;exact g p.1 p.2 ⟨i.M9,h.M9⟩
def xf{Ls:yat}(f:Ls ≠ []):iB (d0::r) (.lst true (Ls.map d6)):=λK P k H b us v e b a g=>by
 have j:=a;obtain⟨c,ur,i,h,_⟩:=a;obtain⟨t0,v0,v1,rfl,d,nn⟩:=hx K k H c h;obtain⟨a,vs,rfl,n,q,c⟩:=g.OT;refine Den.lst (λz=>z.elim n λz=>?_) q (mC e b j (λz a=>by obtain⟨e,_,rfl⟩:=M4.mp a;exact Cp hx) c);subst z;have a:=(q.2 rfl).1;rw[b,i]at a;cases Ls with
 |nil=>exact absurd rfl f
 |cons e Ls =>
  obtain⟨w,wr,e,b,_⟩:=c;rw[e]at a;cases a;obtain⟨c,ys,c,_,a,_⟩:=b.OT;cases c;have:=(a.2 rfl).1;rw[d]at this;cases this
def EE:iB (d0::r) (bI p):=λK P P' H b us v a d b c=>by
 obtain⟨t1,vs,rfl,q,e⟩:=c.Oi;refine Den.tup q (mC a d b (λz a=>?_) e);simp only[MD,OX,or_false]at a;rcases a with rfl|rfl
 ·have e:(p.1.map λ(k:Nat)=>D.int (k:Int))=(p.1.map λ(k:Nat)=>(k:Int)).map D.int:=by rw[NY];rfl
  rw[e];exact mH hx
 ·exact mH hx
end
def JN(L:LsOk Ls)(M:LsOk Ls.reverse)(h:HmR Ls d)(k:HmR Ls.reverse e):(∃y z qs,d=jS y (Ls.map (PC y))/\gM Ls y (Ls.map (PC y))/\(∀ps∈Ls,bX (ps.map (Mu y)) (cw ps.length)=some (PC y ps))/\e=jS z qs/\gM Ls.reverse z qs)∨∃ f qs,d=nZ f/\kR Ls f/\e=nZ qs/\kR Ls.reverse qs:=by
 rcases vJ L h with⟨y,rfl,a,b⟩| ⟨f,rfl,a⟩<;>rcases vJ M k with⟨z,rfl,c,b'⟩| ⟨qs,rfl,c⟩
 ·exact .inl ⟨y,z,_,rfl,a,b,rfl,c⟩
 ·exact(CU c ⟨a.com.1,λps b=>a.com.2 ps (UR.mp b)⟩).elim
 ·exact(CU a ⟨c.com.1,λps b=>c.com.2 ps (UR.mpr b)⟩).elim
 ·exact .inr ⟨f,qs,rfl,a,rfl,c⟩
def LsOk.rev(L:LsOk Ls):LsOk Ls.reverse:=⟨by rw[RW];exact L.l0,by rw[RW];exact L.l8,λa h=>L.ne a (UR.mp h),λa h=>L.le a (UR.mp h),λa h=>L.bd a (UR.mp h)⟩
theorem w8:∀a:List (yag×yaf),iH (a.map cU) (a.map bI)=true
 |[]=>iI
 |r::a=>by
  have e:eqD (cU r) (bI r)=true:=by unfold cU bI Pk;rw[pN,cM,cM,iI,gS,gS];rfl
  rw[MN,MN,cM,e,w8 a];rfl
def pR(L:LsOk Ls)(h:HmR Ls d):(∃y b,aJ d=ft y b/\gM Ls y b)∨∃ b,aJ d=iE b/\kR Ls b:=by
 rcases vJ L h with⟨y,rfl,a,_⟩| ⟨b,rfl,a⟩
 ·exact .inl ⟨y,_,j5 _ _,a⟩
 ·exact .inr ⟨b,pB _,a⟩
def EK(L:LsOk Ls)(h:HmR Ls d):(∃y,aJ d=ft y (Ls.map (PC y))/\gM Ls y (Ls.map (PC y))/\∀ps∈Ls,bX (ps.map (Mu y)) (cw ps.length)=some (PC y ps))∨∃ c,aJ d=iE c:=by
 rcases vJ L h with⟨y,rfl,a,b⟩| ⟨c,rfl,a⟩
 ·exact .inl ⟨y,j5 _ _,a,b⟩
 ·exact .inr ⟨c,pB _⟩
def Vr(k:Nat)(ps:yau):yau:=ps.map λp=>(min (p.1+2*(k:Int)) 999999999999,p.2)
def AK{Ls:yat}{k:Nat}(h:k<Ls.length):Ls[k]?=some (Ls.getD k []):=by rw[Nz,M5 h];rfl
def AL{xs:yaf}{i:Nat}(h:i<xs.length):Nx (xs.map D.int) (i:Int)=some (.int (xs.getD i 0)):=bg (by rw[Nj,Nz,M5 h];rfl)
def zQ{Ls:yat}:(Ls.map eV).set k (LI.own ((Ls.getD k []).map MA++[MA p]))=(Ls.set k (Ls.getD k []++[p])).map eV:=by rw[List.map_set];unfold eV;rw[OC];rfl
def Kw{k:Nat}{ps:yau}(hk:k<=8)(h:∀p∈ps,WB 40 p):∀p∈Vr k ps,WB 40 p:=by
 intro p b;obtain⟨q,a,rfl⟩:=M4.mp b;have B:=h q a;have a:=B.x;unfold Bd at a;refine⟨?_,B.y⟩;unfold Bd;show(min (q.1+2*(k:Int)) 999999999999).natAbs<2 ^ 40;have e:(2:Nat) ^ 40=1099511627776:=by decide
 rw[e]at a ⊢
 lia
def CW{a b:yav}:a.map N7=b.map N7↔a=b:=⟨Ho,λe=>by rw[e]⟩
def CN{a b:yat}:a.map aW=b.map aW↔a=b:=⟨Hk,λe=>by rw[e]⟩
def Dv{a b:List (Nat×Int)}:a.map d9=b.map d9↔a=b:=⟨Ie,λe=>by rw[e]⟩
def Dh{a b:yau}:a.map Nf=b.map Nf↔a=b:=⟨HH,λe=>by rw[e]⟩
def DC{a b:yau}:a.map MA=b.map MA↔a=b:=⟨Ah,λe=>by rw[e]⟩
def DJ{a b:yaw}:a.map Mz=b.map Mz↔a=b:=⟨Ip,λe=>by rw[e]⟩
def Df:Nf a=Nf b↔a=b:=⟨zT,λe=>by rw[e]⟩
def Dx:MA a=MA b↔a=b:=⟨Ag,λe=>by rw[e]⟩
def CO{a b:yaf}:a.map D.int=b.map D.int↔a=b:=⟨yK,λe=>by rw[e]⟩
local macro_rules|`(tactic|z_go)=>do
 let l := ("T3 List.cons.injEq D.int.injEq D.tup.injEq D.lst.injEq and_true true_and and_imp CO CW CN Dv Dh DC DJ Df Dx".splitOn " ").toArray.map λs => Lean.mkIdent s.toName
 `(tactic| (apply propext; constructor; (intro h; repeat (first | (obtain ⟨e, h⟩ := h; revert e; simp only [$[$l:ident],*]; intros; subst_vars; assumption) | obtain ⟨_, h⟩ := h)); (intro q; repeat (first | exact ⟨rfl, q⟩ | apply Exists.intro))))
section
variable(κ:Nl)(Q:D->Prop)(Ed:Value->Prop)
abbrev pW(n:Int):Prop:=Q (.int (sg n))
def ux(κ:Nl):DSp:=λa Q Ed=>∃(n:Int),a=[.int n]/\pW Q n
def Bz (n:Int):ux κ [.int n] Q Ed=pW Q n:=by z_go
abbrev df(a:Int)(b:Int):Prop:=Q (.int (Int.gcd a b:Int))
def fN(κ:Nl):DSp:=λc Q Ed=>∃(a:Int) (b:Int),c=[.int a,.int b]/\df Q a b
def nr (a:Int) (b:Int):fN κ [.int a,.int b] Q Ed=df Q a b:=by z_go
abbrev gK(ns:yaf):Prop:=ns.length<100/\bM 0 ns≠0/\Bd 1000 (bM 0 ns)/\Q (.lst true ((c9 ns).map D.int))
def jr(κ:Nl):DSp:=λb Q Ed=>∃(a:yaf),b=[.lst false (a.map D.int)]/\gK Q a
def kO (ns:yaf):jr κ [.lst false (ns.map D.int)] Q Ed=gK Q ns:=by z_go
abbrev jV(x y z:Int)(l:Int):Prop:=¬(x=0/\y=0/\z=0)/\Bd 4000 x/\Bd 4000 y/\Bd 4000 z/\Q (T3 (x.fdiv (PM.N1 x y z l)) (y.fdiv (PM.N1 x y z l)) (z.fdiv (PM.N1 x y z l)))
def nB(κ:Nl):DSp:=λa Q Ed=>∃(x y z:Int) (l:Int),a=[T3 x y z,.int l]/\jV Q x y z l
def vE (x y z:Int) (l:Int):nB κ [T3 x y z,.int l] Q Ed=jV Q x y z l:=by z_go
abbrev mR(n:Int)(s:Int):Prop:=∃m t:Nat,n=(m:Int)/\s=(t:Int)/\m<=1000/\t<=3/\m ^ t<=1000000/\Q (.lst true ((Ng m t).map Pk))
def rh(κ:Nl):DSp:=λa Q Ed=>∃(n:Int) (s:Int),a=[.int n,.int s]/\mR Q n s
def yZ (n:Int) (s:Int):rh κ [.int n,.int s] Q Ed=mR Q n s:=by z_go
abbrev mT(g0 g1 g2:Int)(p0 p1 p2:Int):Prop:=Bd 1000 g0/\Bd 1000 g1/\Bd 1000 g2/\Bd 1000 p0/\Bd 1000 p1/\Bd 1000 p2/\Q (.int (g0*p0+g1*p1+g2*p2))
def rn(κ:Nl):DSp:=λg Q Ed=>∃(f e d:Int) (c b a:Int),g=[T3 f e d,T3 c b a]/\mT Q f e d c b a
def y4 (f e d:Int) (c b a:Int):rn κ [T3 f e d,T3 c b a] Q Ed=mT Q f e d c b a:=by z_go
abbrev iO(g0 g1 g2:Int)(p0 p1 p2:Int):Prop:=Bd 1000 g0/\Bd 1000 g1/\Bd 1000 g2/\Bd 1000 p0/\Bd 1000 p1/\Bd 1000 p2/\Q (.int (sg (g0*p0+g1*p1+g2*p2)))
def iY(κ:Nl):DSp:=λg Q Ed=>∃(f e d:Int) (c b a:Int),g=[T3 f e d,T3 c b a]/\iO Q f e d c b a
def j4 (f e d:Int) (c b a:Int):iY κ [T3 f e d,T3 c b a] Q Ed=iO Q f e d c b a:=by z_go
abbrev dP(a0 a1 a2:Int)(b0 b1 b2:Int)(s:Int):Prop:=TB 990 (a0,a1,a2)/\TB 82 (b0,b1,b2)/\Bd 900 s/\Q (Mz (iD (a0,a1,a2) (b0,b1,b2) s))
def gf(κ:Nl):DSp:=λg Q Ed=>∃(f e d:Int) (c b a:Int) (s:Int),g=[T3 f e d,T3 c b a,.int s]/\dP Q f e d c b a s
def kP (a0 e d:Int) (c b a:Int) (s:Int):gf κ [T3 a0 e d,T3 c b a,.int s] Q Ed=dP Q a0 e d c b a s:=by z_go
abbrev gY(a0 a1 a2:Int)(b0 b1 b2:Int):Prop:=Bd 200 a0/\Bd 200 a1/\Bd 200 a2/\Bd 200 b0/\Bd 200 b1/\Bd 200 b2/\Q (T3 (a1*b2 - b1*a2) (a2*b0 - b2*a0) (a0*b1 - b0*a1))
def j1(κ:Nl):DSp:=λg Q Ed=>∃(f e d:Int) (c b a:Int),g=[T3 f e d,T3 c b a]/\gY Q f e d c b a
def nP (a0 e d:Int) (c b a:Int):j1 κ [T3 a0 e d,T3 c b a] Q Ed=gY Q a0 e d c b a:=by z_go
abbrev jj(p0 p1 p2:Int)(w:Sp):Prop:=Bd 200 p0/\Bd 200 p1/\Bd 200 p2/\WB 200 w/\Q (T3 (-(w.1*p1+w.2*p2)) (w.1*p0) (w.2*p0))
def c7(κ:Nl):DSp:=λd Q Ed=>∃(c b a:Int) (w:Sp),d=[T3 c b a,MA w]/\jj Q c b a w
def o9 (c b a:Int) (w:Sp):c7 κ [T3 c b a,MA w] Q Ed=jj Q c b a w:=by z_go
abbrev mS(b:Int)(x:Int)(y:Int):Prop:=b≠0/\Bd 4000 b/\Bd 4000 x/\Bd 4000 y/\Q (Ki b x y)
def rj(κ:Nl):DSp:=λa Q Ed=>∃(b:Int) (x:Int) (y:Int),a=[.int b,.int x,.int y]/\mS Q b x y
def y3 (b:Int) (x:Int) (y:Int):rj κ [.int b,.int x,.int y] Q Ed=mS Q b x y:=by z_go
abbrev ja(d:D):Prop:=∃p:Sp,d=MA p/\Q (Nf p)
def lP(κ:Nl):DSp:=λa Q Ed=>∃(d:D),a=[d]/\ja Q d
def uw (d:D):lP κ [d] Q Ed=ja Q d:=by z_go
abbrev kG(a0 a1 a2:Int)(b0 b1 b2:Int)(c0 c1 c2:Int):Prop:=Bd 1000 a0/\Bd 1000 a1/\Bd 1000 a2/\Bd 1000 b0/\Bd 1000 b1/\Bd 1000 b2/\Bd 1000 c0/\Bd 1000 c1/\Bd 1000 c2/\Q (.int (sw a0 a1 a2 b0 b1 b2 c0 c1 c2))
def nC(κ:Nl):DSp:=λj Q Ed=>∃(i h g:Int) (f e d:Int) (c b a:Int),j=[T3 i h g,T3 f e d,T3 c b a]/\kG Q i h g f e d c b a
def qt (a0 h g:Int) (f e d:Int) (c b a:Int):nC κ [T3 a0 h g,T3 f e d,T3 c b a] Q Ed=kG Q a0 h g f e d c b a:=by z_go
abbrev iN(a0 a1 a2:Int)(b0 b1 b2:Int):Prop:=Bd 200 a0/\Bd 200 a1/\Bd 200 a2/\Bd 200 b0/\Bd 200 b1/\Bd 200 b2/\Q (.tup [.int (a0*b1 - b0*a1),.int (a0*b2 - b0*a2)])
def kL(κ:Nl):DSp:=λg Q Ed=>∃(f e d:Int) (c b a:Int),g=[T3 f e d,T3 c b a]/\iN Q f e d c b a
def lF (a0 e d:Int) (c b a:Int):kL κ [T3 a0 e d,T3 c b a] Q Ed=iN Q a0 e d c b a:=by z_go
abbrev pX(a:Sp)(b:Sp):Prop:=WB 400 a/\WB 400 b/\Q (.int (tn a b))
def uy(κ:Nl):DSp:=λc Q Ed=>∃(a:Sp) (b:Sp),c=[MA a,MA b]/\pX Q a b
def BA (a:Sp) (b:Sp):uy κ [MA a,MA b] Q Ed=pX Q a b:=by z_go
abbrev kf(w:Sp):Prop:=Q (MA (RF w))
def mf(κ:Nl):DSp:=λa Q Ed=>∃(w:Sp),a=[MA w]/\kf Q w
def nh (w:Sp):mf κ [MA w] Q Ed=kf Q w:=by z_go
abbrev hU(w:Sp):Prop:=Q (MA (QT w))
def j2(κ:Nl):DSp:=λa Q Ed=>∃(w:Sp),a=[MA w]/\hU Q w
def nQ (w:Sp):j2 κ [MA w] Q Ed=hU Q w:=by z_go
abbrev kF(ps:yau):Prop:=ps.length<64/\(∀p∈ps,SB p)/\Q (.lst true ((bQ [] ps).reverse.map Nf))
def rf(κ:Nl):DSp:=λb Q Ed=>∃(a:yau),b=[.lst false (a.map Nf)]/\kF Q a
def qr (ps:yau):rf κ [.lst false (ps.map Nf)] Q Ed=kF Q ps:=by z_go
abbrev kg(ps:yau):Prop:=ps.length<64/\(∀p∈ps,SB p)/\∀ys,cS ys ps->ys.length<=ps.length->Q (.lst true ((aQ ys).map Nf))
def mj(κ:Nl):DSp:=λb Q Ed=>∃(a:yau),b=[.lst false (a.map MA)]/\kg Q a
def nu (ps:yau):mj κ [.lst false (ps.map MA)] Q Ed=kg Q ps:=by z_go
abbrev dF(a:Sp)(b:Sp):Prop:=SB a/\SB b/\Q (.lst true ((eO a b).map Mz))
def iZ(κ:Nl):DSp:=λc Q Ed=>∃(a:Sp) (b:Sp),c=[Nf a,Nf b]/\dF Q a b
def jP (a:Sp) (b:Sp):iZ κ [Nf a,Nf b] Q Ed=dF Q a b:=by z_go
abbrev jh(hs:yau):Prop:=0<hs.length/\hs.length<200/\(∀p∈hs,SB p)/\Q (.lst true ((aK hs).map Mz))
def o5(κ:Nl):DSp:=λb Q Ed=>∃(a:yau),b=[.lst false (a.map Nf)]/\jh Q a
def o6 (hs:yau):o5 κ [.lst false (hs.map Nf)] Q Ed=jh Q hs:=by z_go
abbrev kW(w:Sp):Prop:=Q (.int (bu w))
def ph(κ:Nl):DSp:=λa Q Ed=>∃(w:Sp),a=[MA w]/\kW Q w
def yc (w:Sp):ph κ [MA w] Q Ed=kW Q w:=by z_go
abbrev eG(a:Sp)(b:Sp):Prop:=WB 400 a/\WB 400 b/\Q (.bl (decide (tn a b=0/\MQ a b<0)))
def ie(κ:Nl):DSp:=λc Q Ed=>∃(a:Sp) (b:Sp),c=[MA a,MA b]/\eG Q a b
def oZ (a:Sp) (b:Sp):ie κ [MA a,MA b] Q Ed=eG Q a b:=by z_go
abbrev de(a:Sp)(b:Sp):Prop:=WB 400 a/\WB 400 b/\Q (oL (lh a b))
def fM(κ:Nl):DSp:=λc Q Ed=>∃(a:Sp) (b:Sp),c=[MA a,MA b]/\de Q a b
def nk (a:Sp) (b:Sp):fM κ [MA a,MA b] Q Ed=de Q a b:=by z_go
abbrev cV(a:Sp)(b:Sp)(e:Sp):Prop:=WB 400 a/\WB 400 b/\WB 400 e/\Q (oL (jC a b e))
def et(κ:Nl):DSp:=λc Q Ed=>∃(a:Sp) (b:Sp) (e:Sp),c=[MA a,MA b,MA e]/\cV Q a b e
def lH (a:Sp) (b:Sp) (e:Sp):et κ [MA a,MA b,MA e] Q Ed=cV Q a b e:=by z_go
abbrev fx(ws:yau):Prop:=0<ws.length/\ws.length<4/\(∀w∈ws,WB 400 w)/\Q (oL (dZ ws))
def nj(κ:Nl):DSp:=λb Q Ed=>∃(a:yau),b=[.lst false (a.map MA)]/\fx Q a
def jK (a:yau):nj κ [.lst false (a.map MA)] Q Ed=fx Q a:=by z_go
abbrev fF (ps:yau) (h0 h1 h2:Int):Prop:=0<ps.length/\ps.length<=30/\(∀p∈ps,SB p)/\PB 160 (h0,h1,h2)/\∃r,bX (ps.map (Mu (h0,h1,h2))) (cw ps.length)=some r/\Q (.tup [.str "in", Pk r.1,.lst true (r.2.map D.int)])
def iq(κ:Nl):DSp:=λe Q Ed=>∃(a:yau) (d c b:Int),e=[.lst false (a.map MA),T3 d c b]/\fF Q a d c b
def jO (ps:yau) (h0 b a:Int):iq κ [.lst false (ps.map MA),T3 h0 b a] Q Ed=fF Q ps h0 b a:=by z_go
abbrev cQ(a0 a1 a2:Int)(b0 b1 b2:Int)(g0 g1 g2:Int):Prop:=Bd 200 a0/\Bd 200 a1/\Bd 200 a2/\Bd 200 b0/\Bd 200 b1/\Bd 200 b2/\Bd 200 g0/\Bd 200 g1/\Bd 200 g2/\(MY (g0,g1,g2) (a0,a1,a2) (b0,b1,b2)).1≠0/\Q (Mz (cW (g0,g1,g2) (a0,a1,a2) (b0,b1,b2)))
def dN(κ:Nl):DSp:=λj Q Ed=>∃(i h g:Int) (f e d:Int) (c b a:Int),j=[T3 i h g,T3 f e d,T3 c b a]/\cQ Q i h g f e d c b a
def iw (a0 h g:Int) (f e d:Int) (c b a:Int):dN κ [T3 a0 h g,T3 f e d,T3 c b a] Q Ed=cQ Q a0 h g f e d c b a:=by z_go
abbrev fy(cs:yaw)(g0 g1 g2:Int):Prop:=cs.length<=300000/\(∀p∈cs,0<p.1/\CB 40 p)/\Bd 200 g0/\Bd 200 g1/\Bd 200 g2/\Q (.lst true ((fh (g0,g1,g2) cs).map Mz))
def ig(κ:Nl):DSp:=λe Q Ed=>∃(d:yaw) (c b a:Int),e=[.lst false (d.map Mz),T3 c b a]/\fy Q d c b a
def jL (cs:yaw) (c b a:Int):ig κ [.lst false (cs.map Mz),T3 c b a] Q Ed=fy Q cs c b a:=by z_go
abbrev ji(cs:yaw)(gs:yaw):Prop:=0<gs.length/\gs.length<=1000/\(∀j,j<gs.length->(aU (gs.take j) cs).length<=300000/\∀p∈aU (gs.take j) cs,0<p.1/\CB 40 p)/\(∀g∈gs,Bd 200 g.1/\Bd 200 g.2.1/\Bd 200 g.2.2)/\Q (.lst true ((aU gs cs).map Mz))
def o7(κ:Nl):DSp:=λc Q Ed=>∃(b:yaw) (a:yaw),c=[.lst false (b.map Mz),.lst false (a.map Mz)]/\ji Q b a
def o8 (cs:yaw) (a:yaw):o7 κ [.lst false (cs.map Mz),.lst false (a.map Mz)] Q Ed=ji Q cs a:=by z_go
abbrev fz(cs:yaw)(gs:yaw):Prop:=gs.length<=1000/\(∀j,j<=gs.length->(aU (gs.take j) cs).length<=300000/\∀p∈aU (gs.take j) cs,0<p.1/\CB 40 p)/\(∀g∈gs,Bd 200 g.1/\Bd 200 g.2.1/\Bd 200 g.2.2)/\∃last:Nat,last<gs.length/\(∀j,j<=last->aU (gs.take j) cs ≠ [])/\aU (gs.take (last+1)) cs=[]/\Q (.int (last:Int))
def iT(κ:Nl):DSp:=λc Q Ed=>∃(b:yaw) (a:yaw),c=[.lst false (b.map Mz),.lst false (a.map Mz)]/\fz Q b a
def qa (cs:yaw) (a:yaw):iT κ [.lst false (cs.map Mz),.lst false (a.map Mz)] Q Ed=fz Q cs a:=by z_go
abbrev fR(gs:yaw)(ns:yaf)(sh:yaf):Prop:=∃pk:yag,ns=pk.map (λ(k:Nat)=>(k:Int))/\pk.length=sh.length/\pk.length<=3/\(∀k∈pk,k<gs.length)/\(∀g∈gs,Bd 200 g.1)/\(∀s∈sh,Bd 900 s)/\Q (.int (qz gs pk sh))
def lK(κ:Nl):DSp:=λd Q Ed=>∃(c:yaw) (b:yaf) (a:yaf),d=[.lst false (c.map Mz),.lst false (b.map D.int),.lst false (a.map D.int)]/\fR Q c b a
def mi (b:yaw) (ns:yaf) (a:yaf):lK κ [.lst false (b.map Mz),.lst false (ns.map D.int),.lst false (a.map D.int)] Q Ed=fR Q b ns a:=by z_go
abbrev ma(cs:yaw)(gs:yaw):Prop:=gs.length<=1000/\(∀j,j<=gs.length->(aU (gs.take j) cs).length<=300000/\∀p∈aU (gs.take j) cs,0<p.1/\CB 40 p)/\(∀g∈gs,Bd 200 g.1/\Bd 200 g.2.1/\Bd 200 g.2.2)/\∃last:Nat,last<gs.length/\(∀j,j<=last->aU (gs.take j) cs ≠ [])/\aU (gs.take (last+1)) cs=[]/\∃r:yag×yaf,gN gs last (Ng last 1++Ng last 2)=some r/\Q (.lst true ((r.1.zip r.2).map d9))
def uo(κ:Nl):DSp:=λc Q Ed=>∃(b:yaw) (a:yaw),c=[.lst false (b.map Mz),.lst false (a.map Mz)]/\ma Q b a
def sV (cs:yaw) (a:yaw):uo κ [.lst false (cs.map Mz),.lst false (a.map Mz)] Q Ed=ma Q cs a:=by z_go
abbrev eJ(Ls:yat):Prop:=LsOk Ls/\∀yss,bS yss Ls->Q (.lst true ((aT 0 yss).map N7))
def ir(κ:Nl):DSp:=λb Q Ed=>∃(a:yat),b=[.lst false (a.map aW)]/\eJ Q a
def pA (Ls:yat):ir κ [.lst false (Ls.map aW)] Q Ed=eJ Q Ls:=by z_go
abbrev fQ(os:yav)(zs:List (Nat×Int)):Prop:=zs.length<=3/\(∀z∈zs,z.1<os.length/\Bd 900 z.2)/\(∀x∈os,TB 82 x.2)/\(∀n,∀x∈cg ((gE os zs).take n),TB (983+n) x.2)/\(∀n,(cg ((gE os zs).take n)).length<=n)/\((cg (gE os zs)).map (·.1)).Nodup/\∀ms:yaf,ms.Perm ((cg (gE os zs)).map (·.1))->ms.Pairwise (·<·)->Q (.lst true ((jF (cg (gE os zs)) ms).map N7))
def lJ(κ:Nl):DSp:=λb Q Ed=>∃(os:yav) (a:List (Nat×Int)),b=[.lst false (os.map N7),.lst false (a.map d9)]/\fQ Q os a
def mh (os:yav) (a:List (Nat×Int)):lJ κ [.lst false (os.map N7),.lst false (a.map d9)] Q Ed=fQ Q os a:=by z_go
abbrev cX(Ls:yat):Prop:=LsOk Ls/\∀d,HmR Ls d->Q d
def jM(κ:Nl):DSp:=λb Q Ed=>∃(a:yat),b=[.lst false (a.map aW)]/\cX Q a
def gF (Ls:yat):jM κ [.lst false (Ls.map aW)] Q Ed=cX Q Ls:=by z_go
abbrev hJ(a:Int):Prop:=Q (.bl true)
def kN(κ:Nl):DSp:=λb Q Ed=>∃(a:Int),b=[.int a]/\hJ Q a
def sZ (a:Int):kN κ [.int a] Q Ed=hJ Q a:=by z_go
abbrev fB(ns:yaf)(k:Int):Prop:=0<=k/\ns.length<=63/\∀v:Int,Q (.int v)
def iU(κ:Nl):DSp:=λb Q Ed=>∃(a:yaf) (k:Int),b=[.lst false (a.map D.int),.int k]/\fB Q a k
def qe (ns:yaf) (k:Int):iU κ [.lst false (ns.map D.int),.int k] Q Ed=fB Q ns k:=by z_go
abbrev fC(a:Int)(b:Int):Prop:=Q (.int (Int.gcd a b:Int))
def iV(κ:Nl):DSp:=λc Q Ed=>∃(a:Int) (b:Int),c=[.int a,.int b]/\fC Q a b
def qg (a:Int) (b:Int):iV κ [.int a,.int b] Q Ed=fC Q a b:=by z_go
abbrev fZ(c:Int)(m:Int):Prop:=0<=m/\m<1000/\∀xs:yaf,xs.length=m.toNat->(∀x∈xs,0<=x/\x<10000000000000)->Q (.lst true (xs.map D.int))
def jN(κ:Nl):DSp:=λa Q Ed=>∃(c:Int) (m:Int),a=[.int c,.int m]/\fZ Q c m
def rg (c:Int) (m:Int):jN κ [.int c,.int m] Q Ed=fZ Q c m:=by z_go
abbrev dU(c:Int)(k:Int):Prop:=∀p:Sp,WB 40 p->Q (MA p)
def lO(κ:Nl):DSp:=λa Q Ed=>∃(c:Int) (k:Int),a=[.int c,.int k]/\dU Q c k
def iX (c:Int) (k:Int):lO κ [.int c,.int k] Q Ed=dU Q c k:=by z_go
abbrev cZ(h0 h1 h2:Int):Prop:=Pr (h0,h1,h2)/\Q (.bl true)
def eN(κ:Nl):DSp:=λd Q Ed=>∃(c b a:Int),d=[T3 c b a]/\cZ Q c b a
def jq (h0 b a:Int):eN κ [T3 h0 b a] Q Ed=cZ Q h0 b a:=by z_go
abbrev fE(ns:yaf):Prop:=0<ns.length/\ns.length<1000/\Q (.bl true)
def iW(κ:Nl):DSp:=λb Q Ed=>∃(a:yaf),b=[.lst false (a.map D.int)]/\fE Q a
def qh (ns:yaf):iW κ [.lst false (ns.map D.int)] Q Ed=fE Q ns:=by z_go
abbrev fU(d:D)(ps:yau)(h0 h1 h2:Int):Prop:=∃pk sh,d=bI (pk,sh)/\D8 ps (h0,h1,h2) pk sh/\ps.length<=30/\(∀p∈ps,WB 40 p)/\CB 40 (h0,h1,h2)/\Q (.bl true)
def jb(κ:Nl):DSp:=λf Q Ed=>∃(d:D) (a:yau) (e c b:Int),f=[d,.lst false (a.map MA),T3 e c b]/\fU Q d a e c b
def mn (d:D) (ps:yau) (h0 b a:Int):jb κ [d,.lst false (ps.map MA),T3 h0 b a] Q Ed=fU Q d ps h0 b a:=by z_go
abbrev gZ(d:D)(Ls:yat):Prop:=∃y rs,d=ft y rs/\LsOk Ls/\gM Ls y rs/\Q (.bl true)
def kM(κ:Nl):DSp:=λb Q Ed=>∃(d:D) (a:yat),b=[d,.lst false (a.map aW)]/\gZ Q d a
def sW (d:D) (Ls:yat):kM κ [d,.lst false (Ls.map aW)] Q Ed=gZ Q d Ls:=by z_go
abbrev jU(d:D)(Ls:yat):Prop:=∃x:Int×Tr,d=N7 x/\LsOk Ls/\(∃i:Nat,i<Ls.length/\x.1=(i:Int)/\∀p∈Ls.getD i [],0<=Mg x.2 (1,p.1,p.2))/\TB 990 x.2/\Q (.bl true)
def nA(κ:Nl):DSp:=λb Q Ed=>∃(d:D) (a:yat),b=[d,.lst false (a.map aW)]/\jU Q d a
def vD (d:D) (Ls:yat):nA κ [d,.lst false (Ls.map aW)] Q Ed=jU Q d Ls:=by z_go
abbrev i8(d:D)(Ls:yat):Prop:=∃rs,d=iE rs/\LsOk Ls/\kR Ls rs/\Q (.bl true)
def lL(κ:Nl):DSp:=λb Q Ed=>∃(d:D) (a:yat),b=[d,.lst false (a.map aW)]/\i8 Q d a
def uq (d:D) (Ls:yat):lL κ [d,.lst false (Ls.map aW)] Q Ed=i8 Q d Ls:=by z_go
abbrev fT(d:D)(Ls:yat):Prop:=LsOk Ls/\((∃y rs,d=ft y rs/\gM Ls y rs)∨∃ rs,d=iE rs/\kR Ls rs)/\Q (.bl true)
def lM(κ:Nl):DSp:=λb Q Ed=>∃(d:D) (a:yat),b=[d,.lst false (a.map aW)]/\fT Q d a
def ml (d:D) (Ls:yat):lM κ [d,.lst false (Ls.map aW)] Q Ed=fT Q d Ls:=by z_go
abbrev i9(ns:yaf):Prop:=ns.length<=63/\∀Ls,LsOk Ls->Q (.lst true (Ls.map d6))
def lN(κ:Nl):DSp:=λb Q Ed=>∃(a:yaf),b=[.lst false (a.map D.int)]/\i9 Q a
def uv (ns:yaf):lN κ [.lst false (ns.map D.int)] Q Ed=i9 Q ns:=by z_go
abbrev eI(d:D)(Ls:yat):Prop:=LsOk Ls/\((∃y,d=ft y (Ls.map (PC y))/\gM Ls y (Ls.map (PC y))/\∀ps∈Ls,bX (ps.map (Mu y)) (cw ps.length)=some (PC y ps))∨∃ rs,d=iE rs)/\Q (.bl true)
def ip(κ:Nl):DSp:=λb Q Ed=>∃(d:D) (a:yat),b=[d,.lst false (a.map aW)]/\eI Q d a
def pf (d:D) (Ls:yat):ip κ [d,.lst false (Ls.map aW)] Q Ed=eI Q d Ls:=by z_go
end
section
variable(P:Program)(w:World)(K:yac)(mg:yam)(base:Heap)(κ:Nl)
abbrev IF:Prop:=Nw P w K mg base "sign" 1 ["number"] (ux κ)
abbrev kh:Prop:=Nw P w K mg base "common_divisor" 1 ["one", "other"] (fN κ)
abbrev vV:Prop:=Nw P w K mg base "lowest" 2 ["numbers"] (jr κ)
abbrev BN:Prop:=Nw P w K mg base "reduced" 2 ["triple", "lead"] (nB κ)
abbrev y9:Prop:=Nw P w K mg base "picks" 1 ["count", "size"] (rh κ)
abbrev za:Prop:=Nw P w K mg base "value" 1 ["gauge", "place"] (rn κ)
abbrev IE:Prop:=Nw P w K mg base "side" 2 ["gauge", "place"] (iY κ)
abbrev vW:Prop:=Nw P w K mg base "with_share" 1 ["gauge", "other", "share"] (gf κ)
abbrev BJ:Prop:=Nw P w K mg base "crossed" 1 ["one", "other"] (j1 κ)
abbrev D7:Prop:=Nw P w K mg base "facing" 1 ["place", "way"] (c7 κ)
abbrev Gw:Prop:=Nw P w K mg base "place" 3 ["by", "x", "y"] (rj κ)
abbrev rG:Prop:=Nw P w K mg base "place_of" 1 ["spot"] (lP κ)
abbrev Gx:Prop:=Nw P w K mg base "swing" 1 ["one", "two", "three"] (nC κ)
abbrev y8:Prop:=Nw P w K mg base "arrow" 1 ["one", "other"] (kL κ)
abbrev BO:Prop:=Nw P w K mg base "turn" 1 ["one", "other"] (uy κ)
abbrev IC:Prop:=Nw P w K mg base "back" 1 ["way"] (mf κ)
abbrev BM:Prop:=Nw P w K mg base "left_of" 1 ["way"] (j2 κ)
abbrev Gv:Prop:=Nw P w K mg base "chain" 2 ["places"] (rf κ)
abbrev BK:Prop:=Nw P w K mg base "hull" 3 ["spots"] (mj κ)
abbrev vt:Prop:=Nw P w K mg base "thin_bounds" 2 ["one", "other"] (iZ κ)
abbrev D5:Prop:=Nw P w K mg base "bounds" 3 ["corners"] (o5 κ)
abbrev vU:Prop:=Nw P w K mg base "length" 1 ["way"] (ph κ)
abbrev tG:Prop:=Nw P w K mg base "are_opposite" 2 ["one", "other"] (ie κ)
abbrev qw:Prop:=Nw P w K mg base "balance_of_two" 3 ["one", "other"] (fM κ)
abbrev nW:Prop:=Nw P w K mg base "balance_of_three" 3 ["one", "two", "three"] (et κ)
abbrev uD:Prop:=Nw P w K mg base "balance" 4 ["ways"] (nj κ)
abbrev uF:Prop:=Nw P w K mg base "mixture" 5 ["spots", "place"] (iq κ)
abbrev rF:Prop:=Nw P w K mg base "place_between" 4 ["one", "other", "gauge"] (dN κ)
abbrev uE:Prop:=Nw P w K mg base "clipped" 5 ["corners", "gauge"] (ig κ)
abbrev D6:Prop:=Nw P w K mg base "common" 6 ["corners", "gauges"] (o7 κ)
abbrev vn:Prop:=Nw P w K mg base "last_needed" 6 ["corners", "gauges"] (iT κ)
abbrev Aw:Prop:=Nw P w K mg base "constant" 1 ["gauges", "numbers", "shares"] (lK κ)
abbrev ID:Prop:=Nw P w K mg base "bars" 7 ["corners", "gauges"] (uo κ)
abbrev tK:Prop:=Nw P w K mg base "owned_gauges" 4 ["lists"] (ir κ)
abbrev Av:Prop:=Nw P w K mg base "bar_rows" 2 ["owned", "shares"] (lJ κ)
abbrev vS:Prop:=Nw P w K mg base "hulls_meet" 8 ["lists"] (jM κ)
abbrev k9:Prop:=Nw P w K mg base "_law_whole" 1 ["_law_found"] (kN κ)
abbrev vo:Prop:=Nw P w K mg base "_law_cell_at" 1 ["_law_script", "_law_k"] (iU κ)
abbrev nM:Prop:=Nw P w K mg base "_law_divisor" 1 ["_law_one", "_law_other"] (iV κ)
abbrev vT:Prop:=Nw P w K mg base "_law_stream" 1 ["_law_cell", "_law_many"] (jN κ)
abbrev AB:Prop:=Nw P w K mg base "_law_spot" 1 ["_law_cell", "_law_kind"] (lO κ)
abbrev tH:Prop:=Nw P w K mg base "_law_is_place" 2 ["_law_found"] (eN κ)
abbrev vq:Prop:=Nw P w K mg base "_law_numbers" 2 ["_law_found"] (iW κ)
abbrev Az:Prop:=Nw P w K mg base "_law_part" 3 ["_law_part_here", "_law_spots", "_law_here"] (jb κ)
abbrev yv:Prop:=Nw P w K mg base "_law_meets" 4 ["_law_found", "_law_sets_here"] (kM κ)
abbrev BL:Prop:=Nw P w K mg base "_law_row" 2 ["_law_row_here", "_law_sets_here"] (nA κ)
abbrev Ax:Prop:=Nw P w K mg base "_law_bars" 3 ["_law_found", "_law_sets_here"] (lL κ)
abbrev Ay:Prop:=Nw P w K mg base "_law_good" 5 ["_law_found", "_law_sets_here"] (lM κ)
abbrev AA:Prop:=Nw P w K mg base "_law_sets" 2 ["_law_script"] (lN κ)
abbrev tJ:Prop:=Nw P w K mg base "_law_shortest" 6 ["_law_found", "_law_sets_here"] (ip κ)
end
local macro_rules|`(tactic|fin2)=>`(tactic| (intro ds Q E h; repeat (first | (cases h.1; rfl) | refine Exists.elim h λ_ h => ?_)))
section
variable{P:Program}{w:World}{K:yac}{mg:yam}{base:Heap}{κ:Nl}{f:Addr}{fd:FuncData}
def L0(x:Str)(N:yah)(d:D)(ds:yas):c8 (x::N) (d::ds)=some (.val d)::c8 N ds:=by unfold c8;simp
def L4(x:Str)(N:yah):c8 (x::N) []=none::c8 N []:=by unfold c8;simp[List.replicate_succ]
theorem L3:c8 [] []=[]:=rfl
local macro_rules|`(tactic|x_go)=>do
 let l := ("L0 L4 L3".splitOn " ").toArray.map λs => Lean.mkIdent s.toName
 `(tactic| simp only [$[$l:ident],*])
local macro_rules|`(tactic|lk)=>do
 let l := ("Et F5 AY Jd IZ XD dB IY dOr Ja FX F6 dIf wO dC rK AV Ji Es vH dCB dIs Jj Jk Lu Lv zW eW Ko Kq E6 Hq E7 lV Cn Co JT F3 Jb zj zq GY GZ qA JJ JL JK List.map_cons List.map_nil LL cH FK DU jv cq bE bH br fW qU qS K3 Jz GX List.append_nil List.cons_append List.nil_append Hg Hh Ke Hc Hb CG Ha A9 CC CF CA Cz true_and false_and and_false false_or or_false exists_false AX F8 HW HV kx Jc Bool.false_eq_true Bool.true_eq_false if_false if_true decide_eq_true_eq Bool.not_eq_eq_eq_not Bool.not_true Bool.not_false decide_eq_false_iff_not ite_not BQ II Ca I0 Jf Je F9 rL dj AW JC JD KR KS Jm B9 JU Jg zt JA JB sS List.set_cons_zero List.set_cons_succ zo Bz nr kO vE yZ y4 j4 kP nP o9 y3 uw qt lF BA nh nQ qr nu jP o6 yc oZ nk lH jK jO iw jL o8 qa mi sV pA mh gF sZ qe qg rg iX jq qh mn sW vD uq ml uv pf pW df gK jV mR mT iO dP gY jj mS ja kG iN pX kf hU kF kg dF jh kW eG de cV fx fF cQ fy ji fz fR ma eJ fQ cX hJ fB fC fZ dU cZ fE fU gZ jU i8 fT i9 eI j6 i4 fL gG nG da tw Ce Ga F2 rq BG ye nF qB F4 tq kQ j5 tj jc zr F7 FZ Jh Cb wN F1 yf tu FY wM wQ".splitOn " ").toArray.map λs => Lean.mkIdent s.toName
 `(tactic| try simp only [WC, Rm, at2, at3, $[$l:ident],*])
def Hy (F:az K "sign" "sign" xX f fd) (C:Ny K mg κ)    : aM P w K mg base (CX1 P w) 1 f fd ["number"] (aN K (ux κ)):=by
 refine az.okN F Ib (by fin2) λ_ _ _ _ _ _ hr=>⟨_,(aj (aP (aC mQ (dv 0) ae) (ao (ay ae)) aG) (aj (aP (aC cT (dv 0) ae) (ao (ay (bT ae))) aG) (ao (ay ae)))),?_⟩
 rintro ds Q Ed ⟨n,rfl,h⟩;x_go;unfold pW at h;lk;unfold sg at h;split
 ·rename_i a;rw[Ml a]at h;exact h
 ·rename_i a;rw[Mj a]at h;split
  ·rename_i a;rw[Ml a]at h;exact h
  ·rename_i a;rw[Mj a]at h;exact h
def p6 (F:az K "common_divisor" "common_divisor" gr f fd) (C:Ny K mg κ)   (a:mg "abs" = none):aM P w K mg base (CX1 P w) 1 f fd ["one", "other"] (aN K (fN κ)):=by
 refine az.okN F dg (by fin2) λ_ _ _ _ _ _ hr=>⟨_,(aj (mF PassesOwn.never (aC fO (dv 1) ae) (aj (aE 2 dg.nd (aq bU (dv 0) (dv 1))) (aj (aE 0 dg.nd (dv 1)) (ao (aE 1 dg.nd (dv 2)))))) (ao (ay (aF n9 (by rfl) a boot_abs (aa (dv 0) ah))))),?_⟩
 rintro ds Q Ed ⟨a,b,rfl,h⟩;x_go;unfold df at h;refine⟨λm c=>∃(x y:Int) (r:Option Sl),c=[some (.val (.int x)),some (.val (.int y)),r]/\Int.gcd x y=Int.gcd a b/\m=y.natAbs,⟨_,a,b,none,rfl,rfl,rfl⟩,?_⟩;rintro m c ⟨x,y,r,rfl,b,rfl⟩;lk;by_cases a:y=0
 ·subst a;rw[PM.uW]at b;rw[Ml rfl,b];exact h
 ·rw[Mj a];exact⟨a,_,PM.uU x a,y,x.fmod y,_,rfl,(PM.xn x y).trans b,rfl⟩
def C4 (F:az K "lowest" "lowest" mY f fd) (C:Ny K mg κ)  (b:kh P w K mg base κ)  : aM P w K mg base (CX1 P w) 2 f fd ["numbers"] (aN K (jr κ)):=by
 refine az.okN F kZ (by fin2) λ_ _ _ _ _ _ a=>⟨_,(aj (aE 1 kZ.nd ae) (aj (bK PassesOwn.never rfl (bq (dv 0)) (aS 2 kZ.nd) (ao (aE 1 kZ.nd (au b a (aa (dv 1) (aa (dv 2) ah)))))) (ao (ay (dq (by rfl) (by exact bC (osc:=ar mY) (xs:=["number"]) (ns:=["divisor"]) (by decide +kernel)) (aX.cons 1 aX.nil) (bq (dv 0)) (λ_ _ _ _ _=>bW) (λ_ _ _ _ _=>(aq dE (dv 0) (dv 1)))))))),?_⟩
 rintro ds Q Ed ⟨ns,rfl,h⟩;x_go;unfold gK at h;obtain⟨hl,c,d,h⟩:=h;lk;refine PD.bo ns D.int (λj b=>∃a:Option Sl,b=[some (.val (.lst false (ns.map D.int))),some (.val (.int (bM 0 (ns.take j)))),a]) (λR q=>?_) ⟨none,rfl⟩ ?_ ?_
 ·lk;exact q
 ·rintro j x e b ⟨a,rfl⟩;lk;refine⟨some (.val (.int x)),?_⟩;rw[UU,b];show _=[_,some (Sl.val (D.int (bM 0 (ns.take j++[x])))),_];rw[oC]
 ·rintro e ⟨a,rfl⟩;rw[SR];lk;refine PD.comp_map ns D.int (λ_=>true) (λx=>.int (x.fdiv (bM 0 ns))) (λR q=>?_) (by rw[sizeLine_eq];lia) (λx b K a=>?_) (λx b _ K a=>?_) ?_
  ·lk;exact q
  ·lk;exact a
  ·lk;exact⟨⟨c,d.mono (by decide)⟩,a⟩
  ·rw[QJ.mpr (λ_ _=>rfl)];unfold c9 at h;rw[NY]at h;exact h
def Bn (F:az K "reduced" "reduced" oW f fd) (C:Ny K mg κ)  (b:kh P w K mg base κ)  : aM P w K mg base (CX1 P w) 2 f fd ["triple", "lead"] (aN K (nB κ)):=by
 refine az.okN F ng (by fin2) λ_ _ _ _ _ _ a=>⟨_,(aj (aE 2 ng.nd (au b a (aa (au b a (aa (ai (dv 0) ae) (aa (ai (dv 0) ae) ah))) (aa (ai (dv 0) ae) ah)))) (aj (aP (aC cT (dv 1) ae) (ao (aE 2 ng.nd (bT (dv 2)))) aG) (ao (ay (bJ (aa (aq dE (ai (dv 0) ae) (dv 2)) (aa (aq dE (ai (dv 0) ae) (dv 2)) (aa (aq dE (ai (dv 0) ae) (dv 2)) ah)))))))),?_⟩
 rintro ds Q Ed ⟨x,y,z,l,rfl,h⟩;x_go;unfold jV at h;obtain⟨d,g,b,e,h⟩:=h;have c:=PM.w4 (l:=l) d;have a:=(IL (l:=l) d g b e).mono (show 4000<=8000 by decide);lk;have b:((Int.gcd (Int.gcd x y:Int) z:Nat):Int)=(PM.g3 x y z:Int):=rfl;rw[b];have b:∀g:Int,g=PM.N1 x y z l->CD x g/\CD y g/\CD z g/\([D.int (x.fdiv g),.int (y.fdiv g),.int (z.fdiv g)]:yas).length<=sizeLine/\Q (.tup [.int (x.fdiv g),.int (y.fdiv g),.int (z.fdiv g)]):=by rintro g rfl;exact⟨⟨c,a⟩,⟨c,a⟩,⟨c,a⟩,S9 _ _ _,h⟩
 by_cases a:l<0
 ·rw[Ml (by simpa using a)];exact b _ (by unfold PM.N1;rw[Ml a])
 ·rw[Mj (by simpa using a)];exact b _ (by unfold PM.N1;rw[Mj a])
def Fc (F:az K "picks" "picks" pY f fd) (C:Ny K mg κ)   (a:mg "range" = none):aM P w K mg base (CX1 P w) 1 f fd ["count", "size"] (aN K (rh κ)):=by
 refine az.okN F gw (by fin2) λ_ _ _ _ _ _ hr=>⟨_,(aj (aE 2 gw.nd (dO (aa (dO ah) ah))) (aj (bK PassesOwn.never rfl (cn (by rfl) a (aa (dv 1) ah)) (aS 3 gw.nd) (aj (lU 4 gw.nd ah) (aj (bK PassesOwn.never rfl (bq (dv 2)) (aS 5 gw.nd) (aj (aE 6 gw.nd (qC (aC mQ (dv 3) ae) (aq aR (ai (dv 5) (bT ae)) ae) ae)) (ao (uS 4 (dq (by rfl) (by exact bC (osc:=ar pY) (xs:=["number"]) (ns:=["pick"]) (by decide +kernel)) (aX.cons 5 aX.nil) (uX (by rfl) a (aa (dv 6) (aa (dv 0) ah))) (λ_ _ _ _ _=>bW) (λ_ _ _ _ _=>(aq aR (dv 1) (dO (aa (dv 0) ah))))))))) (fk 4 (ao (aE 2 gw.nd (dv 4))))))) (ao (ay (dv 2))))),?_⟩
 rintro ds Q Ed ⟨n,s,rfl,h⟩;x_go;unfold mR at h;obtain⟨m,t,rfl,rfl,hm,ht,a,h⟩:=h;have o:∀j,j<=t->m ^ j<=1000000:=λj b=>by
  rcases Nat.eq_zero_or_pos m with z|z
  ·rw[z];rcases Nat.eq_zero_or_pos j with y|y
   ·rw[y];decide
   ·rw[Nat.zero_pow y];decide
  ·exact Pa (Vv z b) a
 lk;refine⟨N9 _,by rw[sizeLine_eq];decide,?_⟩;refine PD.bo (List.range' 0 t) (λ(k:Nat)=>D.int (k:Int)) (λj a=>∃n i d c:Option Sl,a=[some (.val (.int m)),some (.val (.int t)),some (.val (.lst true ((Ng m j).map Pk))),n,i,d,c]) (λR q=>?_) ⟨none,none,none,none,rfl⟩ ?_ ?_
 ·lk;rw[jD];exact⟨⟨by lia,by lia⟩,q⟩
 ·rintro j x r e ⟨n,i,d,c,rfl⟩;obtain⟨b,g⟩:=Nk.mp e;rw[OO]at b;rw[UO]at g;have b:x=j:=by lia
  subst b;lk;refine⟨N9 _,?_⟩;refine PD.zE (Ng m x) Pk (λdone a=>∃d c:Option Sl,a=[some (.val (.int m)),some (.val (.int t)),some (.val (.lst true ((Ng m x).map Pk))),some (.val (.int x)),some (.own ((done.flatMap (QF m)).map Pk)),d,c]) (λR q=>?_) ⟨_,_,rfl⟩ ?_ ?_
  ·lk;exact q
  ·rintro done a p e j ⟨d,c,rfl⟩;obtain⟨b,g⟩:=gJ e;have hf:dJ a<=m:=by
    unfold dJ;cases e:a.getLast? with
    |none=>exact N9 _
    |some l=>have:=g l (List.mem_of_getLast? e);exact this
   have dl:done.length*m<=1000000:=Pa (Yb m (Pa (Sx j) (tW m x))) (by rw[<- RO];exact o _ (by lia));have fl:=xg m done;have nl:(QF m a).length<=1000:=by unfold QF;rw[Mq,OO];lia
   have rest:∀(v:D) (g:D->Prop),v=.int (dJ a)->g (.lst true ((QF m a).map Pk))->kS (AX (rK (lB 6) (rK (lB 0) AV))) [5] qA (XD vO (lB 1) (Es (rK (lB 0) AV))) [some (.val (.int m)),some (.val (.int t)),some (.val (.lst true ((Ng m x).map Pk))),some (.val (.int x)),some (.own ((done.flatMap (QF m)).map Pk)),some (.val (Pk a)),some (.val v)] g:=by
    rintro v g rfl j;refine PD.comp_map (List.range' (dJ a) (m - dJ a)) (λ(k:Nat)=>D.int (k:Int)) (λ_=>true) (λk=>Pk (a++[k])) (λR q=>?_) (by rw[OO,sizeLine_eq];lia) (λk l K g=>?_) (λk l _ K g=>?_) ?_
    ·lk;rw[z9];exact⟨⟨by lia,by lia⟩,⟨by lia,by lia⟩,q⟩
    ·lk;exact g
    ·unfold Pk at g ⊢;lk;rw[OC]at g;refine⟨XG _,?_,g⟩;rw[Mq,sizeLine_eq,b];show x+1<=_
     lia
    ·rw[QJ.mpr (λ_ _=>rfl)];unfold QF at j;rw[NY]at j;exact j
   have g:∀v:D,∃xs,D.lst true ((QF m a).map Pk)=D.lst true xs/\(List.map Pk (List.flatMap (QF m) done)).length+xs.length<=sizeLine/\∃d c:Option Sl,([some (Sl.val (D.int m)),some (Sl.val (D.int t)),some (Sl.val (D.lst true (List.map Pk (Ng m x)))),some (Sl.val (D.int x)),some (Sl.own (List.map Pk (List.flatMap (QF m) done)++xs)),some (Sl.val (Pk a)),some (Sl.val v)]:Ro)=[some (Sl.val (D.int m)),some (Sl.val (D.int t)),some (Sl.val (D.lst true (List.map Pk (Ng m x)))),some (Sl.val (D.int x)),some (Sl.own (List.map Pk (List.flatMap (QF m) (done++[a])))),d,c]:=λv =>
    ⟨_,rfl,by rw[Mq,Mq,sizeLine_eq];lia,_,_,by rw[List.flatMap_append,OC,List.flatMap_singleton]⟩
   lk;by_cases j:x=0
   ·subst j;have:a=[]:=V5 b;subst this;rw[Mj (by lia)];exact rest _ _ rfl (g _)
   ·rw[Ml (by lia)];have l:a ≠ []:=λe=>j (by rw[<- b,e];rfl)
    show ub (.lst true (a.map λ(k:Nat)=>D.int (k:Int))) _ _;rw[qS];refine GA l ?_;rw[BQ];exact rest _ _ (by congr 1;lia) (g _)
  ·rintro p ⟨d,c,rfl⟩;lk;exact⟨_,_,_,_,rfl⟩
 ·rintro r ⟨n,i,d,c,rfl⟩;lk;rw[OO];exact h
def Ff (F:az K "value" "value" ui f fd) (C:Ny K mg κ)    : aM P w K mg base (CX1 P w) 1 f fd ["gauge", "place"] (aN K (rn κ)):=by
 refine az.okN F FD (by fin2) λ_ _ _ _ _ _ hr=>⟨_,(ao (ay (aq aR (aq aR (aq aD (ai (dv 0) ae) (ai (dv 1) ae)) (aq aD (ai (dv 0) ae) (ai (dv 1) ae))) (aq aD (ai (dv 0) ae) (ai (dv 1) ae))))),?_⟩
 rintro ds Q Ed ⟨g0,g1,g2,p0,p1,p2,rfl,h⟩;x_go;unfold mT at h;obtain⟨k,j,i,d,c,b,h⟩:=h;have a:∀{x y:Int},Bd 1000 x->Bd 1000 y->CM x y:=λg e=>.inr (.inr ⟨g.mono (by decide),e.mono (by decide)⟩)
 lk;exact⟨a k d,a j c,a i b,h⟩
def Hx (F:az K "side" "side" xW f fd) (C:Ny K mg κ)  (b:IF P w K mg base κ) (c:za P w K mg base κ)  : aM P w K mg base (CX1 P w) 2 f fd ["gauge", "place"] (aN K (iY κ)):=by
 refine az.okN F Ia (by fin2) λ_ _ _ _ _ _ a=>⟨_,(ao (ay (au b a (aa (au c a (aa (dv 0) (aa (dv 1) ah))) ah)))),?_⟩
 rintro ds Q Ed ⟨g0,g1,g2,p0,p1,p2,rfl,h⟩;x_go;unfold iO at h;obtain⟨g,e,d,c,b,a,h⟩:=h;lk;exact⟨g,e,d,c,b,a,h⟩
def vA (F:az K "with_share" "with_share" kI f fd) (C:Ny K mg κ)    : aM P w K mg base (CX1 P w) 1 f fd ["gauge", "other", "share"] (aN K (gf κ)):=by
 refine az.okN F vB (by fin2) λ_ _ _ _ _ _ hr=>⟨_,(ao (ay (bJ (aa (aq aR (ai (dv 0) ae) (aq aD (ai (dv 1) ae) (dv 2))) (aa (aq aR (ai (dv 0) ae) (aq aD (ai (dv 1) ae) (dv 2))) (aa (aq aR (ai (dv 0) ae) (aq aD (ai (dv 1) ae) (dv 2))) ah)))))),?_⟩
 rintro ds Q Ed ⟨a0,a1,a2,b0,b1,b2,s,rfl,h⟩;x_go;unfold dP at h;obtain⟨A,B,a,h⟩:=h;lk;exact⟨Pe B.c a,Pe B.a a,Pe B.b a,S9 _ _ _,h⟩
def Bj (F:az K "crossed" "crossed" oS f fd) (C:Ny K mg κ)    : aM P w K mg base (CX1 P w) 1 f fd ["one", "other"] (aN K (j1 κ)):=by
 refine az.okN F Bs (by fin2) λ_ _ _ _ _ _ hr=>⟨_,(ao (ay (bJ (aa (aq bG (aq aD (ai (dv 0) ae) (ai (dv 1) ae)) (aq aD (ai (dv 1) ae) (ai (dv 0) ae))) (aa (aq bG (aq aD (ai (dv 0) ae) (ai (dv 1) ae)) (aq aD (ai (dv 1) ae) (ai (dv 0) ae))) (aa (aq bG (aq aD (ai (dv 0) ae) (ai (dv 1) ae)) (aq aD (ai (dv 1) ae) (ai (dv 0) ae))) ah)))))),?_⟩
 rintro ds Q Ed ⟨a0,a1,a2,b0,b1,b2,rfl,h⟩;x_go;unfold gY at h;obtain⟨i,g,e,d,c,b,h⟩:=h;have a:∀{x y:Int},Bd 200 x->Bd 200 y->CM x y:=λk j=>.inr (.inr ⟨k.mono (by decide),j.mono (by decide)⟩)
 lk;exact⟨a g b,a c e,a e d,a b i,a i c,a d g,S9 _ _ _,h⟩
def C2 (F:az K "facing" "facing" qW f fd) (C:Ny K mg κ)    : aM P w K mg base (CX1 P w) 1 f fd ["place", "way"] (aN K (c7 κ)):=by
 refine az.okN F Ds (by fin2) λ_ _ _ _ _ _ hr=>⟨_,(ao (ay (bJ (aa (bT (aq aR (aq aD (ai (dv 1) ae) (ai (dv 0) ae)) (aq aD (ai (dv 1) ae) (ai (dv 0) ae)))) (aa (aq aD (ai (dv 1) ae) (ai (dv 0) ae)) (aa (aq aD (ai (dv 1) ae) (ai (dv 0) ae)) ah)))))),?_⟩
 rintro ds Q Ed ⟨p0,p1,p2,w,rfl,h⟩;x_go;unfold jj at h;obtain⟨b,d,c,a,h⟩:=h;unfold MA;lk;exact⟨Pe a.x d,Pe a.y c,Pe a.x b,Pe a.y b,S9 _ _ _,h⟩
def Fd (F:az K "place" "place" ug f fd) (C:Ny K mg κ)  (b:BN P w K mg base κ)  : aM P w K mg base (CX1 P w) 3 f fd ["by", "x", "y"] (aN K (rj κ)):=by
 refine az.okN F FA (by fin2) λ_ _ _ _ _ _ a=>⟨_,(aj (aP (aC cf (dv 0) ae) (ao qE) aG) (ao (ay (au b a (aa (bJ (aa (dv 0) (aa (dv 1) (aa (dv 2) ah)))) (aa (dv 0) ah)))))),?_⟩
 rintro ds Q Ed ⟨b,x,y,rfl,h⟩;x_go;unfold mS at h;obtain⟨a,d,c,b,h⟩:=h;lk;rw[Mj a];exact⟨S9 _ _ _,λz=>a z.1,d,c,b,h⟩
def yV (F:az K "place_of" "place_of" mZ f fd) (C:Ny K mg κ)    : aM P w K mg base (CX1 P w) 1 f fd ["spot"] (aN K (lP κ)):=by
 refine az.okN F yY (by fin2) λ_ _ _ _ _ _ hr=>⟨_,(ao (ay (bJ (aa ae (aa (ai (dv 0) ae) (aa (ai (dv 0) ae) ah)))))),?_⟩
 rintro ds Q Ed ⟨d,rfl,h⟩;x_go;unfold ja at h;obtain⟨p,rfl,q⟩:=h;unfold MA;lk;exact⟨S9 _ _ _,q⟩
def Fe (F:az K "swing" "swing" uh f fd) (C:Ny K mg κ)    : aM P w K mg base (CX1 P w) 1 f fd ["one", "two", "three"] (aN K (nC κ)):=by
 refine az.okN F FC (by fin2) λ_ _ _ _ _ _ l=>⟨_,(ao (ay (aq aR (aq aR (aq aD (ai (dv 0) ae) (aq bG (aq aD (ai (dv 1) ae) (ai (dv 2) ae)) (aq aD (ai (dv 2) ae) (ai (dv 1) ae)))) (aq aD (ai (dv 1) ae) (aq bG (aq aD (ai (dv 2) ae) (ai (dv 0) ae)) (aq aD (ai (dv 0) ae) (ai (dv 2) ae))))) (aq aD (ai (dv 2) ae) (aq bG (aq aD (ai (dv 0) ae) (ai (dv 1) ae)) (aq aD (ai (dv 1) ae) (ai (dv 0) ae))))))),?_⟩
 rintro ds Q Ed ⟨a0,a1,a2,b0,b1,b2,c0,c1,c2,rfl,h⟩;x_go;unfold kG at h;obtain⟨t,i,g,n,e,d,m,c,b,h⟩:=h;have a:∀{x y:Int},Bd 1000 x->Bd 1000 y->CM x y:=λj k=>.inr (.inr ⟨j.mono (by decide),k.mono (by decide)⟩)
 have k:∀{x p q r s:Int},Bd 1000 x->Bd 1000 p->Bd 1000 q->Bd 1000 r->Bd 1000 s->CM x (p*q - r*s):=λj q p l o=>.inr (.inr ⟨j.mono (by decide),((q.mul p).sub (l.mul o)).mono (by decide)⟩)
 lk;exact⟨a e b,a c d,k t e b c d,a c g,a i b,k n c g i b,a i d,a e g,k m i d e g,h⟩
def E9 (F:az K "arrow" "arrow" ue f fd) (C:Ny K mg κ)    : aM P w K mg base (CX1 P w) 1 f fd ["one", "other"] (aN K (kL κ)):=by
 refine az.okN F Fz (by fin2) λ_ _ _ _ _ _ hr=>⟨_,(ao (ay (bJ (aa (aq bG (aq aD (ai (dv 0) ae) (ai (dv 1) ae)) (aq aD (ai (dv 1) ae) (ai (dv 0) ae))) (aa (aq bG (aq aD (ai (dv 0) ae) (ai (dv 1) ae)) (aq aD (ai (dv 1) ae) (ai (dv 0) ae))) ah))))),?_⟩
 rintro ds Q Ed ⟨a0,a1,a2,b0,b1,b2,rfl,h⟩;x_go;unfold iN at h;obtain⟨b,g,e,a,d,c,h⟩:=h;lk;exact⟨Pe b d,Pe a g,Pe b c,Pe a e,Ta _ _,h⟩
def Hz (F:az K "turn" "turn" xY f fd) (C:Ny K mg κ)    : aM P w K mg base (CX1 P w) 1 f fd ["one", "other"] (aN K (uy κ)):=by
 refine az.okN F Ic (by fin2) λ_ _ _ _ _ _ hr=>⟨_,(ao (ay (aq bG (aq aD (ai (dv 0) ae) (ai (dv 1) ae)) (aq aD (ai (dv 1) ae) (ai (dv 0) ae))))),?_⟩
 rintro ds Q Ed ⟨a,b,rfl,h⟩;x_go;unfold pX at h;obtain⟨b,a,h⟩:=h;unfold MA;lk;exact⟨Pe b.x a.y,Pe a.x b.y,h⟩
def Hu (F:az K "back" "back" xV f fd) (C:Ny K mg κ)    : aM P w K mg base (CX1 P w) 1 f fd ["way"] (aN K (mf κ)):=by
 refine az.okN F HZ (by fin2) λ_ _ _ _ _ _ hr=>⟨_,(ao (ay (bJ (aa (bT (ai (dv 0) ae)) (aa (bT (ai (dv 0) ae)) ah))))),?_⟩
 rintro ds Q Ed ⟨w,rfl,h⟩;x_go;unfold kf at h;unfold MA at h ⊢;lk;exact⟨Ta _ _,h⟩
def Bl (F:az K "left_of" "left_of" oV f fd) (C:Ny K mg κ)    : aM P w K mg base (CX1 P w) 1 f fd ["way"] (aN K (j2 κ)):=by
 refine az.okN F Bt (by fin2) λ_ _ _ _ _ _ hr=>⟨_,(ao (ay (bJ (aa (bT (ai (dv 0) ae)) (aa (ai (dv 0) ae) ah))))),?_⟩
 rintro ds Q Ed ⟨w,rfl,h⟩;x_go;unfold hU at h;unfold MA at h ⊢;lk;exact⟨Ta _ _,h⟩
def Fb (F:az K "chain" "chain" uf f fd) (C:Ny K mg κ)  (b:Gx P w K mg base κ) (c:mg "len" = none):aM P w K mg base (CX1 P w) 2 f fd ["places"] (aN K (rf κ)):=by
 refine az.okN F qY (by fin2) λ_ _ _ _ _ _ a=>⟨_,(aj (lU 1 qY.nd ah) (aj (bK PassesOwn.never rfl (bq (dv 0)) (aS 2 qY.nd) (aj (mF PassesOwn.never (GS 1 (PU.pt (w6 (aC mQ (aF aV (by rfl) c OP (aa (dv 1) ah)) ae) (tR (aC vM (au b a (aa (ai (dv 1) (bT ae)) (aa (ai (dv 1) (bT ae)) (aa (dv 2) ah)))) ae))))) (ao (Jt 1))) (ao (jd 1 (dv 2))))) (fk 1 (ao (ay (dv 1)))))),?_⟩
 rintro ds Q Ed ⟨a,rfl,h⟩;x_go;unfold kF at h;obtain⟨hl,j,h⟩:=h;lk;refine⟨N9 _,?_⟩;refine PD.zE a Nf (λdone b=>∃v:Option Sl,b=[some (.val (.lst false (a.map Nf))),some (.own ((bQ [] done).reverse.map Nf)),v]/\(bQ [] done).length<=done.length/\∀p∈bQ [] done,SB p) ?_ ?_ ?_ ?_
 ·intro R c;lk;exact c
 ·exact⟨none,rfl,MS _,by simp[bQ]⟩
 ·rintro done x q c N3 ⟨v,rfl,e,d⟩;lk;refine⟨λm b=>∃st:yau,b=[some (.val (.lst false (a.map Nf))),some (.own (st.reverse.map Nf)),some (.val (Nf x))]/\m=st.length/\cJ st x=cJ (bQ [] done) x/\st.length<=done.length/\∀p∈st,SB p,⟨_,_,rfl,rfl,rfl,e,d⟩,?_⟩;rintro m b ⟨st,rfl,rfl,k,o,g⟩;have d:cJ st x=st->((st.reverse.map Nf).length<sizeLine/\∃v:Option Sl,([some (.val (.lst false (a.map Nf))),some (.own (st.reverse.map Nf++[Nf x])),some (.val (Nf x))]:Ro)=[some (.val (.lst false (a.map Nf))),some (.own ((bQ [] (done++[x])).reverse.map Nf)),v]/\(bQ [] (done++[x])).length<=(done++[x]).length/\∀p∈bQ [] (done++[x]),SB p):=λe=>by
   have a:bQ [] (done++[x])=x::st:=by rw[qj,<- k,e]
   rw[a];refine⟨by rw[Mq,RW,sizeLine_eq];lia,_,by rw[Wa,OC];rfl,by simp;lia,λp e=>?_⟩;rcases MD.mp e with z|z
   ·rw[z];exact j x c
   ·exact g p z
  lk;rcases st with _|⟨b,_|⟨a,r⟩⟩
  ·rw[Mj (by simp)];exact d rfl
  ·rw[Mj (by simp)];exact d rfl
  ·rw[Ml (by simp;lia)];have i:(b::a::r).reverse.map Nf=r.reverse.map Nf++[Nf a]++[Nf b]:=by simp
   have n:=g a (by simp);have m:=g b (by simp);have l:=j x c;have c:Bd 1000 1:=by unfold Bd;decide
   refine⟨_,by rw[i];exact BR _ _ _,_,by rw[i];exact wo _ _,?_⟩
   try simp only[gG]
   show nC κ [T3 1 a.1 a.2,T3 1 b.1 b.2,T3 1 x.1 x.2] _ _;rw[qt,kG];refine⟨c,n.x.mono (by decide),n.y.mono (by decide),c,m.x.mono (by decide),m.y.mono (by decide),c,l.x.mono (by decide),l.y.mono (by decide),?_⟩;rw[eW];refine⟨_,rfl,?_⟩;by_cases c:sw 1 a.1 a.2 1 b.1 b.2 1 x.1 x.2<=0
   ·have j:cr a b x<=0:=c;rw[Ml (by simpa using c)];refine⟨by simp,(a::r).length,by simp,a::r,?_,rfl,?_,?_,λp e=>g p (Ni _ e)⟩
    ·rw[i,List.dropLast_concat];simp
    ·rw[<- k];conv=>rhs;unfold cJ
     rw[Ml j]
    ·simp at o ⊢;lia
   ·have j:¬cr a b x<=0:=c;rw[Mj (by simpa using c)];exact d (by unfold cJ;rw[Mj j])
 ·rintro q ⟨v,rfl,_⟩;lk;exact h
def Hw (F:az K "hull" "hull" sN f fd) (C:Ny K mg κ)  (b:Gv P w K mg base κ) (d:rG P w K mg base κ) (g:mg "len" = none) (c:mg "set" = none) (e:mg "sorted" = none):aM P w K mg base (CX1 P w) 3 f fd ["spots"] (aN K (mj κ)):=by
 refine az.okN F Af (by fin2) λ_ _ _ _ _ _ a=>⟨_,(aj (gR 1 Af.nd (by rfl) (by exact bC (osc:=ar sN) (xs:=["spot"]) (ns:=[]) (by decide +kernel)) aX.nil (bq ((A0 rfl (by exact JO a) (by rfl) e (by rfl) c (dv 0))).Ub) (λ_ _ _ _ _=>bW) (λ_ _ _ _ _=>(au d a (aa (dv 0) ah)))) (aj (aP (aC cT (aF aV (by rfl) g OP (aa (dv 1) ah)) ae) (ao (ay (dv 1))) aG) (ao (ay (aq aR (QS.Ub (qD (au b a (aa (dv 1) ah)) dw (gH (bT ae)))) (QS.Ub (qD (au b a (aa (QS.Ub (wZ (dv 1))) ah)) dw (gH (bT ae))))))))),?_⟩
 rintro ds Q Ed ⟨c,rfl,h⟩;x_go;unfold kg at h;obtain⟨hl,i,h⟩:=h;lk;refine wF (P:=λa=>cS a c/\a.length<=c.length) MA Nf (λR g=>?_) (λa b=>by rw[sizeLine_eq];omega) (λa b x hx K k=>?_) λa b=>?_
 ·refine⟨false,c.map Tz,by rw[Gm],by rw[Mq];omega,λk d=>?_,λzs c=>?_⟩
  ·obtain⟨p,_,e⟩:=M4.mp d;rw[<- e];exact List.cons_ne_nil _ _
  ·obtain⟨a,rfl,b⟩:=Dl c;rw[<- Gm];exact⟨true,_,rfl,g a ⟨b,qR b⟩⟩
 ·lk;exact⟨x,i4 x,k⟩
 ·have ly:=b.2;have g:∀p∈a,SB p:=λp e=>i p ((b.1.2 p).mp e)
  have d:=h a b.1 b.2;have c:=gh [] a;have b:=gh [] a.reverse;simp only[List.length_nil,RW]at c b;unfold aQ at d;lk;rw[Mq];split
  ·rename_i c;rw[Ml (by omega)]at d;exact d
  ·rename_i c;rw[Mj (by omega)]at d;refine⟨by omega,g,?_⟩;rw[<- List.map_reverse,nG,qr,kF];refine⟨by rw[RW];omega,λp e=>g p (UR.mp e),true,_,rfl,?_⟩;rw[wJ,wJ];refine⟨?_,?_⟩
   ·rw[TJ,TJ,Mq,Mq,RW,RW,sizeLine_eq];omega
   ·rw[<- List.map_dropLast,<- List.map_dropLast,<- OC];exact d
def ua (F:az K "thin_bounds" "thin_bounds" jJ f fd) (C:Ny K mg κ)  (e:y8 P w K mg base κ) (c:IC P w K mg base κ) (b:D7 P w K mg base κ) (d:BM P w K mg base κ)  : aM P w K mg base (CX1 P w) 2 f fd ["one", "other"] (aN K (iZ κ)):=by
 refine az.okN F iS (by fin2) λ_ _ _ _ _ _ a=>⟨_,(aj (aE 2 iS.nd (qC (aC (vN (by exact a.units)) (dv 0) (dv 1)) (au e a (aa (dv 0) (aa (dv 1) ah))) (bJ (aa ae (aa ae ah))))) (aj (aE 3 iS.nd (au d a (aa (dv 2) ah))) (ao (ay (dO (aa (au b a (aa (dv 0) (aa (dv 2) ah))) (aa (au b a (aa (dv 1) (aa (au c a (aa (dv 2) ah)) ah))) (aa (au b a (aa (dv 0) (aa (dv 3) ah))) (aa (au b a (aa (dv 0) (aa (au c a (aa (dv 3) ah)) ah))) ah))))))))),?_⟩
 rintro ds Q Ed ⟨a,b,rfl,h⟩;x_go;unfold dF at h;obtain⟨d,m,h⟩:=h;have o:Bd 200 1:=by unfold Bd;decide
 have n:∀(p w:Sp) (K:D->Prop),SB p->WB 62 w->K (Mz (cA p w))->c7 κ [Nf p,MA w] K λ_=>False:=λp w K e c g=>by show c7 κ [T3 1 p.1 p.2,MA w] K _;rw[o9,jj];exact⟨o,e.x.mono (by decide),e.y.mono (by decide),c.mono (by decide),g⟩
 have k:∀{w:Sp},WB 62 w->WB 62 (RF w):=λc=>⟨kj c.x,kj c.y⟩
 have j:∀{w:Sp},WB 62 w->WB 62 (QT w):=λc=>⟨kj c.y,c.x⟩
 have l:∀w:Sp,WB 62 w->Q (.lst true ([cA a w,cA b (RF w),cA a (QT w),cA a (RF (QT w))].map Mz))->j2 κ [MA w] (λe=>c7 κ [Nf a,MA w] (λx=>mf κ [MA w] (λg=>c7 κ [Nf b,aJ g] (λi=>c7 κ [Nf a,aJ e] (λg=>mf κ [aJ e] (λe=>c7 κ [Nf a,aJ e] (λe=>[x,i,g,e].length<=sizeLine/\Q (D.lst true [x,i,g,e])) λ_=>False) λ_=>False) λ_=>False) λ_=>False) λ_=>False) λ_=>False) λ_=>False:=λw c e=>by rw[nQ,hU];refine n a w _ d c ?_;rw[nh,kf,i4];refine n b _ _ m (k c) ?_;rw[i4];refine n a _ _ d (j c) ?_;rw[nh,kf,i4];exact n a _ _ d (k (j c)) ⟨sz4 _ _ _ _,e⟩
 unfold eO aO at h;lk;refine⟨(CY a).ok,(CY b).ok,?_⟩;by_cases c:a=b
 ·rw[Ml c]at h;rw[Mj (by rw[c,cI];simp)];exact⟨Ta _ _,l (1,0) ⟨by unfold Bd;decide,by unfold Bd;decide⟩ h⟩
 ·rw[Mj c]at h;rw[Ml (by rw[Jx];simpa using c)];show kL κ [T3 1 a.1 a.2,T3 1 b.1 b.2] _ _;rw[lF,iN];refine⟨o,d.x.mono (by decide),d.y.mono (by decide),o,m.x.mono (by decide),m.y.mono (by decide),?_⟩;have e:=Ee d m;unfold aO at e;rw[Mj c]at e;exact l (1*b.1 - 1*a.1,1*b.2 - 1*a.2) e h
def CZ (F:az K "bounds" "bounds" mU f fd) (C:Ny K mg κ)  (c:BJ P w K mg base κ) (d:vt P w K mg base κ) (b:mg "len" = none) (e:mg "range" = none):aM P w K mg base (CX1 P w) 3 f fd ["corners"] (aN K (o5 κ)):=by
 refine az.okN F Dr (by fin2) λ_ _ _ _ _ _ a=>⟨_,(aj (aP (aC cT (aF aV (by rfl) b OP (aa (dv 0) ah)) ae) (ao (ay (au d a (aa (ai (dv 0) ae) (aa (ai (dv 0) (bT ae)) ah))))) aG) (ao (ay (dq (by rfl) (by exact bC (osc:=ar mU) (xs:=["index"]) (ns:=["corners"]) (by decide +kernel)) (aX.cons 0 aX.nil) (cn (by rfl) e (aa (aF aV (by rfl) b OP (aa (dv 0) ah)) ah)) (λ_ _ _ _ _=>bW) (λ_ _ _ _ _=>(au c a (aa (ai (dv 1) (aq bG (dv 0) ae)) (aa (ai (dv 1) (dv 0)) ah)))))))),?_⟩
 rintro ds Q Ed ⟨a,rfl,h⟩;x_go;unfold jh at h;obtain⟨b,hl,g,h⟩:=h;unfold aK at h;have d:∀i,i<a.length->a[i]?=some (a.getD i (0,0)):=λi c=>by rw[Nz,M5 c];rfl
 have e:∀i,i<a.length->SB (a.getD i (0,0)):=λi c=>g _ (NF (d i c))
 lk;rw[Mq];by_cases c:a.length<3
 ·rw[Ml (by lia)];rw[Ml c]at h;refine⟨_,bg (j:=0) (by rw[Nj,d 0 b];rfl),_,uH (by rw[Mq];exact b) (by rw[Mq,Nj,d _ (by lia)];rfl),?_⟩;rw[gG,gG,jP,dF];exact⟨e 0 b,e _ (by lia),h⟩
 ·rw[Mj (by lia)];rw[Mj c]at h;refine PD.comp_map (List.range' 0 a.length) (λ(k:Nat)=>D.int (k:Int)) (λ_=>true) (λk=>Mz (eQ (bP a k) (a.getD k (0,0)))) (λR q=>?_) (by rw[OO,sizeLine_eq];lia) (λk i K c=>?_) (λk i _ K c=>?_) ?_
  ·lk;rw[Mq,jD];exact⟨⟨by lia,by lia⟩,q⟩
  ·lk;exact c
  ·have g:k<a.length:=by rw[RX]at i;lia
   have i:(k+a.length - 1) % a.length<a.length:=Tq _ b;have Rm:Nx (a.map Nf) ((k:Int) - 1)=some (Nf (bP a k)):=by have:=wj (a.map Nf) k 1 (by rw[Mq];exact g) (by rw[Mq];exact b);rw[Mq,Nj,d _ i]at this;exact this
   have WC:Nx (a.map Nf) (k:Int)=some (Nf (a.getD k (0,0))):=bg (by rw[Nj,d k g];rfl);have d:SB (bP a k):=e _ i;have i:=e k g;have b:Bd 200 1:=by unfold Bd;decide
   lk;refine⟨_,Rm,_,WC,?_⟩;rw[gG,gG];show j1 κ [T3 1 (bP a k).1 (bP a k).2,T3 1 (a.getD k (0,0)).1 (a.getD k (0,0)).2] _ _;rw[nP,gY];exact⟨b,d.x.mono (by decide),d.y.mono (by decide),b,i.x.mono (by decide),i.y.mono (by decide),c⟩
  ·rw[QJ.mpr (λ_ _=>rfl)];rw[NY]at h;exact h
def C3 (F:az K "length" "length" qX f fd) (C:Ny K mg κ)   (a:mg "abs" = none):aM P w K mg base (CX1 P w) 1 f fd ["way"] (aN K (ph κ)):=by
 refine az.okN F Dt (by fin2) λ_ _ _ _ _ _ hr=>⟨_,(ao (ay (aq aR (aF n9 (by rfl) a boot_abs (aa (ai (dv 0) ae) ah)) (aF n9 (by rfl) a boot_abs (aa (ai (dv 0) ae) ah))))),?_⟩
 rintro ds Q Ed ⟨w,rfl,h⟩;x_go;unfold kW at h;unfold MA;lk;exact h
def sD (F:az K "are_opposite" "are_opposite" iP f fd) (C:Ny K mg κ)  (b:BO P w K mg base κ)  : aM P w K mg base (CX1 P w) 2 f fd ["one", "other"] (aN K (ie κ)):=by
 refine az.okN F sO (by fin2) λ_ _ _ _ _ _ a=>⟨_,(ao (ay (gQ (dm cf (au b a (aa (dv 0) (aa (dv 1) ah))) ae) (lT (dm cT (aq aR (aq aD (ai (dv 0) ae) (ai (dv 1) ae)) (aq aD (ai (dv 0) ae) (ai (dv 1) ae))) ae))))),?_⟩
 rintro ds Q Ed ⟨a,b,rfl,h⟩;x_go;unfold eG at h;obtain⟨e,d,h⟩:=h;lk;refine⟨e,d,?_⟩;by_cases c:tn a b=0
 ·rw[Ml c];unfold MA;lk;refine⟨Pe e.x d.x,Pe e.y d.y,?_⟩;have e:decide (tn a b=0/\MQ a b<0)=decide (a.1*b.1+a.2*b.2<0):=by
   rw[decide_eq_decide];exact⟨λq=>q.2,λq=>⟨c,q⟩⟩
  rw[e]at h;exact h
 ·rw[Mj c];rw[SV (λq=>c q.1)]at h;exact h
def p5 (F:az K "balance_of_two" "balance_of_two" gn f fd) (C:Ny K mg κ)  (d:tG P w K mg base κ) (b:vU P w K mg base κ) (c:vV P w K mg base κ)  : aM P w K mg base (CX1 P w) 3 f fd ["one", "other"] (aN K (fM κ)):=by
 refine az.okN F p9 (by fin2) λ_ _ _ _ _ _ a=>⟨_,(aj (aP (bL (bF (au d a (aa (dv 0) (aa (dv 1) ah))))) (ao (ay ow)) aG) (ao (ay (au c a (aa (dO (aa (au b a (aa (dv 1) ah)) (aa (au b a (aa (dv 0) ah)) ah))) ah))))),?_⟩
 rintro ds Q Ed ⟨a,b,rfl,h⟩;x_go;unfold de at h;obtain⟨g,d,h⟩:=h;lk;refine⟨g,d,?_⟩;unfold lh at h;split
 ·rename_i c;rw[Ml c]at h;have i:a≠(0,0):=λe=>by have:=c.2;rw[e]at this;unfold MQ at this;simp at this
  have la:=kA i;have e:Bd 402 (bu a):=pT g;have bb:Bd 402 (bu b):=pT d;refine⟨Ta _ _,?_⟩;show jr κ [D.lst false ([bu b,bu a].map D.int)] _ _;rw[kO,gK];have g:=G4 (d:=bu b) (x:=bu a) (by lia);exact⟨by simp,by show((Int.gcd ((Int.gcd 0 (bu b):Nat):Int) (bu a):Nat):Int)≠0;lia,EG e (by lia),h⟩
 ·rename_i c;rw[Mj c]at h;exact h
def nR (F:az K "balance_of_three" "balance_of_three" c6 f fd) (C:Ny K mg κ)  (d:vV P w K mg base κ) (b:BO P w K mg base κ) (c:mg "max" = none) (e:mg "min" = none):aM P w K mg base (CX1 P w) 3 f fd ["one", "two", "three"] (aN K (et κ)):=by
 refine az.okN F d8 (by fin2) λ_ _ _ _ _ _ a=>⟨_,(aj (aE 3 d8.nd (dO (aa (au b a (aa (dv 1) (aa (dv 2) ah))) (aa (au b a (aa (dv 2) (aa (dv 0) ah))) (aa (au b a (aa (dv 0) (aa (dv 1) ah))) ah))))) (aj (aP (aC cT (aF (GG rfl) (by rfl) c boot_max (aa (dv 3) ah)) ae) (ao (gR 3 d8.nd (by rfl) (by exact bC (osc:=ar c6) (xs:=["each"]) (ns:=[]) (by decide +kernel)) aX.nil (bq (dv 3)) (λ_ _ _ _ _=>bW) (λ_ _ _ _ _=>(bT (dv 0))))) aG) (aj (aP (aC vM (aF (GH rfl) (by rfl) e boot_min (aa (dv 3) ah)) ae) (ao (ay ow)) aG) (ao (ay (au d a (aa (dv 3) ah))))))),?_⟩
 rintro ds Q Ed ⟨a,b,e,rfl,h⟩;x_go;unfold cV at h;obtain⟨g,d,c,h⟩:=h;have b1:Bd 801 (tn b e):=(d.x.mul c.y).sub (c.x.mul d.y);have b2:Bd 801 (tn e a):=(c.x.mul g.y).sub (g.x.mul c.y);have i:Bd 801 (tn a b):=(g.x.mul d.y).sub (d.x.mul g.y);unfold jC at h;generalize e1:tn b e=x at *;generalize e2:tn e a=y at *;generalize e3:tn a b=z at *;have b:∀u v w:Int,Bd 801 w->0<w->Q (.lst true ((c9 [u,v,w]).map D.int))->jr κ [D.lst false ([u,v,w].map D.int)] Q λ_=>False:=λu v w e pw q=>by
  rw[kO,gK];have a:w≠0:=by lia
  have gp:0<Int.gcd ((Int.gcd ((Int.gcd 0 u:Nat):Int) v:Nat):Int) w:=Int.gcd_pos_iff.mpr (.inr a);exact⟨by simp,by show((Int.gcd ((Int.gcd ((Int.gcd 0 u:Nat):Int) v:Nat):Int) w:Nat):Int)≠0;lia,(Cq e a).mono (by decide),q⟩
 lk;refine⟨d,c,c,g,g,d,?_⟩;rw[e1,e2,e3];refine⟨S9 _ _ _,.inr ⟨true,[x,y,z],rfl,by simp,λm c a=>?_⟩⟩;have m1:=a x (by simp);have m2:=a y (by simp);have m3:=a z (by simp);have mm:m=x∨m=y∨m=z:=by simpa using c
 split
 ·rename_i c;refine PD.comp_map [x,y,z] D.int (λ_=>true) (λk=>.int (-k)) (λR q=>?_) (by rw[sizeLine_eq];simp) (λk d K a=>?_) (λk d _ K a=>?_) ?_
  ·lk;exact q
  ·lk;exact a
  ·lk;exact a
  ·refine⟨true,[-x,-y,-z],rfl,by simp,λn d a=>?_⟩;have e:n=-x∨n=-y∨n=-z:=by simpa using d
   rw[Mj (by lia)]at h ⊢;rw[Ml (by lia)]at h;exact b _ _ _ (kj i) (by lia) h
 ·rename_i c;refine⟨true,[x,y,z],rfl,by simp,λn d a=>?_⟩;have e:n=x∨n=y∨n=z:=by simpa using d
  have n1:=a x (by simp);have n2:=a y (by simp);have n3:=a z (by simp);split
  ·rename_i d;rw[Mj (by lia),Mj (by lia)]at h;exact h
  ·rename_i d;rw[Ml (by lia)]at h;exact b _ _ _ i (by lia) h
def Bh (F:az K "balance" "balance" oR f fd) (C:Ny K mg κ)  (d:nW P w K mg base κ) (c:qw P w K mg base κ) (e:vU P w K mg base κ) (b:mg "len" = none):aM P w K mg base (CX1 P w) 4 f fd ["ways"] (aN K (nj κ)):=by
 refine az.okN F Br (by fin2) λ_ _ _ _ _ _ a=>⟨_,(aj (aP (aC cf (aF aV (by rfl) b OP (aa (dv 0) ah)) ae) (ao (ay (qC (aC cf (au e a (aa (ai (dv 0) ae) ah)) ae) (dO (aa ae ah)) ow))) aG) (aj (aP (aC cf (aF aV (by rfl) b OP (aa (dv 0) ah)) ae) (ao (ay (au c a (aa (ai (dv 0) ae) (aa (ai (dv 0) ae) ah))))) aG) (ao (ay (au d a (aa (ai (dv 0) ae) (aa (ai (dv 0) ae) (aa (ai (dv 0) ae) ah)))))))),?_⟩
 rintro ds Q Ed ⟨a,rfl,h⟩;x_go;unfold fx at h;obtain⟨c,i,g,h⟩:=h;rcases a with _|⟨a,_|⟨b,_|⟨e,_|⟨z,r⟩⟩⟩⟩
 ·simp at c
 ·have d:Q (oL (my a)):=h;unfold my at d;lk;rw[Ml (by simp)];by_cases c:bu a=0
  ·rw[Ml c]at d ⊢;exact⟨XG _,d⟩
  ·rw[Mj c]at d ⊢;exact d
 ·have d:Q (oL (lh a b)):=h;have a0:Nx [MA a,MA b] 0=some (MA a):=bg (j:=0) rfl;have a1:Nx [MA a,MA b] 1=some (MA b):=bg (j:=1) rfl;lk;rw[Mj (by simp),Ml (by simp)];exact⟨g a (by simp),g b (by simp),d⟩
 ·have d:Q (oL (jC a b e)):=h;lk;rw[Mj (by simp),Mj (by simp)];exact⟨g a (by simp),g b (by simp),g e (by simp),d⟩
 ·simp at i
  lia
def Bm (F:az K "mixture" "mixture" jo f fd) (C:Ny K mg κ)  (ON:y8 P w K mg base κ) (NH:uD P w K mg base κ) (Oo:y9 P w K mg base κ) (Nn:rG P w K mg base κ) (T:mg "len" = none):aM P w K mg base (CX1 P w) 5 f fd ["spots", "place"] (aN K (iq κ)):=by
 refine az.okN F ic (by fin2) λ_ _ _ _ _ _ y=>⟨_,(aj (aP (aC cf (aF aV (by rfl) T OP (aa (dv 0) ah)) ae) (ao qE) aG) (aj (aE 2 ic.nd (dq (by rfl) (by exact bC (osc:=ar jo) (xs:=["spot"]) (ns:=["place"]) (by decide +kernel)) (aX.cons 1 aX.nil) (bq (dv 0)) (λ_ _ _ _ _=>bW) (λ_ _ _ _ _=>(au ON y (aa (dv 1) (aa (au Nn y (aa (dv 0) ah)) ah)))))) (aj (bK PassesOwn.never rfl (Cw (bJ (aa ae (aa ae (aa ae ah))))) (aS 3 ic.nd) (ao (bK PassesOwn.never rfl (bq (au Oo y (aa (aF aV (by rfl) T OP (aa (dv 0) ah)) (aa (dv 3) ah)))) (aS 4 ic.nd) (aj (aE 5 ic.nd (au NH y (aa (dq (by rfl) (by exact bC (osc:=ar jo) (xs:=["number"]) (ns:=["ways"]) (by decide +kernel)) (aX.cons 2 aX.nil) (bq (dv 4)) (λ_ _ _ _ _=>bW) (λ_ _ _ _ _=>(ai (dv 1) (dv 0)))) ah))) (ao (aP (aC zP (dv 5) ow) (ao (ay (bJ (aa ku (aa (dv 4) (aa (dv 5) ah)))))) aG)))))) (ao qE)))),?_⟩
 rintro ds Q Ed ⟨a,d,g,e,rfl,h⟩;x_go;unfold fF at h;obtain⟨hz,hl,M,n,res,O,h⟩:=h;have o1:Bd 200 1:=by unfold Bd;decide
 have ZQ:bX (a.map (Mu (d,g,e))) (cw a.length)=bX (a.map (Mu (d,g,e))) (uc a.length 0):=by rw[Ft]
 have U:∀w∈a.map (Mu (d,g,e)),WB 400 w:=λw x=>by
  obtain⟨p,z,rfl⟩:=M4.mp x;have B:=M p z;refine⟨?_,?_⟩
  ·show Bd 400 (d*p.1 - 1*g);rw[QN];exact Bd.mono (m:=161) ((n.b.mul B.x).sub n.x) (by decide)
  ·show Bd 400 (d*p.2 - 1*e);rw[QN];exact Bd.mono (m:=161) ((n.b.mul B.y).sub n.y) (by decide)
 lk;rw[Mq,Mj (by lia)];refine PD.comp_map a MA (λ_=>true) (λp=>MA (Mu (d,g,e) p)) (λR q=>?_) (by rw[sizeLine_eq];lia) (λp z K o=>?_) (λp z _ K o=>?_) ?_
 ·lk;exact q
 ·lk;exact o
 ·have B:=M p z;lk;refine⟨p,rfl,?_⟩;show kL κ [T3 d g e,T3 1 p.1 p.2] _ _;rw[lF,iN];exact⟨n.b.mono (by decide),n.x.mono (by decide),n.y.mono (by decide),o1,B.x.mono (by decide),B.y.mono (by decide),o⟩
 rw[QJ.mpr (λ_ _=>rfl)];have em:a.map (λp=>MA (Mu (d,g,e) p))=(a.map (Mu (d,g,e))).map MA:=by rw[NY];rfl
 rw[em];have wl:(a.map (Mu (d,g,e))).length=a.length:=Mq _;generalize a.map (Mu (d,g,e))=b at *;refine PD.bo [1,2,3] (λ(k:Nat)=>D.int (k:Int)) (λj C=>∃E m l:Option Sl,C=[some (.val (.lst false (a.map MA))),some (.val (T3 d g e)),some (.val (.lst true (b.map MA))),E,m,l]/\bX b (cw a.length)=bX b (uc a.length j)) (λR q=>?_) ⟨none,none,none,rfl,ZQ⟩ ?_ ?_
 ·lk;exact⟨S9 _ _ _,q⟩
 ·rintro j s H A ⟨E,m,l,rfl,c⟩;have G:j<3/\s=j+1:=by
   rcases j with _|_|_|j
   ·simp at A;lia
   ·simp at A;lia
   ·simp at A;lia
   ·simp at A
  obtain⟨G,rfl⟩:=G;rw[Dm _ G]at c;lk;refine PD.bo (Ng a.length (j+1)) Pk (λi C=>∃m l:Option Sl,C=[some (.val (.lst false (a.map MA))),some (.val (T3 d g e)),some (.val (.lst true (b.map MA))),some (.val (.int ((j+1:Nat):Int))),m,l]/\bX b (cw a.length)=bX b ((Ng a.length (j+1)).drop i++uc a.length (j+1))) (λR q=>?_) ⟨m,l,rfl,c⟩ ?_ ?_
  ·lk;exact⟨a.length,j+1,by rw[Mq],rfl,by lia,by lia,Pa (Nat.pow_le_pow_left hl (j+1)) (Pa (Vv (by decide) (show j+1<=3 by lia)) (by decide)),q⟩
  ·rintro i r H L ⟨m,l,rfl,c⟩;obtain⟨UI,ei⟩:=Nk.mp L;rw[UK UI,ei,PQ,CP]at c;obtain⟨Y,J⟩:=gJ (NF L);have N:∀k,k<b.length->b[k]?=some (b.getD k (0,0)):=λk t=>by
    rw[Nz,M5 t];rfl
   lk;refine PD.comp_map r (λ(k:Nat)=>D.int (k:Int)) (λ_=>true) (λk=>MA (b.getD k (0,0))) (λR q=>?_) (by rw[sizeLine_eq];lia) (λk t K o=>?_) (λk t _ K o=>?_) ?_
   ·unfold Pk;lk;exact q
   ·lk;exact o
   ·lk;exact⟨_,bg (by rw[Nj,N k (by have:=J k t;lia)];rfl),o⟩
   rw[QJ.mpr (λ_ _=>rfl)];have ep:r.map (λk=>MA (b.getD k (0,0)))=(QH b r).map MA:=by unfold QH;rw[NY];rfl
   have lp:(QH b r).length=j+1:=by unfold QH;rw[Mq,Y]
   rw[ep,bE,fL,jK,fx];refine⟨by lia,by lia,λw x=>?_,?_⟩
   ·unfold QH at x;obtain⟨k,t,rfl⟩:=M4.mp x;exact U _ (NF (N k (by have:=J k t;lia)))
   ·cases WZ:dZ (QH b r)with
    |none =>
     rw[WZ]at c;rw[Mj (show¬i6 (oL none)=false by decide)];exact⟨_,_,rfl,c⟩
    |some I =>
     rw[WZ]at c;have u:bX b (cw a.length)=some (r,I):=c;rw[O]at u;cases u;rw[Ml (show i6 (oL (some I))=false from rfl)];exact⟨S9 _ _ _,h⟩
  ·rintro H ⟨m,l,rfl,c⟩;rw[List.drop_length,QV]at c;exact⟨_,_,_,rfl,c⟩
 ·rintro H ⟨E,m,l,rfl,c⟩;have u:bX b (cw a.length)=none:=c;rw[O]at u;cases u
def qM (F:az K "place_between" "place_between" h8 f fd) (C:Ny K mg κ)  (c:Gw P w K mg base κ) (b:za P w K mg base κ)  : aM P w K mg base (CX1 P w) 4 f fd ["one", "other", "gauge"] (aN K (dN κ)):=by
 refine az.okN F gA (by fin2) λ_ _ _ _ _ _ a=>⟨_,(aj (aE 3 gA.nd (au b a (aa (dv 2) (aa (dv 0) ah)))) (aj (aE 4 gA.nd (au b a (aa (dv 2) (aa (dv 1) ah)))) (ao (ay (au c a (aa (aq bG (aq aD (dv 4) (ai (dv 0) ae)) (aq aD (dv 3) (ai (dv 1) ae))) (aa (aq bG (aq aD (dv 4) (ai (dv 0) ae)) (aq aD (dv 3) (ai (dv 1) ae))) (aa (aq bG (aq aD (dv 4) (ai (dv 0) ae)) (aq aD (dv 3) (ai (dv 1) ae))) ah)))))))),?_⟩
 rintro ds Q Ed ⟨z,y,j,u,t,s,q,p,o,rfl,h⟩;x_go;unfold cQ at h;obtain⟨g,e,d,c,b,a,l,n,k,r,h⟩:=h;have m:∀{x:Int},Bd 200 x->Bd 1000 x:=λh=>h.mono (by decide)
 have i:Bd 402 (q*z+p*y+o*j):=((l.mul g).add (n.mul e)).add ((k.mul d).mono (by decide));have j:Bd 402 (q*u+p*t+o*s):=((l.mul c).add (n.mul b)).add ((k.mul a).mono (by decide));lk;refine⟨m l,m n,m k,m g,m e,m d,m l,m n,m k,m c,m b,m a,Pe j g,Pe i c,Pe j e,Pe i b,Pe j d,Pe i a,r,?_,?_,?_,?_⟩
 ·exact((j.mul g).sub (i.mul c)).mono (by decide)
 ·exact((j.mul e).sub (i.mul b)).mono (by decide)
 ·exact((j.mul d).sub (i.mul a)).mono (by decide)
 ·exact h
def Bi (F:az K "clipped" "clipped" kY f fd) (C:Ny K mg κ)  (e:rF P w K mg base κ) (a:IE P w K mg base κ) (d:mg "len" = none) (b:mg "range" = none):aM P w K mg base (CX1 P w) 5 f fd ["corners", "gauge"] (aN K (ig κ)):=by
 refine az.okN F h9 (by fin2) λ_ _ _ _ _ _ c=>⟨_,(aj (lU 2 h9.nd ah) (aj (bK PassesOwn.never rfl (cn (by rfl) b (aa (aF aV (by rfl) d OP (aa (dv 0) ah)) ah)) (aS 3 h9.nd) (aj (aE 4 h9.nd (ai (dv 0) (aq bG (dv 3) ae))) (aj (aE 5 h9.nd (ai (dv 0) (dv 3))) (aj (aP (aC cT (aq aD (au a c (aa (dv 1) (aa (dv 4) ah))) (au a c (aa (dv 1) (aa (dv 5) ah)))) ae) (ao (jd 2 (au e c (aa (dv 4) (aa (dv 5) (aa (dv 1) ah)))))) aG) (ao (aP (aC vL (au a c (aa (dv 1) (aa (dv 5) ah))) ae) (ao (jd 2 (dv 5))) aG)))))) (fk 2 (ao (ay (dq (by rfl) (by exact bC (osc:=ar kY) (xs:=["index"]) (ns:=["kept"]) (by decide +kernel)) (aX.cons 2 aX.nil) (cn (by rfl) b (aa (aF aV (by rfl) d OP (aa (dv 2) ah)) ah)) (λ_ _ _ _ _=>(DK (aC (E4 (by exact c.units)) (ai (dv 1) (dv 0)) (QS.Ub (qD (dv 1) dw (gH (dv 0))))))) (λ_ _ _ _ _=>(ai (dv 1) (dv 0))))))))),?_⟩
 rintro ds Q Ed ⟨a,g,d,b,rfl,h⟩;x_go;unfold fy at h;obtain⟨hl,t,A,B,y,h⟩:=h;have m:∀{x:Int},Bd 200 x->Bd 1000 x:=λh=>h.mono (by decide)
 have u:∀p∈a,Bd 200 p.1/\Bd 200 p.2.1/\Bd 200 p.2.2:=λp e=>⟨(t p e).2.b.mono (by decide),(t p e).2.x.mono (by decide),(t p e).2.y.mono (by decide)⟩
 have s:∀{i:yaw} {k:Nat} {p:Tr},i[k]?=some p->Nx (i.map Mz) (k:Int)=some (Mz p):=fun {i k p} e=>bg (by rw[Nj,e];rfl)
 lk;refine⟨N9 _,?_⟩;refine PD.bo (List.range' 0 a.length) (λ(k:Nat)=>D.int (k:Int)) (λj e=>∃r o n:Option Sl,e=[some (.val (.lst false (a.map Mz))),some (.val (T3 g d b)),some (.own ((aH (g,d,b) (cW (g,d,b)) (a.getLastD (0,0,0)) (a.take j)).map Mz)),r,o,n]) (λR q=>?_) ⟨none,none,none,rfl⟩ ?_ ?_
 ·lk;rw[Mq,jD];exact⟨⟨by lia,by lia⟩,q⟩
 ·rintro j k Mr l ⟨r,o,n,rfl⟩;obtain⟨e,i⟩:=Nk.mp l;rw[OO]at e;rw[UO,QM,VF]at i;subst i;have N:a[j]?=some a[j]:=M5 e;have U:Nx (a.map Mz) ((j:Int) - 1)=some (Mz ((a.take j).getLastD (a.getLastD (0,0,0)))):=by
   have:=wj (a.map Mz) j 1 (by rw[Mq];exact e) (by rw[Mq];lia);rw[show((j:Int) - 1)=((j:Int) - ((1:Nat):Int))from rfl,this,Mq,Nj];have i:a[(j+a.length - 1) % a.length]?=some ((a.take j).getLastD (a.getLastD (0,0,0))):=by
    cases j with
    |zero =>
     have:(0+a.length - 1) % a.length=a.length - 1:=by rw[QM];exact Pm (by lia)
     rw[this,List.take_zero,List.getLastD_nil,<- zDe,X5];cases hq:a.getLast? with
     |none=>rw[X4]at hq;rw[hq]at e;exact absurd e (by simp)
     |some z=>rfl
    |succ j =>
     have:(j+1+a.length - 1) % a.length=j:=by rw[show j+1+a.length - 1=j+a.length by lia,Xl];exact Pm (by lia)
     rw[this,X5,List.getLast?_take];simp;rw[M5 (by lia)];rfl
   rw[i];rfl
  have G:(a.take j).getLastD (a.getLastD (0,0,0))∈a:=by
   rw[X5];cases hq:(a.take j).getLast? with
   |some z=>exact(List.take_sublist j a).subset (List.mem_of_getLast? hq)
   |none =>
    rw[Option.getD_none,X5];cases c:a.getLast? with
    |some z=>exact List.mem_of_getLast? c
    |none=>rw[X4]at c;rw[c]at e;exact absurd e (by simp)
  have C:=rB (g,d,b) (cW (g,d,b)) (a.take j) (a.getLastD (0,0,0));have tl:(a.take j).length<=a.length:=by rw[RZ];lia
  have l:=DW (g,d,b) (cW (g,d,b)) (a.getLastD (0,0,0)) (a.take j) a[j];rw[show a.take j++[a[j]]=a.take (j+1)by rw[UU,N];rfl]at l;generalize (a.take j).getLastD (a.getLastD (0,0,0))=p at U G l;have E:a[j]∈a:=Rf _;generalize Pt:a[j]=c at N E l;generalize aH (g,d,b) (cW (g,d,b)) (a.getLastD (0,0,0)) (a.take j)=K at C l ⊢;obtain⟨T,Q,O⟩:=u p G;obtain⟨M,L,J⟩:=u c E;have Y:K.length<=600000:=by lia
  have u:∀(e:yaw) (I H:D),e.length<=600001->aH (g,d,b) (cW (g,d,b)) (a.getLastD (0,0,0)) (a.take (j+1))=e++(if 0<=Mg (g,d,b) c then[c]else[])->iY κ [T3 g d b,Mz c] (λx=>gW (λi j=>D.bl (decide (j<=i))) x (D.int 0) λx=>∃k,x=D.bl k/\if k=true then(e.map Mz).length<sizeLine/\∃r o n:Option Sl,([some (.val (.lst false (a.map Mz))),some (.val (T3 g d b)),some (.own (e.map Mz++[Mz c])),some (.val (.int j)),some (.val I),some (.val H)]:Ro)=[some (.val (.lst false (a.map Mz))),some (.val (T3 g d b)),some (.own ((aH (g,d,b) (cW (g,d,b)) (a.getLastD (0,0,0)) (a.take (j+1))).map Mz)),r,o,n]else∃r o n:Option Sl,([some (.val (.lst false (a.map Mz))),some (.val (T3 g d b)),some (.own (e.map Mz)),some (.val (.int j)),some (.val I),some (.val H)]:Ro)=[some (.val (.lst false (a.map Mz))),some (.val (T3 g d b)),some (.own ((aH (g,d,b) (cW (g,d,b)) (a.getLastD (0,0,0)) (a.take (j+1))).map Mz)),r,o,n]) λ_=>False:=λe I H Y e=>by
   show iY κ [T3 g d b,T3 c.1 c.2.1 c.2.2] _ _;rw[j4,iO,e];refine⟨m A,m B,m y,m M,m L,m J,?_⟩;rw[eW];refine⟨_,rfl,?_⟩;have i:(0<=sg (g*c.1+d*c.2.1+b*c.2.2))↔0<=Mg (g,d,b) c:=Kv _;by_cases q:0<=Mg (g,d,b) c
   ·rw[Ml q,Ml (R3 (i.mpr q))];exact⟨by rw[Mq,sizeLine_eq];lia,_,_,_,by rw[OC];rfl⟩
   ·rw[Mj q,Mj (by rw[decide_eq_true_eq];exact λz=>q (i.mp z)),Tn];exact⟨_,_,_,rfl⟩
  lk;refine⟨_,U,_,s N,?_⟩;rw[da,da];show iY κ [T3 g d b,T3 p.1 p.2.1 p.2.2] _ _;rw[j4,iO];refine⟨m A,m B,m y,m T,m Q,m O,?_⟩;show iY κ [T3 g d b,T3 c.1 c.2.1 c.2.2] _ _;rw[j4,iO];refine⟨m A,m B,m y,m M,m L,m J,?_⟩;have i:(sg (g*p.1+d*p.2.1+b*p.2.2)*sg (g*c.1+d*c.2.1+b*c.2.2)<0)↔Mg (g,d,b) p*Mg (g,d,b) c<0:=Ku _ _;have j:∀x:Int,Bd 64 (sg x):=λx=>by unfold sg Bd;split;exact(by decide);split<;>decide
  rw[zW,eW];refine⟨.inl (j _),_,rfl,?_⟩;by_cases q:Mg (g,d,b) p*Mg (g,d,b) c<0
  ·rw[Ml (R3 (i.mpr q))];rw[Ml q]at l;show dN κ [T3 p.1 p.2.1 p.2.2,T3 c.1 c.2.1 c.2.2,T3 g d b] _ _;rw[iw,cQ];refine⟨T,Q,O,M,L,J,A,B,y,?_,by rw[Mq,sizeLine_eq];lia,?_⟩
   ·rcases yp (t p G).1 (t c E).1 q with⟨_,_,z⟩| ⟨_,_,z⟩<;>exact λe=>by rw[e]at z;exact SY _ z
   ·have:=u (K++[cW (g,d,b) p c]) (Mz p) (Mz c) (by simp;lia) (by rw[l,Ss]);rw[OC]at this;exact this
  ·rw[Mj (by rw[decide_eq_true_eq];exact λz=>q (i.mp z))];rw[Mj q,QV]at l;exact u K (Mz p) (Mz c) (by lia) l
 ·rintro Mr ⟨r,o,n,rfl⟩;rw[OO,SR];have C:=rB (g,d,b) (cW (g,d,b)) a (a.getLastD (0,0,0));have c:fh (g,d,b) a=Qn [] (aH (g,d,b) (cW (g,d,b)) (a.getLastD (0,0,0)) a):=by
   unfold fh;cases hq:a.getLast? with
   |none =>
    rw[X4]at hq;subst hq;rfl
   |some z=>rw[X5,hq];rfl
  rw[c]at h;generalize aH (g,d,b) (cW (g,d,b)) (a.getLastD (0,0,0)) a=K at C h ⊢;have d:∀k,k<K.length->K[k]?=some (K.getD k (0,0,0)):=λk a=>by rw[Nz,M5 a];rfl
  have g:∀k,k<=K.length->PD.cutD (K.map Mz) none (some (k:Int))=(K.take k).map Mz:=λk a=>by unfold PD.cutD;rw[HT.Fy,HT.HY,List.drop_zero,Nat.sub_zero,Mq,Nat.min_eq_left a,List.map_take]
  have e:∀(l:yaw) (x:Tr),(l.map Mz).any (λz=>eqD z (Mz x))=l.any λy=>decide (y=x):=λl x=>by
   rw[List.any_map];congr 1
   funext y
   exact Jy y x
  lk;refine PD.comp_map (List.range' 0 K.length) (λ(k:Nat)=>D.int (k:Int)) (λk=>!(K.take k).any λy=>decide (y=K.getD k (0,0,0))) (λk=>Mz (K.getD k (0,0,0))) (λR q=>?_) (by rw[OO,sizeLine_eq];lia) (λk a c b=>?_) (λk a _ c b=>?_) ?_
  ·lk;rw[Mq,jD];exact⟨⟨by lia,by lia⟩,q⟩
  ·have c:k<K.length:=by rw[RX]at a;lia
   lk;refine⟨_,s (d k c),?_⟩;rw[g k (by lia)];refine⟨?_,?_⟩
   ·exact(pU _).okI
   ·exact⟨(Nm.map pU).ok,_,.inr ⟨_,rfl⟩,_,rfl,by rw[e];exact b⟩
  ·have c:k<K.length:=by rw[RX]at a;lia
   lk;exact⟨_,s (d k c),b⟩
  ·have a:=wU (0,0,0) K [];rw[List.length_nil,QV]at a;rw[<- a,NY]at h;exact h
def C1 (F:az K "common" "common" qV f fd) (C:Ny K mg κ)  (b:uE P w K mg base κ)  : aM P w K mg base (CX1 P w) 6 f fd ["corners", "gauges"] (aN K (o7 κ)):=by
 refine az.okN F oX (by fin2) λ_ _ _ _ _ _ a=>⟨_,(aj (bK PassesOwn.never rfl (bq (dv 1)) (aS 2 oX.nd) (ao (aE 0 oX.nd (au b a (aa (dv 0) (aa (dv 2) ah)))))) (ao (ay (dv 0)))),?_⟩
 rintro ds Q Ed ⟨b,a,rfl,h⟩;x_go;unfold ji at h;obtain⟨k,hg,e,i,h⟩:=h;lk;refine PD.bo a Mz (λj c=>∃(t:Bool) (v:Option Sl),(0<j->t=true)/\c=[some (.val (.lst t ((aU (a.take j) b).map Mz))),some (.val (.lst false (a.map Mz))),v]) (λR q=>?_) ⟨false,none,λq=>absurd q (by lia),rfl⟩ ?_ ?_
 ·lk;exact q
 ·rintro j g p c ⟨t,v,d,rfl⟩;obtain⟨n,eg⟩:=Nk.mp c;obtain⟨m,l⟩:=e j n;obtain⟨o,n,e⟩:=i g (NF c);lk;show ig κ [.lst false ((aU (a.take j) b).map Mz),T3 g.1 g.2.1 g.2.2] _ _;rw[jL,fy];refine⟨m,l,o,n,e,?_⟩;have e:aU (a.take (j+1)) b=fh g (aU (a.take j) b):=by
   unfold aU;rw[UU,c];simp[List.foldl_append]
  exact⟨true,_,λ_=>rfl,by rw[e]⟩
 ·rintro p ⟨t,v,d,rfl⟩;rw[SR,d k];lk;exact h
def tY (F:az K "last_needed" "last_needed" jG f fd) (C:Ny K mg κ)  (b:uE P w K mg base κ) (c:mg "len" = none):aM P w K mg base (CX1 P w) 6 f fd ["corners", "gauges"] (aN K (iT κ)):=by
 refine az.okN F fJ (by fin2) λ_ _ _ _ _ _ a=>⟨_,(aj (aE 2 fJ.nd (bT ae)) (aj (mF PassesOwn.never (aC mQ (aF aV (by rfl) c OP (aa (dv 0) ah)) ae) (aj (Jr 2 fJ.nd ae JR) (ao (aE 0 fJ.nd (au b a (aa (dv 0) (aa (ai (dv 1) (dv 2)) ah))))))) (ao (ay (dv 2))))),?_⟩
 rintro ds Q Ed ⟨g,b,rfl,h⟩;x_go;unfold fz at h;obtain⟨hg,e,i,a,hl,d,k,h⟩:=h;lk;refine⟨λm c=>∃(j:Nat) (t:Bool),j<=a+1/\m=a+1 - j/\c=[some (.val (.lst t ((aU (b.take j) g).map Mz))),some (.val (.lst false (b.map Mz))),some (.val (.int ((j:Int) - 1)))],⟨_,0,false,by lia,rfl,rfl⟩,?_⟩;rintro m c ⟨j,t,hj1,rfl,rfl⟩;lk;rw[Mq];by_cases c:j=a+1
 ·subst c;rw[k,Mj (by simp)];rw[show(((a+1:Nat):Int) - 1)=(a:Int)by lia];exact h
 ·have c:=d j (by lia);rw[Ml (by have:=Z9.mpr c;lia)];obtain⟨k,h⟩:=e j (by lia);have c:b[j]?=some (b[j]'(by lia)):=M5 _;have d:=i _ (Rf (show j<b.length by lia));refine⟨_,rfl,?_⟩;lk;have e:Nx (b.map Mz) (j:Int)=some (Mz (b[j]'(by lia))):=bg (by rw[Nj,c];rfl);rw[show((j:Int) - 1+1)=(j:Int)by lia];refine⟨_,e,?_⟩;rw[da];show ig κ [.lst false ((aU (b.take j) g).map Mz),T3 (b[j]'(by lia)).1 (b[j]'(by lia)).2.1 (b[j]'(by lia)).2.2] _ _;rw[jL,fy];refine⟨k,h,d.1,d.2.1,d.2.2,a+1 - (j+1),by lia,j+1,true,by lia,rfl,?_⟩;rw[wD c,show(((j+1:Nat):Int) - 1)=(j:Int)by lia]
def yP (F:az K "constant" "constant" jX f fd) (C:Ny K mg κ)   (a:mg "sum" = none) (b:mg "zip" = none):aM P w K mg base (CX1 P w) 1 f fd ["gauges", "numbers", "shares"] (aN K (lK κ)):=by
 refine az.okN F yW (by fin2) λ_ _ _ _ _ _ hr=>⟨_,(ao (ay (aF (B5 rfl) (by rfl) a boot_sum (aa (wV (by rfl) (by exact bC (osc:=ar jX) (xs:=["number", "share"]) (ns:=["gauges"]) (by decide +kernel)) (aX.cons 0 aX.nil) (.cons (.cons .nil)) (oE (by rfl) b (aa (dv 1) (aa (dv 2) ah))) (λ_ _ _ _ _=>bW) (λ_ _ _ _ _=>(aq aD (ai (ai (dv 2) (dv 0)) ae) (dv 1)))) ah)))),?_⟩
 rintro ds Q Ed ⟨c,ns,i,rfl,h⟩;x_go;unfold fR at h;obtain⟨d,rfl,ln,l3,a,o,m,h⟩:=h;have l:∀k∈d,c[k]?=some (c.getD k (0,0,0)):=λk g=>by rw[Nz,M5 (a k g)];rfl
 lk;refine PD.og (d.zip i) (λz=>[.int ((z.1:Nat):Int),.int z.2]) (λ_=>true) (λz=>.int ((c.getD z.1 (0,0,0)).1*z.2)) (λR q=>?_) (by rw[Xu,sizeLine_eq];lia) (λ_=>rfl) (λz j K g=>?_) (λz j _ K g=>?_) ?_
 ·lk;have e:=uB d i;rw[NY];rw[show(List.map ((λn=>D.int n)∘λ(k:Nat)=>(k:Int)) d)=d.map (λ(k:Nat)=>D.int (k:Int))from rfl,e];exact q
 ·lk;exact g
 ·have e:=VA (a:=z.1) (b:=z.2) j;have Rm:Nx (c.map Mz) ((z.1:Nat):Int)=some (Mz (c.getD z.1 (0,0,0))):=bg (by rw[Nj,l z.1 e.1];rfl);lk;refine⟨_,Rm,?_⟩;have a:=o _ (NF (l z.1 e.1));rw[show Mz (c.getD z.1 (0,0,0))=D.tup [.int (c.getD z.1 (0,0,0)).1,.int (c.getD z.1 (0,0,0)).2.1,.int (c.getD z.1 (0,0,0)).2.2]from rfl];lk;exact⟨Pe a (m _ e.2),g⟩
 rw[QJ.mpr (λ_ _=>rfl)];refine⟨true,(d.zip i).map λz=>(c.getD z.1 (0,0,0)).1*z.2,by rw[NY];rfl,?_⟩;exact h
def Hv (F:az K "bars" "bars" sL f fd) (C:Ny K mg κ)  (d:uD P w K mg base κ) (c:Aw P w K mg base κ) (e:vn P w K mg base κ) (b:y9 P w K mg base κ) (g:mg "list" = none) (h:mg "zip" = none):aM P w K mg base (CX1 P w) 7 f fd ["corners", "gauges"] (aN K (uo κ)):=by
 refine az.okN F md (by fin2) λ_ _ _ _ _ _ a=>⟨_,(aj (aE 2 md.nd (au e a (aa (dv 0) (aa (dv 1) ah)))) (ao (bK PassesOwn.never rfl (bq (aq aR (au b a (aa (dv 2) (aa ae ah))) (au b a (aa (dv 2) (aa ae ah))))) (aS 3 md.nd) (aj (aE 4 md.nd (aq aR (dv 3) (dO (aa (dv 2) ah)))) (aj (aE 5 md.nd (au d a (aa (dq (by rfl) (by exact bC (osc:=ar sL) (xs:=["number"]) (ns:=["gauges"]) (by decide +kernel)) (aX.cons 1 aX.nil) (bq (dv 4)) (λ_ _ _ _ _=>bW) (λ_ _ _ _ _=>(rM (ai (dv 1) (dv 0)) (gH ae) dw))) ah))) (ao (aP (PU.pt (w6 (aC zP (dv 5) ow) (tR (aC cT (au c a (aa (dv 1) (aa (dv 4) (aa (dv 5) ah)))) ae)))) (ao (ay ((AZ rfl (by rfl) g (by rfl) h (aa (dv 4) (aa (dv 5) ah)))).Ub)) aG))))))),?_⟩
 rintro ds Q Ed ⟨k,l,rfl,h⟩;x_go;unfold ma at h;obtain⟨e,d,p,a,g,c,i,r,b,h⟩:=h;lk;refine⟨e,d,p,a,g,c,i,?_⟩;have c:∀i,i<=2->(Ng a i).length<=1000000:=λi d=>Pa (tW a i) (Pa (Nat.pow_le_pow_left (show a<=1000 by lia) i) (Pa (Vv (by decide) d) (by decide)))
 refine PD.bo (Ng a 1++Ng a 2) Pk (λj d=>∃n m i:Option Sl,gN l a ((Ng a 1++Ng a 2).drop j)=some r/\d=[some (.val (.lst false (k.map Mz))),some (.val (.lst false (l.map Mz))),some (.val (.int (a:Int))),n,m,i]) (λR q=>?_) ⟨none,none,none,b,rfl⟩ ?_ ?_
 ·lk;have e:=OC (f:=Pk) (l₁:=Ng a 1) (l₂:=Ng a 2);rw[e]at q;refine⟨a,1,rfl,rfl,by lia,by decide,by rw[Nat.pow_one];lia,a,2,rfl,rfl,by lia,by decide,Pa (Nat.pow_le_pow_left (show a<=1000 by lia) 2) (by decide),?_,q⟩;have:=c 1 (by decide);have:=c 2 (by decide);rw[Mq,Mq,sizeLine_eq]
  lia
 ·rintro j o r b ⟨n,m,i,d,rfl⟩;obtain⟨e,c⟩:=Nk.mp b;rw[UK e,c]at d;obtain⟨l2,e⟩:=Gf (NF b);have lt':∀k∈o++[a],k<l.length:=λk c=>by
   rcases Nu.mp c with q|q
   ·have:=e k q;lia
   ·rw[Oy.mp q];exact g
  have j:∀k∈o++[a],l[k]?=some (l.getD k (0,0,0)):=λk c=>by rw[Nz,M5 (lt' k c)];rfl
  have b:(o.map λ(k:Nat)=>D.int (k:Int))++[D.int (a:Int)]=(o++[a]).map λ(k:Nat)=>D.int (k:Int):=by rw[OC];rfl
  unfold Pk;lk;have lo:(o++[a]).length<=3:=by rw[Od,Vu];lia
  refine⟨XG _,by rw[Mq,sizeLine_eq];show _+1<=_;lia,?_⟩;rw[b];refine PD.comp_map (o++[a]) (λ(k:Nat)=>D.int (k:Int)) (λ_=>true) (λk=>MA (vc (l.getD k (0,0,0)))) (λR q=>?_) (by rw[sizeLine_eq];lia) (λk c K b=>?_) (λk c _ K b=>?_) ?_
  ·lk;exact q
  ·lk;exact b
  ·lk;have e:Nx (l.map Mz) ((k:Nat):Int)=some (Mz (l.getD k (0,0,0))):=bg (by rw[Nj,j k c];rfl);exact⟨_,e,_,rfl,by show¬(HT.MZ 3 0 (some 1)=0/\_);exact λz=>absurd z.1 (by decide),b⟩
  rw[QJ.mpr (λ_ _=>rfl)];have q:(o++[a]).map (λk=>MA (vc (l.getD k (0,0,0))))=(Q8 l (o++[a])).map MA:=by unfold Q8;rw[NY];rfl
  have g:(Q8 l (o++[a])).length=(o++[a]).length:=by unfold Q8;rw[Mq]
  have e:∀w∈Q8 l (o++[a]),WB 400 w:=λw b=>by obtain⟨k,c,rfl⟩:=M4.mp b;have b:=p _ (NF (j k c));exact⟨b.2.1.mono (by decide),b.2.2.mono (by decide)⟩
  rw[q,bE,fL,jK,fx];refine⟨by rw[g];simp,by lia,e,?_⟩;unfold gN at d;cases WZ:dZ (Q8 l (o++[a]))with
  |none =>
   rw[WZ]at d;rw[Mj (show¬i6 (oL none)=false by decide)];exact⟨_,_,_,d,rfl⟩
  |some b =>
   rw[WZ]at d;have B:=nY (by lia) WZ;have j:=wq e (by lia) WZ;have e:(o++[a]).length=b.length:=by rw[B.len,g]
   have g:(o++[a]).map (λ(k:Nat)=>D.int (k:Int))=((o++[a]).map λ(k:Nat)=>(k:Int)).map D.int:=by rw[NY];rfl
   rw[Ml (show i6 (oL (some b))=false from rfl)];have c:aJ (oL (some b))=.lst false (b.map D.int):=by show aJ (.lst true (b.map D.int))=_;rw[bE,fW]
   rw[c];have c:bf ((o++[a]).map (λ(k:Nat)=>D.int (k:Int)))=((o++[a]).map λ(k:Nat)=>(k:Int)).map D.int:=by rw[g,fW]
   rw[c,mi,fR];refine⟨o++[a],rfl,e,lo,lt',λg c=>(p g c).1,j,?_⟩;rw[eW];refine⟨_,rfl,?_⟩;by_cases c:qz l (o++[a]) b<0
   ·dsimp only at d;rw[Ml c]at d;cases d;rw[Ml (R3 c)];refine⟨_,_,true,true,_,_,rfl,rfl,rfl,by rw[Mq,Mq];exact e,by rw[Mq];lia,?_⟩;rw[uB];exact h
   ·dsimp only at d;rw[Mj c]at d;rw[Mj (by rw[decide_eq_true_eq];exact c)];exact⟨_,_,_,d,rfl⟩
 ·rintro r ⟨n,m,i,d,rfl⟩;rw[List.drop_length]at d;cases d
def sG (F:az K "owned_gauges" "owned_gauges" fH f fd) (C:Ny K mg κ)  (b:D5 P w K mg base κ) (c:BK P w K mg base κ) (d:mg "enumerate" = none):aM P w K mg base (CX1 P w) 4 f fd ["lists"] (aN K (ir κ)):=by
 refine az.okN F eK (by fin2) λ_ _ _ _ _ _ a=>⟨_,(aj (lU 1 eK.nd ah) (aj (bK PassesOwn.never rfl (G7 (by rfl) d (aa (dv 0) ah)) (je (n:=2) rfl (cC (aS 2 eK.nd) (cC (aS 3 eK.nd) iJ))) (ao (uS 1 (dq (by rfl) (by exact bC (osc:=ar fH) (xs:=["gauge"]) (ns:=["index"]) (by decide +kernel)) (aX.cons 2 aX.nil) (bq (au b a (aa (au c a (aa (dv 3) ah)) ah))) (λ_ _ _ _ _=>bW) (λ_ _ _ _ _=>(bJ (aa (dv 1) (aa (dv 0) ah)))))))) (fk 1 (ao (ay (dv 1)))))),?_⟩
 rintro ds Q Ed ⟨a,rfl,h⟩;x_go;unfold eJ at h;obtain⟨L,h⟩:=h;lk;refine⟨N9 _,?_⟩;refine PD.bo (List.range' 0 a.length) (λ(k:Nat)=>D.tup [.int (k:Int),aW (a.getD k [])]) (λj c=>∃(b:yat) (n m:Option Sl),bS b (a.take j)/\c=[some (.val (.lst false (a.map aW))),some (.own ((aT 0 b).map N7)),n,m]) (λR q=>?_) ⟨[],none,none,True.intro,rfl⟩ ?_ ?_
 ·lk;refine⟨_,_,rfl,?_⟩;rw[A4 aW []];exact q
 ·rintro j k x e ⟨b,n,m,rk,rfl⟩;obtain⟨d,c⟩:=Nk.mp e;rw[OO]at d;rw[UO,QM,VF]at c;subst c;have s:a[j]?=some a[j]:=M5 d;have c:a.getD j []=a[j]:=by rw[Nz,s];rfl
  have k:a[j]∈a:=Rf _;rw[c];generalize Tg:a[j]=d at s k;have t:b.length=j:=by rw[rk.len,RZ];lia
  have ol:(aT 0 b).length<=64*b.length:=oK _ 0 λc e=>by
   obtain⟨g,i,r⟩:=rk.ex c e;have e:=(List.take_sublist j a).subset i;have:=(dH r).len;have:=L.le g e;have:=mB (aQ c)
   lia
  have l8:=L.l8;lk;refine B8 (P:=λa:yaw=>∃c,cS c d/\a=aK (aQ c)/\a.length<1000) Mz (λ_=>true) (λg=>N7 ((j:Int),g)) (λR u=>?_) (λa i=>by obtain⟨_,_,_,q⟩:=i;rw[sizeLine_eq];lia) (λa i g e K o=>?_) (λa i g e K o=>?_) λa i=>?_
  ·lk;have q:=L.le d k;have e:∀p∈d,SB p:=λp a=>((L.bd d k p a).mono (by decide)).sb
   show mj κ [.lst false (d.map MA)] _ _;rw[nu,kg];refine⟨by lia,e,λc l hyl=>?_⟩;have g:=dH l;have hh:=g.len;have sb:∀p∈aQ c,SB p:=λp a=>e p (g.mem p a)
   have p:0<(aQ c).length:=by obtain⟨a,r,e,_⟩:=g.RE (UL (L.ne d k));rw[e];simp
   have bl:=mB (aQ c);rw[bE,nG,o6,jh];exact⟨p,by lia,sb,_,_,rfl,u _ ⟨c,l,rfl,by lia⟩⟩
  ·lk;exact o
  ·lk;exact⟨Ta _ _,o⟩
  ·obtain⟨c,l,rfl,q⟩:=i;rw[QJ.mpr (λ_ _=>rfl)];refine⟨_,rfl,by rw[Mq,Mq,sizeLine_eq];lia,b++[c],some (.val (.int (j:Int))),some (.val (aW d)),?_,?_⟩
   ·rw[UU,s];exact rk.snoc l
   ·rw[sH,OC,t,QM,NY];rfl
 ·rintro x ⟨b,n,m,rk,rfl⟩;rw[OO,SR]at rk;lk;exact h b rk
def yO (F:az K "bar_rows" "bar_rows" jW f fd) (C:Ny K mg κ)  (b:vW P w K mg base κ) (c:mg "sorted" = none):aM P w K mg base (CX1 P w) 2 f fd ["owned", "shares"] (aN K (lJ κ)):=by
 refine az.okN F fV (by fin2) λ_ _ _ _ _ _ a=>⟨_,(aj (Cj 2 fV.nd) (aj (bK PassesOwn.never rfl (bq (dv 1)) (je (n:=2) rfl (cC (aS 3 fV.nd) (cC (aS 4 fV.nd) iJ))) (aj (aE 5 fV.nd (ai (ai (dv 0) (dv 3)) ae)) (ao (GR 2 (by exact A8 a) (dv 5) (au b a (aa (GP 2 (by exact A8 a) (dv 5) (bJ (aa ae (aa ae (aa ae ah))))) (aa (ai (ai (dv 0) (dv 3)) ae) (aa (dv 4) ah)))))))) (yF 2 (ao (ay (dq (by rfl) (by exact bC (osc:=ar jW) (xs:=["owner"]) (ns:=["sums"]) (by decide +kernel)) (aX.cons 2 aX.nil) (bq ((Ey rfl (by rfl) c (dv 2))).Ub) (λ_ _ _ _ _=>bW) (λ_ _ _ _ _=>(bJ (aa (dv 0) (aa (Jp (by exact A8 a) (dv 1) (dv 0)) ah)))))))))),?_⟩
 rintro ds Q Ed ⟨os,a,rfl,h⟩;x_go;unfold fQ at h;obtain⟨l3,o,r,g,l,m,h⟩:=h;lk;have d:∀z∈a,os[z.1]?=some (os.getD z.1 (0,0,0,0)):=λz b=>by rw[Nz,M5 (o z b).1];rfl
 refine PD.bo a d9 (λj b=>∃k i e:Option Sl,b=[some (.val (.lst false (os.map N7))),some (.val (.lst false (a.map d9))),some (.ob (.dk (lQ (cg ((gE os a).take j))))),k,i,e]) (λR q=>?_) ⟨none,none,none,rfl⟩ ?_ ?_
 ·lk;exact q
 ·rintro j z s b ⟨k,i,e,rfl⟩;have c:=NF b;have UJ:j<a.length:=(Nk.mp b).1;have Rm:Nx (os.map N7) ((z.1:Nat):Int)=some (.tup [.int (os.getD z.1 (0,0,0,0)).1,Mz (os.getD z.1 (0,0,0,0)).2]):=bg (by rw[Nj,d z c];rfl);have p:=r _ (NF (d z c));have d:cg ((gE os a).take (j+1))=stT (cg ((gE os a).take j)) ((os.getD z.1 (0,0,0,0)).1,(os.getD z.1 (0,0,0,0)).2,z.2):=by
   unfold cg;rw[List.take_add_one,show(gE os a)[j]?=some ((os.getD z.1 (0,0,0,0)).1,(os.getD z.1 (0,0,0,0)).2,z.2)by unfold gE;rw[Nj,b];rfl,List.foldl_append];rfl
  rw[d];have b:=g j;have d:=l j;generalize cg ((gE os a).take j)=T at b d ⊢;generalize os.getD z.1 (0,0,0,0)=g at Rm p ⊢;have d:∀n,Bd n 0:=λn=>by unfold Bd;simp;exact Yn n
  have j:TB 990 ((PY T g.1).getD (0,0,0)):=by
   cases hl:PY T g.1 with
   |none=>exact⟨d _,d _,d _⟩
   |some x=>have q:=b _ (xD hl);exact⟨q.c.mono (by lia),q.a.mono (by lia),q.b.mono (by lia)⟩
  have b:((PY T g.1).map Mz).getD (D.tup [D.int 0,D.int 0,D.int 0])=Mz ((PY T g.1).getD (0,0,0)):=by cases PY T g.1<;>rfl
  unfold d9;lk;refine⟨_,Rm,?_⟩;lk;refine⟨S9 _ _ _,Sum.inl g.1,rfl,_,Rm,?_⟩;lk;rw[mO,b,da];show gf κ [T3 ((PY T g.1).getD (0,0,0)).1 ((PY T g.1).getD (0,0,0)).2.1 ((PY T g.1).getD (0,0,0)).2.2,T3 g.2.1 g.2.2.1 g.2.2.2,.int z.2] _ _;rw[kP,dP];refine⟨j,p,(o z c).2,Sum.inl g.1,rfl,by unfold lQ;rw[Mq,sizeLine_eq];lia,some (.val (.int ((z.1:Nat):Int))),some (.val (.int z.2)),some (.val (.int g.1)),?_⟩;rw[HK];rfl
 ·rintro s ⟨k,i,e,rfl⟩;have b:a.length=(gE os a).length:=by unfold gE;rw[Mq]
  rw[b,SR];generalize j:cg (gE os a)=T at m h;have tl3:T.length<=3:=by
   have q:=l a.length;rw[b,SR,j]at q
   lia
  refine⟨T.map (·.1),T.map λx=>Mz x.2,by rw[Mq,Mq],by rw[uC];rfl,?_⟩;lk;refine wF (P:=λa:yaf=>a.Perm (T.map (·.1))/\a.Pairwise (·<·)) (λn=>D.int n) (λo=>N7 (o,(PY T o).getD (0,0,0))) (λR d=>?_) (λa b=>by have:=b.1.length_eq;rw[Mq]at this;rw[sizeLine_eq];lia) (λa b o e K c=>?_) λa b=>?_
  ·lk;exact⟨_,_,rfl,by rw[Mq];lia,λa p q=>d a ⟨p,q⟩⟩
  ·obtain⟨x,d,g⟩:=M4.mp (b.1.mem_iff.mp e);have lk:=Bc m d;rw[g]at lk;lk;refine⟨_,_,_,Mz x.2,rfl,rfl,by rw[Mq,Mq],?_,Ta _ _,?_⟩
   ·rw[uC,mO,lk];rfl
   ·rw[lk]at c;exact c
  ·have q:=h a b.1 b.2;unfold jF at q;rw[NY]at q;exact q
def vy (F:az K "hulls_meet" "hulls_meet" eZ f fd) (C:Ny K mg κ)  (e:Av P w K mg base κ) (b:ID P w K mg base κ) (c:D6 P w K mg base κ) (d:BK P w K mg base κ) (h:uF P w K mg base κ) (g:tK P w K mg base κ) (i:mg "len" = none):aM P w K mg base (CX1 P w) 8 f fd ["lists"] (aN K (jM κ)):=by
 refine az.okN F dQ (by fin2) λ_ _ _ _ _ _ a=>⟨_,(aj (aE 1 dQ.nd (au g a (aa (dv 0) ah))) (aj (gR 2 dQ.nd (by rfl) (by exact bC (osc:=ar eZ) (xs:=["pair"]) (ns:=[]) (by decide +kernel)) aX.nil (bq (dv 1)) (λ_ _ _ _ _=>bW) (λ_ _ _ _ _=>(ai (dv 0) ae))) (aj (aE 3 dQ.nd (au d a (aa (ai (dv 0) ae) ah))) (aj (aE 4 dQ.nd (au c a (aa (dv 3) (aa (dv 2) ah)))) (aj (aP (aC cf (aF aV (by rfl) i OP (aa (dv 4) ah)) ae) (ao (ay (bJ (aa ku (aa (au e a (aa (dv 1) (aa (au b a (aa (dv 3) (aa (dv 2) ah))) ah))) ah))))) aG) (ao (ay (bJ (aa ku (aa (ai (dv 4) ae) (aa (dq (by rfl) (by exact bC (osc:=ar eZ) (xs:=["spots"]) (ns:=["shared"]) (by decide +kernel)) (aX.cons 4 aX.nil) (bq (dv 0)) (λ_ _ _ _ _=>bW) (λ_ _ _ _ _=>(rM (au h a (aa (dv 0) (aa (ai (dv 1) ae) ah))) (gH ae) dw))) ah))))))))))),?_⟩
 rintro ds Q Ed ⟨s,rfl,h⟩;x_go;unfold cX at h;obtain⟨L,h⟩:=h;lk;refine⟨L,λc rk=>?_⟩;have St:=rY L rk;have n:(aT 0 c).length<=512:=by have q:=St.le;unfold MG at q;rw[Mq]at q;exact q
 refine PD.comp_map (aT 0 c) N7 (λ_=>true) (λx=>Mz x.2) (λR q=>?_) (by rw[sizeLine_eq];lia) (λx m K k=>?_) (λx m _ K k=>?_) ?_
 ·lk;exact q
 ·lk;exact k
 ·unfold N7;lk;exact k
 rw[QJ.mpr (λ_ _=>rfl)];have a:(aT 0 c).map (λx=>Mz x.2)=(MG c).map Mz:=by unfold MG;rw[NY];rfl
 rw[a];obtain⟨a,Lr,d⟩:∃p r,s=p::r:=by
  cases s with
  |nil=>exact absurd L.l0 (by simp)
  |cons p r=>exact⟨p,r,rfl⟩
 obtain⟨i,yr,g⟩:∃p r,c=p::r:=by
  cases c with
  |nil=>rw[d]at rk;exact rk.elim
  |cons p r=>exact⟨p,r,rfl⟩
 have b:a∈s:=by rw[d];simp
 have e:cS i a:=by rw[d,g]at rk;exact rk.1
 have l:c.getD 0 []=i:=by rw[g];rfl
 refine⟨aW a,bg (j:=0) (by rw[d];rfl),?_⟩;rw[rq];show mj κ [.lst false (a.map MA)] _ _;rw[nu,kg];refine⟨by have:=L.le a b;lia,λp o=>((L.bd a b p o).mono (by decide)).sb,λb d _=>?_⟩;have a:=xR d e;have d:(aQ b).map Nf=(F0 c).map Mz:=by unfold F0;rw[l,a,NY];rfl
 have a:∀(t:Bool) (l:yaw),aJ (.lst t (l.map Mz))=.lst false (l.map Mz):=λt l=>by rw[bE,tw]
 rw[d,a,a,o8,ji];obtain⟨Z,d,a⟩:=St.zs;have b:∀j,(aU ((MG c).take j) (F0 c)).length<=300000/\∀p∈aU ((MG c).take j) (F0 c),0<p.1/\CB 40 p:=λj=>⟨Pa (a j).len d,λp o=>⟨((a j).pr p o).pos,(a j).cb p o⟩⟩
 have a:∀g∈MG c,Bd 200 g.1/\Bd 200 g.2.1/\Bd 200 g.2.2:=λg d=>by have B:=(St.gb g d).1;exact⟨B.c.mono (by decide),B.a.mono (by decide),B.b.mono (by decide)⟩
 have lG:(MG c).length<=512:=by unfold MG;rw[Mq];exact n
 refine⟨St.pos,by lia,λj _=>b j,a,?_⟩;cases hc:aU (MG c) (F0 c)with
 |nil =>
  refine⟨[],.inl ⟨true,rfl⟩,?_⟩;rw[Ml (show(((([]:yas).length:Nat):Int))=0 from rfl),sV,ma];obtain⟨d,r,u,y,⟨g,e⟩,i⟩:=AM St hc;refine⟨by lia,λj _=>b j,a,d,r,u,y,(g,e),i,?_⟩;have P:=Gi St r i;have t:=xT L rk St P;have a:(g.zip e).length<=3:=by rw[Xu];have:=P.l3;lia
  have b:gE (aT 0 c) (g.zip e)=RH c g e:=rfl;rw[bE,tu,mh,fQ,b];refine⟨a,λz l=>⟨P.lt _ (VA (a:=z.1) (b:=z.2) l).1,P.bs _ (VA (a:=z.1) (b:=z.2) l).2⟩,λx m=>?_,λn x m=>?_,λn=>?_,?_,λb l a=>⟨Ta _ _,h _ ⟨c,rk,.inr ⟨d,g,e,b,hc,r,u,y,i,l,a,rfl⟩⟩⟩⟩
  ·have B:=(St.gb x.2 (M4.mpr ⟨x,m,rfl⟩)).1;exact⟨B.c.mono (by decide),B.a.mono (by decide),B.b.mono (by decide)⟩
  ·have q:=((t n).ok x m).2;have ln:((RH c g e).take n).length<=n:=by rw[RZ];lia
   exact⟨q.c.mono (by lia),q.a.mono (by lia),q.b.mono (by lia)⟩
  ·have q:=(t n).le;rw[RZ]at q
   lia
  ·have q:=(t (RH c g e).length).nd;rw[SR]at q;exact q
 |cons y rest =>
  have a:y∈aU (MG c) (F0 c):=by rw[hc];simp
  obtain⟨e,d⟩:=sy L rk St a;have WC:Nx ((y::rest).map Mz) 0=some (Mz y):=bg (j:=0) rfl;have b:=h _ ⟨c,rk,.inl ⟨y,rest,hc,rfl⟩⟩;refine⟨_,.inl ⟨true,rfl⟩,?_⟩;rw[Mj (by rw[Mq,P5];lia),qS];generalize y::rest=cs at WC ⊢;refine⟨_,WC,?_⟩;refine PD.comp_map s aW (λ_=>true) (λa=>cU ((bX (a.map (Mu y)) (cw a.length)).getD ([],[]))) (λR q=>?_) (by have:=L.l8;rw[sizeLine_eq];lia) (λx m K k=>?_) (λa l _ K k=>?_) ?_
  ·lk;exact q
  ·lk;exact k
  ·lk;refine⟨_,WC,?_⟩;rw[da];show iq κ [.lst false (a.map MA),T3 y.1 y.2.1 y.2.2] _ _;rw[jO,fF];refine⟨L.ne a l,L.le a l,λp o=>((L.bd a l p o).mono (by decide)).sb,d.cb.pb d.pr,_,e a l,?_⟩;exact⟨_,rfl,by show¬(HT.MZ 3 0 (some 1)=0/\_);exact λz=>absurd z.1 (by decide),k⟩
  ·rw[QJ.mpr (λ_ _=>rfl)];refine⟨S9 _ _ _,?_⟩;unfold jS at b;rw[NY]at b;exact b
def xN (F:az K "_law_whole" "_law_whole" lE f fd) (C:Ny K mg κ)   (c:mg "bool" = none) (b:mg "int" = none) (a:mg "isinstance" = none):aM P w K mg base (CX1 P w) 1 f fd ["_law_found"] (aN K (kN κ)):=by
 refine az.okN F xZ (by fin2) λ_ _ _ _ _ _ hr=>⟨_,(ao (ay (gQ (cG (by rfl) a (by rfl) b boot_int (.inl rfl) (dv 0)) (lT (Jo (cG (by rfl) a (by rfl) c boot_bool (.inr (.inl rfl)) (dv 0))))))),?_⟩
 rintro ds Q Ed ⟨a,rfl,h⟩;x_go;unfold hJ at h;lk;exact h
def tZ (F:az K "_law_cell_at" "_law_cell_at" jH f fd) (C:Ny K mg κ)   (a:mg "len" = none):aM P w K mg base (CX1 P w) 1 f fd ["_law_script", "_law_k"] (aN K (iU κ)):=by
 refine az.okN F uj (by fin2) λ_ _ _ _ _ _ hr=>⟨_,(aj (aP (aC cT (dv 1) (aF aV (by rfl) a OP (aa (dv 0) ah))) (ao (ay (ai (dv 0) (dv 1)))) aG) (ao (ay ae))),?_⟩
 rintro ds Q Ed ⟨b,k,rfl,h⟩;x_go;unfold fB at h;obtain⟨c,hn,h⟩:=h;lk;by_cases a:k<((b.map D.int).length:Int)
 ·rw[Ml (by simpa using a)];rw[Mq]at a;exact⟨_,Eg c a,h _⟩
 ·rw[Mj (by simpa using a)];exact h 0
def t6 (F:az K "_law_divisor" "_law_divisor" jI f fd) (C:Ny K mg κ)   (a:mg "abs" = none):aM P w K mg base (CX1 P w) 1 f fd ["_law_one", "_law_other"] (aN K (iV κ)):=by
 refine az.okN F fK (by fin2) λ_ _ _ _ _ _ hr=>⟨_,(aj (aE 2 fK.nd (aF n9 (by rfl) a boot_abs (aa (dv 0) ah))) (aj (aE 3 fK.nd (aF n9 (by rfl) a boot_abs (aa (dv 1) ah))) (aj (mF PassesOwn.never (aC fO (dv 3) ae) (ao (Js 2 3 rfl fK.nd (by decide) (aa (dv 3) (aa (aq bU (dv 2) (dv 3)) ah))))) (ao (ay (dv 2)))))),?_⟩
 rintro ds Q Ed ⟨a,b,rfl,h⟩;x_go;unfold fC at h;lk;refine⟨λm c=>∃(x y:Int),c=[some (.val (.int a)),some (.val (.int b)),some (.val (.int x)),some (.val (.int y))]/\Int.gcd x y=Int.gcd a b/\m=y.natAbs/\0<=x/\0<=y,⟨_,_,_,rfl,PM.G3 a b,rfl,by lia,by lia⟩,?_⟩;rintro m c ⟨x,y,rfl,c,rfl,hx,b⟩;lk;by_cases a:y=0
 ·subst a;rw[PM.uW]at c;have:x=((x.natAbs:Nat):Int):=by lia
  rw[Ml rfl,this,c];exact h
 ·rw[Mj a];refine⟨a,?_⟩;exact⟨_,PM.uU x a,y,x.fmod y,rfl,(PM.xn x y).trans c,rfl,b,Z2 x (by lia)⟩
def vz (F:az K "_law_stream" "_law_stream" kH f fd) (C:Ny K mg κ)   (a:mg "range" = none):aM P w K mg base (CX1 P w) 1 f fd ["_law_cell", "_law_many"] (aN K (jN κ)):=by
 refine az.okN F bB (by fin2) λ_ _ _ _ _ _ hr=>⟨_,(aj (lU 2 bB.nd ah) (aj (aE 3 bB.nd (dv 0)) (aj (bK PassesOwn.never rfl (cn (by rfl) a (aa (dv 1) ah)) (aS 4 bB.nd) (aj (jd 2 (aq bU (dv 3) (aq kC ae ae))) (ao (aE 3 bB.nd (aq dE (dv 3) (aq kC ae ae)))))) (aj (aP (aC mQ (dv 3) ae) (fk 2 (ao (ay (dv 2)))) aG) (aj (lU 2 bB.nd ah) (aj (aE 5 bB.nd (aq aR (aq bU (dv 0) ae) ae)) (aj (aE 6 bB.nd (aq aR (aq bU (aq dE (dv 0) ae) ae) ae)) (aj (bK PassesOwn.never rfl (cn (by rfl) a (aa (dv 1) ah)) (aS 4 bB.nd) (aj (aE 5 bB.nd (aq bU (aq aR (aq aR (aq aD (dv 5) ae) (aq aD (dv 4) (dv 4))) ae) ae)) (aj (aE 6 bB.nd (aq bU (aq aR (aq aD (dv 6) ae) (dv 5)) ae)) (ao (jd 2 (aq dE (dv 6) ae)))))) (fk 2 (ao (ay (dv 2)))))))))))),?_⟩
 rintro ds Q Ed ⟨c,m,rfl,h⟩;x_go;unfold fZ at h;obtain⟨h0,h1,h⟩:=h;obtain⟨n,rfl⟩:∃n:Nat,m=n:=⟨m.toNat,by lia⟩;lk;refine⟨N9 _,?_⟩;refine PD.bo (List.range' 0 n) (λ(k:Nat)=>D.int (k:Int)) (λj l=>∃(g:yaf) (r:Int) (v:Option Sl),l=[some (.val (.int c)),some (.val (.int n)),some (.own (g.map D.int)),some (.val (.int r)),v,none,none]/\g.length=j/\∀x∈g,0<=x/\x<10000000000000) (λR q=>?_) ⟨[],c,none,rfl,rfl,by simp⟩ ?_ ?_
 ·lk;rw[jD];exact⟨⟨by lia,by lia⟩,q⟩
 ·rintro j k s o ⟨g,r,v,rfl,d,i⟩;obtain⟨p,_⟩:=Nk.mp o;rw[OO]at p;lk;rw[p13];have e:=fm (a:=r) (b:=10000000000000) (by decide);refine⟨IT,by decide,by rw[Mq,sizeLine_eq];lia,IT,CD.lit,g++[r.fmod 10000000000000],_,_,by rw[OC];rfl,by simp[d],?_⟩;intro z m;rcases Nu.mp m with q|q
  ·exact i z q
  ·simp at q;subst q;exact e
 ·rintro s ⟨g,r,v,rfl,d,i⟩;rw[OO]at d;lk;split
  ·exact h g (by rw[d];lia) i
  ·refine⟨N9 _,by decide,CD.lit,by decide,?_⟩;refine PD.bo (List.range' 0 n) (λ(k:Nat)=>D.int (k:Int)) (λj l=>∃(g:yaf) (x y:Int) (v:Option Sl),l=[some (.val (.int c)),some (.val (.int n)),some (.own (g.map D.int)),some (.val (.int r)),v,some (.val (.int x)),some (.val (.int y))]/\g.length=j/\(∀x∈g,0<=x/\x<10000000000000)) (λR q=>?_) ⟨[],_,_,v,rfl,rfl,by simp⟩ ?_ ?_
   ·lk;rw[jD];exact⟨⟨by lia,by lia⟩,q⟩
   ·rintro j k s o ⟨g,x,y,v,rfl,d,i⟩;obtain⟨p,c⟩:=Nk.mp o;rw[OO]at p;rw[UO]at c;lk;have e:=fm (a:=y*69621+(x*48271+(k:Int)*k+11).fmod 2147483647) (b:=2147483629) (by decide);generalize (x*48271+(k:Int)*k+11).fmod 2147483647=a at e ⊢;generalize (y*69621+a).fmod 2147483629=a at e ⊢;refine⟨.inr (.inl (by unfold Bd;decide)),.inl (by unfold Bd;lia),by decide,.inr (.inl (by unfold Bd;decide)),by decide,CD.lit,by rw[Mq,sizeLine_eq];lia,g++[a.fdiv 7],_,_,_,by rw[OC];rfl,by simp[d],?_⟩;intro z m;rcases Nu.mp m with q|q
    ·exact i z q
    ·simp at q;subst q;have e:=Int.fdiv_eq_ediv_of_nonneg a (show(0:Int)<=7 by decide);rw[e]
     lia
   ·rintro s ⟨g,x,y,v,rfl,d,i⟩;rw[OO]at d;lk;exact h g (by rw[d];lia) i
def yU (F:az K "_law_spot" "_law_spot" mX f fd) (C:Ny K mg κ)    : aM P w K mg base (CX1 P w) 1 f fd ["_law_cell", "_law_kind"] (aN K (lO κ)):=by
 refine az.okN F qp (by fin2) λ_ _ _ _ _ _ hr=>⟨_,(aj (aE 2 qp.nd (aq bU (aq aR (aq aD (dv 0) ae) ae) ae)) (aj (aP (aC cf (dv 1) ae) (ao (ay (bJ (aa (aq bU (dv 2) ae) (aa (aq bU (aq dE (dv 2) ae) ae) ah))))) aG) (aj (aP (aC cf (dv 1) ae) (ao (ay (bJ (aa (aq bG (aq bU (dv 2) ae) ae) (aa (aq bG (aq bU (aq dE (dv 2) ae) ae) ae) ah))))) aG) (aj (aP (aC cf (dv 1) ae) (ao (ay (bJ (aa (aq bG (aq aD ae (aq bU (dv 2) ae)) ae) (aa (aq bG ae (aq bU (dv 2) ae)) ah))))) aG) (ao (ay (bJ (aa (aq aR (aq bG (aq bU (aq aD (dv 0) ae) (aq bG (aq aD ae (aq kC ae ae)) ae)) (aq kC ae ae)) ae) (aa (aq aR (aq bG (aq bU (aq aD (dv 0) ae) (aq bG (aq aD ae (aq kC ae ae)) ae)) (aq kC ae ae)) ae) ah))))))))),?_⟩
 rintro ds Q Ed ⟨c,k,rfl,h⟩;x_go;unfold dU at h;have d:∀a b:Int,Bd 40 a->Bd 40 b->Q (.tup [.int a,.int b]):=λa b g e=>h (a,b) ⟨g,e⟩
 lk;refine⟨.inr (.inl (by unfold Bd;decide)),by decide,?_⟩;generalize (c*48271+11).fmod 2147483647=n;have f3:=fm (a:=n) (b:=3) (by decide);have g3:=fm (a:=n.fdiv 3) (b:=3) (by decide);have f9:=fm (a:=n) (b:=9) (by decide);have g9:=fm (a:=n.fdiv 9) (b:=9) (by decide);split
 ·exact⟨by decide,CD.lit,by decide,Ta _ _,d _ _ (V0 10 (by lia) (by decide)) (V0 10 (by lia) (by decide))⟩
 ·split
  ·exact⟨by decide,CD.lit,by decide,Ta _ _,d _ _ (V0 10 (by lia) (by decide)) (V0 10 (by lia) (by decide))⟩
  ·split
   ·exact⟨by decide,.inl (by unfold Bd;decide),by decide,Ta _ _,d _ _ (V0 30 (by lia) (by decide)) (V0 10 (by lia) (by decide))⟩
   ·rw[p12];have fa:=fm (a:=c*7919) (b:=2*1000000000000 - 1) (by decide);have fb:=fm (a:=c*104729) (b:=2*1000000000000 - 3) (by decide);exact⟨.inr (.inl (by unfold Bd;decide)),AR,.inl (by unfold Bd;decide),by decide,AR,.inr (.inl (by unfold Bd;decide)),AR,.inl (by unfold Bd;decide),by decide,AR,Ta _ _,d _ _ (V0 1000000000010 (by lia) (by decide)) (V0 1000000000010 (by lia) (by decide))⟩
def sE (F:az K "_law_is_place" "_law_is_place" iQ f fd) (C:Ny K mg κ)  (c:nM P w K mg base κ) (b:k9 P w K mg base κ) (e:mg "isinstance" = none) (d:mg "len" = none) (g:mg "tuple" = none):aM P w K mg base (CX1 P w) 2 f fd ["_law_found"] (aN K (eN κ)):=by
 refine az.okN F sP (by fin2) λ_ _ _ _ _ _ a=>⟨_,(aj (aP (PU.pt (bO (bL (bF (cG (by rfl) e (by rfl) g boot_tuple (.inr (.inr (.inl rfl))) (dv 0)))) (dA (aC fO (aF aV (by rfl) d OP (aa (dv 0) ah)) ae)))) (ao (ay b6)) aG) (aj (aP (PU.pt (bO (bL (bF (au b a (aa (ai (dv 0) ae) ah)))) (bO (bL (bF (au b a (aa (ai (dv 0) ae) ah)))) (bO (bL (bF (au b a (aa (ai (dv 0) ae) ah)))) (dA (aC cT (ai (dv 0) ae) ae)))))) (ao (ay b6)) aG) (ao (ay (dm cf (au c a (aa (au c a (aa (ai (dv 0) ae) (aa (ai (dv 0) ae) ah))) (aa (ai (dv 0) ae) ah))) ae))))),?_⟩
 rintro ds Q Ed ⟨a,c,b,rfl,h⟩;x_go;unfold cZ at h;obtain⟨⟨d,e⟩,h⟩:=h;have hp':0<a:=d;have d:(((Int.gcd (Int.gcd a c:Int) b:Nat)):Int)=1:=by
  have g:((PM.g3 a c b:Nat):Int)=1:=by rw[show PM.g3 a c b=1 from e];rfl
  exact g
 lk;rw[Ml (by rfl),Mj (by lia),R3 d];exact h
def t8 (F:az K "_law_numbers" "_law_numbers" gc f fd) (C:Ny K mg κ)  (e:k9 P w K mg base κ) (c:mg "isinstance" = none) (b:mg "len" = none) (d:mg "list" = none):aM P w K mg base (CX1 P w) 2 f fd ["_law_found"] (aN K (iW κ)):=by
 refine az.okN F uk (by fin2) λ_ _ _ _ _ _ a=>⟨_,(aj (aP (PU.pt (bO (bL (bF (cG (by rfl) c (by rfl) d boot_list (.inr (.inr (.inr (.inl rfl)))) (dv 0)))) (dA (aC (mP (by exact a.units)) (dv 0) (dO ah))))) (ao (ay b6)) aG) (ao (ay (dm cf (aF aV (by rfl) b OP (aa (dq (by rfl) (by exact bC (osc:=ar gc) (xs:=["_law_number"]) (ns:=[]) (by decide +kernel)) aX.nil (bq (dv 0)) (λ_ _ _ _ _=>(DK (bF (au e a (aa (dv 0) ah))))) (λ_ _ _ _ _=>(dv 0))) ah)) (aF aV (by rfl) b OP (aa (dv 0) ah)))))),?_⟩
 rintro ds Q Ed ⟨ns,rfl,h⟩;x_go;unfold fE at h;obtain⟨a,l1,h⟩:=h;lk;refine⟨N9 _,(Nm.map (Nm.int 0)).ok,(Nm.lst (jy.nil 0)).ok,?_⟩;rw[Mj (by
  cases ns with
  |nil=>exact absurd a (by simp)
  |cons a r=>rw[MN,lW,GW];simp)]
 refine PD.comp_map ns D.int (λ_=>true) D.int (λR q=>?_) (by rw[sizeLine_eq];lia) (λk b K a=>?_) (λk b _ K a=>?_) ?_
 ·lk;exact q
 ·lk;exact a
 ·lk;exact a
 rw[QJ.mpr (λ_ _=>rfl)];refine⟨_,.inl ⟨_,rfl⟩,?_⟩;rw[R3 rfl];exact h
def yS (F:az K "_law_part" "_law_part" mW f fd) (C:Ny K mg κ)  (MM:nM P w K mg base κ) (Nr:vq P w K mg base κ) (Mi:mg "isinstance" = none) (p:mg "len" = none) (Ms:mg "range" = none) (OW:mg "sum" = none) (MK:mg "tuple" = none) (M8:mg "zip" = none):aM P w K mg base (CX1 P w) 3 f fd ["_law_part_here", "_law_spots", "_law_here"] (aN K (jb κ)):=by
 refine az.okN F bV (by fin2) λ_ _ _ _ _ _ H=>⟨_,(aj (aP (PU.pt (bO (bL (bF (cG (by rfl) Mi (by rfl) MK boot_tuple (.inr (.inr (.inl rfl))) (dv 0)))) (bO (aC fO (aF aV (by rfl) p OP (aa (dv 0) ah)) ae) (bO (bL (bF (au Nr H (aa (ai (dv 0) ae) ah)))) (dA (bL (bF (au Nr H (aa (ai (dv 0) ae) ah))))))))) (ao (ay b6)) aG) (aj (aP (PU.pt (bO (aC fO (aF aV (by rfl) p OP (aa (ai (dv 0) ae) ah)) (aF aV (by rfl) p OP (aa (ai (dv 0) ae) ah))) (bO (aC mQ (aF aV (by rfl) p OP (aa (ai (dv 0) ae) ah)) ae) (bO (aC cT (ai (ai (dv 0) ae) ae) ae) (dA (aC vL (ai (ai (dv 0) ae) (bT ae)) (aF aV (by rfl) p OP (aa (dv 1) ah)))))))) (ao (ay b6)) aG) (aj (bK PassesOwn.never rfl (uX (by rfl) Ms (aa ae (aa (aF aV (by rfl) p OP (aa (ai (dv 0) ae) ah)) ah))) (aS 3 bV.nd) (ao (aP (aC vL (ai (ai (dv 0) ae) (aq bG (dv 3) ae)) (ai (ai (dv 0) ae) (dv 3))) (ao (ay b6)) aG))) (aj (aE 4 bV.nd ae) (aj (aE 5 bV.nd ae) (aj (aE 6 bV.nd ae) (aj (bK PassesOwn.never rfl (oE (by rfl) M8 (aa (ai (dv 0) ae) (aa (ai (dv 0) ae) ah))) (je (n:=2) rfl (cC (aS 8 bV.nd) (cC (aS 9 bV.nd) iJ))) (aj (aP (aC cT (dv 9) ae) (ao (ay b6)) aG) (aj (aE 4 bV.nd (aq aR (dv 4) (aq aD (dv 9) (ai (ai (dv 1) (dv 8)) ae)))) (aj (aE 5 bV.nd (aq aR (dv 5) (aq aD (dv 9) (ai (ai (dv 1) (dv 8)) ae)))) (ao (aE 6 bV.nd (au MM H (aa (dv 6) (aa (dv 9) ah))))))))) (aj (aE 7 bV.nd (aF (B5 rfl) (by rfl) OW boot_sum (aa (ai (dv 0) ae) ah))) (ao (ay (gQ (dm cf (dv 6) ae) (gQ (dm cf (aq aD (dv 4) (ai (dv 2) ae)) (aq aD (ai (dv 2) ae) (dv 7))) (lT (dm cf (aq aD (dv 5) (ai (dv 2) ae)) (aq aD (ai (dv 2) ae) (dv 7)))))))))))))))),?_⟩
 rintro ds Q Ed ⟨d,c,m,o,n,rfl,h⟩;x_go;unfold fU at h;obtain⟨a,b,rfl,I,hl,hb,J,h⟩:=h;have ek:(a.map λ(k:Nat)=>D.int (k:Int))=(a.map λ(k:Nat)=>(k:Int)).map D.int:=by rw[NY];rfl
 unfold bI;rw[ek];have lk:(a.map λ(k:Nat)=>(k:Int)).length=a.length:=Mq _;have G:=I.l0;have l3:=I.l3;have E:=I.ls;have u:∀i (U:i<a.length),(a.map λ(k:Nat)=>(k:Int))[i]?=some ((a[i]:Nat):Int):=λi U=>by rw[Nj,M5 U];rfl
 have Y:∀k,k<c.length->c[k]?=some (c.getD k (0,0)):=λk l=>by rw[Nz,M5 l];rfl
 refine gC (λg=>g=[some (.val (.tup [.lst false ((a.map λ(k:Nat)=>(k:Int)).map D.int),.lst false (b.map D.int)])),some (.val (.lst false (c.map MA))),some (.val (T3 m o n)),none,none,none,none,none,none,none]) ?_ λK L=>?_
 ·rintro r rfl;refine gC (λg=>g=[some (.val (.tup [.lst false ((a.map λ(k:Nat)=>(k:Int)).map D.int),.lst false (b.map D.int)])),some (.val (.lst false (c.map MA))),some (.val (T3 m o n)),none,none,none,none,none,none,none]) ?_ λK L=>?_
  ·rintro r rfl;lk;refine PD.bo (List.range' 1 (a.length - 1)) (λ(k:Nat)=>D.int (k:Int)) (λ_ g=>∃t:Option Sl,g=[some (.val (.tup [.lst false ((a.map λ(k:Nat)=>(k:Int)).map D.int),.lst false (b.map D.int)])),some (.val (.lst false (c.map MA))),some (.val (T3 m o n)),t,none,none,none,none,none,none]) (λR q=>?_) ⟨none,rfl⟩ ?_ ?_
   ·lk;rw[Mq,lk];have:=z9 1 a.length;rw[show((1:Nat):Int)=1 from rfl]at this;rw[this];exact⟨⟨by lia,by lia⟩,⟨by lia,by lia⟩,q⟩
   ·rintro j k r hj ⟨t,rfl⟩;obtain⟨QG,ej⟩:=Nk.mp hj;rw[OO]at QG;rw[UO,VF]at ej;obtain⟨d,rfl⟩:∃d,k=d+1:=⟨j,by lia⟩;have l:d+1<a.length:=by lia
    lk;have e:Nx ((a.map λ(k:Nat)=>(k:Int)).map D.int) (((d+1:Nat):Int) - 1)=some (D.int ((a[d]:Nat):Int)):=by rw[show(((d+1:Nat):Int) - 1)=(d:Int)by lia];exact bg (j:=d) (by rw[Nj,u d (by lia)];rfl)
    refine⟨_,e,_,bg (j:=d+1) (by rw[Nj,u (d+1) l];rfl),?_⟩;rw[eW];refine⟨_,rfl,?_⟩;rw[Mj (by rw[decide_eq_true_eq];have:=TG.mp I.rise d (d+1) (by lia) l (by lia);lia)];exact⟨_,rfl⟩
   ·rintro r ⟨t,rfl⟩;have A:(a.zip b).length=a.length:=by rw[Xu,E,Nat.min_self]
    lk;refine PD.bo (a.zip b) (λz=>D.tup [.int ((z.1:Nat):Int),.int z.2]) (λj g=>∃C B:Option Sl,Bd (940+j) (zX c ((a.zip b).take j))/\Bd (940+j) (zY c ((a.zip b).take j))/\g=[some (.val (.tup [.lst false ((a.map λ(k:Nat)=>(k:Int)).map D.int),.lst false (b.map D.int)])),some (.val (.lst false (c.map MA))),some (.val (T3 m o n)),t,some (.val (.int (zX c ((a.zip b).take j)))),some (.val (.int (zY c ((a.zip b).take j)))),some (.val (.int (bM 0 (b.take j)))),none,C,B]) (λR q=>?_) ⟨none,none,by unfold zX Bd;exact Nat.pow_pos (by decide),by unfold zY Bd;exact Nat.pow_pos (by decide),rfl⟩ ?_ ?_
    ·lk;rw[yt];exact q
    ·rintro j z r T ⟨C,B,x,y,rfl⟩;have M:a[j]?=some z.1/\b[j]?=some z.2:=by
      obtain⟨i,e⟩:=Nk.mp T;rw[List.getElem_zip]at e;rw[A]at i;rw[M5 i,M5 (by lia),<- e];exact⟨rfl,rfl⟩
     have zm:=NF M.1;have O:=NF M.2;have zp:=I.pos z.2 O;have e:=I.bd z.2 O;have l:=I.lt z.1 zm;have s:=hb _ (NF (Y z.1 l));have N:(a.zip b).take (j+1)=(a.zip b).take j++[z]:=by rw[UU,T];rfl
     have ts:b.take (j+1)=b.take j++[z.2]:=by rw[UU,M.2];rfl
     have eX:zX c ((a.zip b).take (j+1))=zX c ((a.zip b).take j)+z.2*(c.getD z.1 (0,0)).1:=by rw[N];unfold zX;simp
     have eY:zY c ((a.zip b).take (j+1))=zY c ((a.zip b).take j)+z.2*(c.getD z.1 (0,0)).2:=by rw[N];unfold zY;simp
     rw[eX,eY,ts,oC];have Rm:Nx (c.map MA) ((z.1:Nat):Int)=some (.tup [.int (c.getD z.1 (0,0)).1,.int (c.getD z.1 (0,0)).2]):=bg (by rw[Nj,Y z.1 l];rfl);lk;rw[Mj (by lia)];refine⟨_,Rm,?_⟩;lk;refine⟨Pe e s.x,_,Rm,?_⟩;lk;exact⟨Pe e s.y,_,_,x.add ((e.mul s.x).mono (by lia)),y.add ((e.mul s.y).mono (by lia)),rfl⟩
    ·rintro r ⟨C,B,x,y,rfl⟩;rw[SR,KP,KQ]at *;rw[A,show b.take a.length=b by rw[<- E,SR],I.one];rw[A]at x y;have bs:=Gn b I.bd;have b1:Bd 1000 (sX (a.map λk=>c.getD k (0,0)) b):=x.mono (by lia);have b2:Bd 1000 (sY (a.map λk=>c.getD k (0,0)) b):=y.mono (by lia);have s:Bd 1000 b.sum:=bs.mono (by lia);have e:Bd 1000 m:=J.b.mono (by decide);have c1:Bd 1000 o:=J.x.mono (by decide);have c2:Bd 1000 n:=J.y.mono (by decide);have O:b.sum*o=m*sX (a.map λk=>c.getD k (0,0)) b:=I.x;have N:b.sum*n=m*sY (a.map λk=>c.getD k (0,0)) b:=I.y;lk;refine⟨_,_,rfl,Pe b1 e,Pe c1 s,?_⟩;rw[Ml (by rw[OY,<- O,OY])];refine⟨Pe b2 e,Pe c2 s,?_⟩;rw[R3 (by rw[OY,<- N,OY])];exact h
  ·lk;rw[Ml (by rw[Mq,lk,Mq,E]),Mj (by rw[Mq,lk];lia)];refine⟨_,bg (j:=0) (by rw[Nj,u 0 G];rfl),?_⟩;rw[eW];refine⟨_,rfl,?_⟩;rw[Mj (by rw[decide_eq_true_eq];lia)];refine⟨_,uH (by rw[Mq,lk];exact G) (by rw[Mq,lk,Nj,u _ (by lia)];rfl),?_⟩;rw[eW];refine⟨_,rfl,?_⟩;rw[Mj (by rw[decide_eq_true_eq,Mq];have:=I.lt _ (Rf (show a.length - 1<a.length by lia));lia)];exact L _ rfl
 ·lk;rw[Ml (by rfl)];refine⟨by rw[lk];exact G,by rw[lk];lia,by lia,by lia,L _ rfl⟩
def xM (F:az K "_law_meets" "_law_meets" lD f fd) (C:Ny K mg κ)  (d:tH P w K mg base κ) (c:Az P w K mg base κ) (e:mg "isinstance" = none) (a:mg "len" = none) (g:mg "list" = none) (h:mg "zip" = none):aM P w K mg base (CX1 P w) 4 f fd ["_law_found", "_law_sets_here"] (aN K (kM κ)):=by
 refine az.okN F kK (by fin2) λ_ _ _ _ _ _ b=>⟨_,(aj (aP (PU.pt (bO (aC fO (aF aV (by rfl) a OP (aa (dv 0) ah)) ae) (bO (bL (bF (au d b (aa (ai (dv 0) ae) ah)))) (dA (bL (bF (cG (by rfl) e (by rfl) g boot_list (.inr (.inr (.inr (.inl rfl)))) (ai (dv 0) ae)))))))) (ao (ay b6)) aG) (aj (aP (aC fO (aF aV (by rfl) a OP (aa (ai (dv 0) ae) ah)) (aF aV (by rfl) a OP (aa (dv 1) ah))) (ao (ay b6)) aG) (aj (bK PassesOwn.never rfl (oE (by rfl) h (aa (ai (dv 0) ae) (aa (dv 1) ah))) (je (n:=2) rfl (cC (aS 2 kK.nd) (cC (aS 3 kK.nd) iJ))) (ao (aP (bL (bF (au c b (aa (dv 2) (aa (dv 3) (aa (ai (dv 0) ae) ah)))))) (ao (ay b6)) aG))) (ao (ay b6))))),?_⟩
 rintro ds Q Ed ⟨d,e,rfl,h⟩;x_go;unfold gZ at h;obtain⟨y,d,rfl,L,a,h⟩:=h;have b:=a.pr;have m:=a.cb;have k:=a.ok;have g:=a.len;have l8:=L.l8;unfold ft;lk;rw[Ml (by rfl)];show eN κ [T3 y.1 y.2.1 y.2.2] _ _;rw[jq,cZ];refine⟨b,true,rfl,?_⟩;rw[Mj (by simp),Ml (by rw[Mq,Mq,g])];refine PD.bo (d.zip e) (λz=>D.tup [bI z.1,aW z.2]) (λ_ a=>∃c b:Option Sl,a=[some (.val (.tup [.str "meet", Mz y,.lst false (d.map bI)])),some (.val (.lst false (e.map aW))),c,b]) (λR q=>?_) ⟨none,none,rfl⟩ ?_ ?_
 ·lk;rw[zip_parts];exact q
 ·rintro j z n l ⟨c,b,rfl⟩;have a:d[j]?=some z.1/\e[j]?=some z.2:=by
   obtain⟨i,e⟩:=Nk.mp l;rw[List.getElem_zip]at e;rw[Xu,g,Nat.min_self]at i;rw[M5 (by lia),M5 i,<- e];exact⟨rfl,rfl⟩
  obtain⟨e,_⟩:=Nk.mp a.2;have d:=NF a.2;have K:=k j e;rw[Nz,a.2,Nz,a.1]at K;lk;rw[lR];show jb κ [bI z.1,.lst false (z.2.map MA),T3 y.1 y.2.1 y.2.2] _ _;rw[mn,fU];refine⟨z.1.1,z.1.2,rfl,K,L.le _ d,L.bd _ d,m,true,rfl,?_⟩;rw[Mj (by simp)];exact⟨_,_,rfl⟩
 ·rintro n ⟨c,b,rfl⟩;lk;exact h
def Bk (F:az K "_law_row" "_law_row" oU f fd) (C:Ny K mg κ)  (e:k9 P w K mg base κ) (c:mg "isinstance" = none) (a:mg "len" = none) (d:mg "tuple" = none):aM P w K mg base (CX1 P w) 2 f fd ["_law_row_here", "_law_sets_here"] (aN K (nA κ)):=by
 refine az.okN F jZ (by fin2) λ_ _ _ _ _ _ b=>⟨_,(aj (aP (PU.pt (bO (bL (bF (cG (by rfl) c (by rfl) d boot_tuple (.inr (.inr (.inl rfl))) (dv 0)))) (bO (aC fO (aF aV (by rfl) a OP (aa (dv 0) ah)) ae) (bO (bL (bF (au e b (aa (ai (dv 0) ae) ah)))) (bO (aC cT (ai (dv 0) ae) ae) (dA (aC vL (ai (dv 0) ae) (aF aV (by rfl) a OP (aa (dv 1) ah))))))))) (ao (ay b6)) aG) (aj (aP (PU.pt (bO (bL (bF (cG (by rfl) c (by rfl) d boot_tuple (.inr (.inr (.inl rfl))) (ai (dv 0) ae)))) (dA (aC fO (aF aV (by rfl) a OP (aa (ai (dv 0) ae) ah)) ae)))) (ao (ay b6)) aG) (aj (bK PassesOwn.never rfl (Cw (ai (dv 0) ae)) (aS 2 jZ.nd) (ao (aP (bL (bF (au e b (aa (dv 2) ah)))) (ao (ay b6)) aG))) (aj (bK PassesOwn.never rfl (bq (ai (dv 1) (ai (dv 0) ae))) (je (n:=2) rfl (cC (aS 3 jZ.nd) (cC (aS 4 jZ.nd) iJ))) (ao (aP (aC cT (aq aR (aq aR (ai (ai (dv 0) ae) ae) (aq aD (ai (ai (dv 0) ae) ae) (dv 3))) (aq aD (ai (ai (dv 0) ae) ae) (dv 4))) ae) (ao (ay b6)) aG))) (ao (ay b6)))))),?_⟩
 rintro ds Q Ed ⟨d,a,rfl,h⟩;x_go;unfold jU at h;obtain⟨⟨o,d,c,b⟩,rfl,L,⟨i,g,e,r⟩,m,h⟩:=h;have k:a[i]?=some (a.getD i []):=by rw[Nz,M5 g];rfl
 have s:=NF k;dsimp only at e r m;subst e;show _;rw[show N7 ((i:Int),d,c,b)=D.tup [.int (i:Int),.tup [.int d,.int c,.int b]]from rfl];lk;rw[Ml (by rfl),Mj (by lia),Mj (by rw[Mq];lia),Ml (by rfl)];refine PD.bo [d,c,b] (λn=>D.int n) (λ_ g=>∃e:Option Sl,g=[some (.val (.tup [.int (i:Int),.tup [.int d,.int c,.int b]])),some (.val (.lst false (a.map aW))),e,none,none]) (λR q=>?_) ⟨none,rfl⟩ ?_ ?_
 ·lk;exact q
 ·rintro j n n hn ⟨e,rfl⟩;lk;exact⟨_,rfl⟩
 ·rintro n ⟨e,rfl⟩;have Rm:Nx (a.map aW) (i:Int)=some (.lst false ((a.getD i []).map MA)):=bg (by rw[Nj,k];rfl);lk;refine PD.bo (a.getD i []) MA (λ_ g=>∃l k:Option Sl,g=[some (.val (.tup [.int (i:Int),.tup [.int d,.int c,.int b]])),some (.val (.lst false (a.map aW))),e,l,k]) (λR q=>?_) ⟨none,none,rfl⟩ ?_ ?_
  ·lk;exact⟨_,Rm,_,_,rfl,q⟩
  ·rintro j p n a ⟨l,k,rfl⟩;have b:=NF a;have a:=L.bd _ s p b;have o:=r p b;unfold MA;lk;refine⟨Pe m.a a.x,Pe m.b a.y,?_⟩;rw[Mj (by unfold Mg at o;dsimp only at o;lia)];exact⟨_,_,rfl⟩
  ·rintro n ⟨l,k,rfl⟩;lk;exact h
def yQ (F:az K "_law_bars" "_law_bars" jY f fd) (C:Ny K mg κ)  (c:BL P w K mg base κ) (d:mg "isinstance" = none) (a:mg "len" = none) (e:mg "list" = none) (g:mg "zip" = none):aM P w K mg base (CX1 P w) 3 f fd ["_law_found", "_law_sets_here"] (aN K (lL κ)):=by
 refine az.okN F dW (by fin2) λ_ _ _ _ _ _ b=>⟨_,(aj (aP (PU.pt (bO (aC fO (aF aV (by rfl) a OP (aa (dv 0) ah)) ae) (bO (bL (bF (cG (by rfl) d (by rfl) e boot_list (.inr (.inr (.inr (.inl rfl)))) (ai (dv 0) ae)))) (bO (aC cT (aF aV (by rfl) a OP (aa (ai (dv 0) ae) ah)) ae) (dA (aC mQ (aF aV (by rfl) a OP (aa (ai (dv 0) ae) ah)) ae)))))) (ao (ay b6)) aG) (aj (aE 2 dW.nd (dO (aa ae (aa ae (aa ae ah))))) (aj (aE 3 dW.nd (bT ae)) (aj (bK PassesOwn.never rfl (bq (ai (dv 0) ae)) (aS 4 dW.nd) (aj (aP (PU.pt (bO (bL (bF (au c b (aa (dv 4) (aa (dv 1) ah))))) (dA (aC vM (ai (dv 4) ae) (dv 3))))) (ao (ay b6)) aG) (aj (aE 3 dW.nd (ai (dv 4) ae)) (ao (yE 2 dW.nd (by rfl) (by exact bC (osc:=ar jY) (xs:=["_law_here", "_law_there"]) (ns:=[]) (by decide +kernel)) aX.nil (.cons (.cons .nil)) (oE (by rfl) g (aa (dv 2) (aa (ai (dv 4) ae) ah))) (λ_ _ _ _ _=>bW) (λ_ _ _ _ _=>(aq aR (dv 0) (dv 1)))))))) (ao (ay (gQ (dm cT (ai (dv 2) ae) ae) (gQ (dm cf (ai (dv 2) ae) ae) (lT (dm cf (ai (dv 2) ae) ae)))))))))),?_⟩
 rintro ds Q Ed ⟨d,c,rfl,h⟩;x_go;unfold i8 at h;obtain⟨a,rfl,L,B,h⟩:=h;have l2:=B.l2;have l3:=B.l3;unfold iE;lk;rw[Ml (by rfl)];rw[Mj (by rw[Mq];lia),Mj (by rw[Mq];lia)];refine⟨S9 _ _ _,?_⟩;refine PD.bo a N7 (λj b=>∃(l:Int) (v:Option Sl),(∀x∈a.drop j,l<x.1)/\b=[some (.val (.tup [.str "bar", .lst false (a.map N7)])),some (.val (.lst false (c.map aW))),some (.val (.lst true [.int ((a.take j).map λx=>x.2.1).sum,.int ((a.take j).map λx=>x.2.2.1).sum,.int ((a.take j).map λx=>x.2.2.2).sum])),some (.val (.int l)),v]) (λR q=>?_) ⟨-1,none,λx b=>?_,rfl⟩ ?_ ?_
 ·lk;exact q
 ·obtain⟨i,_,e,_⟩:=B.own x (by simpa using b);rw[e];lia
 ·rintro j x k b ⟨l,v,i,rfl⟩;have c:=NF b;obtain⟨e,g⟩:=Nk.mp b;have d:a.drop j=x::a.drop (j+1):=by rw[UK e,g]
  have e:a.take (j+1)=a.take j++[x]:=by rw[List.take_add_one,b];rfl
  have lx:l<x.1:=i x (by rw[d];simp);have b:N7 x=D.tup [.int x.1,.tup [.int x.2.1,.int x.2.2.1,.int x.2.2.2]]:=rfl;lk;refine⟨x,rfl,L,B.own x c,B.bd x c,?_⟩;rw[b];lk;rw[Mj (by lia)];generalize hs0:((a.take j).map λx=>x.2.1).sum=g;generalize hs1:((a.take j).map λx=>x.2.2.1).sum=c;generalize TY:((a.take j).map λx=>x.2.2.2).sum=b;refine PD.og [(g,x.2.1),(c,x.2.2.1),(b,x.2.2.2)] (λz=>[.int z.1,.int z.2]) (λ_=>true) (λz=>.int (z.1+z.2)) (λR q=>?_) (by rw[sizeLine_eq];show 3<=16777216;decide) (λ_=>rfl) (λz c K b=>?_) (λz c _ K b=>?_) ?_
  ·lk;exact q
  ·lk;exact b
  ·lk;exact b
  ·rw[QJ.mpr (λ_ _=>rfl),e];refine⟨x.1,some (.val (.tup [.int x.1,.tup [.int x.2.1,.int x.2.2.1,.int x.2.2.2]])),λw b=>?_,?_⟩
   ·have q:=B.rise;rw[<- Xg j a,d,OC,MN]at q;exact(QK.mp (Ya.mp q).2.1).1 w.1 (M4.mpr ⟨w,b,rfl⟩)
   ·simp only[OC,List.sum_append,MN,Sv,Qb,VE,To,hs0,hs1,TY]
 ·rintro k ⟨l,v,_,rfl⟩;have b:=B.c0;have d:=B.a0;have c:=B.b0;rw[SR,d,c];generalize (a.map λx=>x.2.1).sum=s at b ⊢;lk;rw[Ml b,R3 True.intro];exact h
def yR (F:az K "_law_good" "_law_good" mV f fd) (C:Ny K mg κ)  (e:Ax P w K mg base κ) (d:yv P w K mg base κ) (b:mg "isinstance" = none) (g:mg "len" = none) (c:mg "str" = none) (h:mg "tuple" = none):aM P w K mg base (CX1 P w) 5 f fd ["_law_found", "_law_sets_here"] (aN K (lM κ)):=by
 refine az.okN F yX (by fin2) λ_ _ _ _ _ _ a=>⟨_,(aj (aP (PU.pt (bO (bL (bF (cG (by rfl) b (by rfl) h boot_tuple (.inr (.inr (.inl rfl))) (dv 0)))) (bO (aC cT (aF aV (by rfl) g OP (aa (dv 0) ah)) ae) (dA (bL (bF (cG (by rfl) b (by rfl) c boot_str (.inr (.inr (.inr (.inr rfl)))) (ai (dv 0) ae)))))))) (ao (ay b6)) aG) (aj (aP (aC (mP (by exact a.units)) (ai (dv 0) ae) ku) (ao (ay (au d a (aa (dv 0) (aa (dv 1) ah))))) aG) (ao (ay (gQ (dm (mP (by exact a.units)) (ai (dv 0) ae) ku) (lT (au e a (aa (dv 0) (aa (dv 1) ah))))))))),?_⟩
 rintro ds Q Ed ⟨d,Ls,rfl,h⟩;x_go;unfold fT at h;obtain⟨L,a,h⟩:=h;have c:PyData.strOk "meet" = true:=by decide +kernel
 have e:PyData.strOk "bar" = true:=by decide +kernel
 have b:okD (.str "meet"):=(iL 0 _ c).ok;have d:okD (.str "bar"):=(iL 0 _ e).ok;have c:eqD (.str "bar") (.str "meet")=false:=by rw[tS];decide +kernel
 rcases a with⟨y,a,rfl,g⟩| ⟨a,rfl,B⟩
 ·have u:aJ (ft y a)=ft y a:=by
   unfold ft;simp only[cq,br,bH,bE,jv,da];rw[cE bI lR]
  have e:ft y a=D.tup [.str "meet", Mz y,.lst false (a.map bI)]:=rfl;lk;rw[e];lk;rw[Mj (by show¬((3:Int)<2);decide),Mj (show¬TV "str" (D.str "meet")=false from λz=>by cases z)];refine⟨b,b,?_⟩;rw[Ml (cI _)];exact⟨y,a,by rw[cE bI lR];rfl,L,g,h⟩
 ·have u:aJ (iE a)=iE a:=by
   unfold iE;simp only[cq,br,bH,bE,jv,nF]
  have e:iE a=D.tup [.str "bar", .lst false (a.map N7)]:=rfl;lk;rw[e];lk;rw[Mj (by show¬((2:Int)<2);decide),Mj (show¬TV "str" (D.str "bar")=false from λz=>by cases z)];refine⟨d,b,?_⟩;rw[Mj (by rw[c];simp)];refine⟨d,d,?_⟩;rw[Ml (cI _)];exact⟨a,rfl,L,B,h⟩
def yT (F:az K "_law_sets" "_law_sets" fG f fd) (C:Ny K mg κ)  (d:vo P w K mg base κ) (c:AB P w K mg base κ) (e:vT P w K mg base κ) (h:mg "len" = none) (g:mg "min" = none) (b:mg "range" = none):aM P w K mg base (CX1 P w) 2 f fd ["_law_script"] (aN K (lN κ)):=by
 refine az.okN F bD (by fin2) λ_ _ _ _ _ _ a=>⟨_,(aj (aE 1 bD.nd (au d a (aa (dv 0) (aa ae ah)))) (aj (aE 2 bD.nd (aq aR ae (aq bU (dv 1) ae))) (aj (aE 3 bD.nd (au e a (aa (au d a (aa (dv 0) (aa ae ah))) (aa (aq aD ae (dv 2)) ah)))) (aj (gR 4 bD.nd (by rfl) (by exact bC (osc:=ar fG) (xs:=["_law_k"]) (ns:=["_law_xs"]) (by decide +kernel)) (aX.cons 3 aX.nil) (cn (by rfl) b (aa (dv 2) ah)) (λ_ _ _ _ _=>bW) (λ_ _ _ _ _=>(aq bU (ai (dv 1) (aq aD ae (dv 0))) ae))) (aj (aP (aC cf (aq bU (aq dE (dv 1) ae) ae) ae) (ao (aE 4 bD.nd (aq E5 (dO (aa (ai (dv 4) ae) ah)) (dv 2)))) aG) (aj (yD 5 bD.nd (by rfl) (by exact bC (osc:=ar fG) (xs:=["_law_k"]) (ns:=[]) (by decide +kernel)) aX.nil (cn (by rfl) b (aa (dv 2) ah)) (λ_ _ _ _ _=>(Jw (GQ ah)))) (aj (aE 6 bD.nd ae) (aj (bK PassesOwn.never rfl (cn (by rfl) b (aa ae ah)) (aS 7 bD.nd) (ao (bK PassesOwn.never rfl (cn (by rfl) b (aa (dv 2) ah)) (aS 8 bD.nd) (ao (aP (PU.pt (w6 (aC vM (dv 7) (aq bU (ai (dv 3) (aq aR (aq aD ae (dv 8)) ae)) ae)) (tR (aC cT (dv 6) (aF aV (by rfl) h OP (aa (dv 0) ah)))))) (aj (zA 5 (dv 8) (au c a (aa (ai (dv 0) (dv 6)) (aa (ai (dv 4) (dv 8)) ah)))) (ao (aE 6 bD.nd (aq aR (dv 6) ae)))) aG))))) (aj (bK PassesOwn.never rfl (cn (by rfl) b (aa (dv 2) ah)) (aS 8 bD.nd) (ao (aP (EB 5 (aC (mP (by exact a.units)) (ai (dv 5) (dv 8)) (dO ah))) (ao (zA 5 (dv 8) (au c a (aa (ai (dv 3) (aq aR (aq aD ae (dv 8)) ae)) (aa (ai (dv 4) (dv 8)) ah))))) aG))) (yG 5 (aj (aP (aC cf (aq bU (aq dE (dv 1) ae) ae) ae) (ao (aE 5 bD.nd (Ex (by rfl) (by exact GI (osc:=ar fG) (x := "_law_k") (ns:=["_law_sets_here"]) (by decide +kernel) (by intro _ _;rfl) (by intro _;rfl)) (aX.cons 5 aX.nil) (cn (by rfl) b (aa (dv 2) ah)) (λ_ _ _ _ _ _=>bW) (λ_ _ _ _ _ _=>(wV (by rfl) (by exact GJ (xs:=["_law_x", "_law_y"]) (ns:=["_law_k"]) (by decide +kernel)) (aX.cons 0 aX.nil) (.cons (.cons .nil)) (bq (ai (dv 1) (dv 0))) (λ_ _ _ _ _=>bW) (λ_ _ _ _ _=>(bJ (aa (aF (IS rfl) (by rfl) g boot_min (aa (aq aR (dv 0) (aq aD ae (dv 2))) (aa (aq bG (aq kC ae ae) ae) ah))) (aa (dv 1) ah))))))))) aG) (ao (ay (dv 5)))))))))))))),?_⟩
 rintro ds Q Ed ⟨ns,rfl,h⟩;x_go;unfold i9 at h;obtain⟨c,h⟩:=h;refine gC (λo=>∃v:Int,o=[some (.val (.lst false (ns.map D.int))),some (.val (.int v)),none,none,none,none,none,none,none]) ?_ λK l=>?_
 rotate_left
 ·lk;exact⟨by decide,c,λv=>l _ ⟨v,rfl⟩⟩
 rintro x ⟨v,rfl⟩;refine gC (λo=>∃n:Nat,1<=n/\n<=8/\o=[some (.val (.lst false (ns.map D.int))),some (.val (.int v)),some (.val (.int (n:Int))),none,none,none,none,none,none]) ?_ λK l=>?_
 rotate_left
 ·lk;have f8:=fm (a:=v) (b:=8) (by decide);obtain⟨n,b⟩:∃n:Nat,1+v.fmod 8=(n:Int):=⟨(1+v.fmod 8).toNat,by lia⟩;rw[b];exact⟨by decide,l _ ⟨n,by lia,by lia,rfl⟩⟩
 rintro x ⟨n,n1,n8,rfl⟩;refine gC (λo=>∃xs:yaf,xs.length=3*n/\o=[some (.val (.lst false (ns.map D.int))),some (.val (.int v)),some (.val (.int (n:Int))),some (.val (.lst true (xs.map D.int))),none,none,none,none,none]) ?_ λK l=>?_
 rotate_left
 ·lk;refine⟨by decide,c,λv1=>⟨.inl (by unfold Bd;decide),by lia,by lia,λxs b xb=>l _ ⟨xs,by rw[b];lia,rfl⟩⟩⟩
 rintro x ⟨xs,b,rfl⟩;have I:∀i:Nat,i<3*n->Nx (xs.map D.int) (i:Int)=some (.int (xs.getD i 0)):=λi g=>AL (by lia)
 refine gC (λo=>∃c:yaf,c.length=n/\o=[some (.val (.lst false (ns.map D.int))),some (.val (.int v)),some (.val (.int (n:Int))),some (.val (.lst true (xs.map D.int))),some (.val (.lst true (c.map D.int))),none,none,none,none]) ?_ λK l=>?_
 rotate_left
 ·lk;refine PD.comp_map (List.range' 0 n) (λ(k:Nat)=>D.int (k:Int)) (λ_=>true) (λk=>D.int ((xs.getD (3*k) 0).fmod 4)) (λR q=>?_) (by rw[OO,sizeLine_eq];lia) (λk t K l=>?_) (λk t _ K l=>?_) ?_
  ·lk;rw[jD];exact⟨⟨by lia,by lia⟩,q⟩
  ·lk;exact l
  ·have J:=RX.mp t;have y:=I (3*k) (by lia);rw[show((3*k:Nat):Int)=3*(k:Int)by lia]at y;lk;refine⟨.inl (by unfold Bd;decide),_,y,?_⟩;lk;exact⟨by decide,l⟩
  rw[QJ.mpr (λ_ _=>rfl)];exact l _ ⟨(List.range' 0 n).map λk=>(xs.getD (3*k) 0).fmod 4,by rw[Mq,OO],by rw[NY];rfl⟩
 rintro x ⟨c,b,rfl⟩;refine gC (λo=>∃c:yaf,c.length=n/\o=[some (.val (.lst false (ns.map D.int))),some (.val (.int v)),some (.val (.int (n:Int))),some (.val (.lst true (xs.map D.int))),some (.val (.lst true (c.map D.int))),none,none,none,none]) ?_ λK l=>?_
 rotate_left
 ·lk;refine⟨CD.lit,by decide,?_⟩;split
  ·have d:Nx (c.map D.int) 0=some (.int (c.getD 0 0)):=AL (i:=0) (by lia);refine⟨_,d,by rw[sizeLine_eq];simp,true,_,n,rfl,rfl,by lia,by simp;lia,l _ ⟨List.replicate n (c.getD 0 0),by rw[X8],?_⟩⟩;rw[List.map_replicate,List.flatten_replicate_singleton]
  ·exact l _ ⟨c,b,rfl⟩
 clear b c;rintro x ⟨c,b,rfl⟩;have L:∀i:Nat,i<n->Nx (c.map D.int) (i:Int)=some (.int (c.getD i 0)):=λi g=>AL (by lia)
 lk;rw[jD];refine⟨⟨by lia,by lia⟩,by rw[Mq,OO,sizeLine_eq];lia,λj b=>b=(List.replicate j ([]:yau)).map eV,rfl,?_,?_⟩
 ·rintro j d b hd rfl;refine⟨N9 _,?_⟩;show _=_;rw[List.replicate_succ',OC];rfl
 rintro b rfl;rw[Mq,OO];lk;refine PD.bo (List.range' 0 8) (λ(k:Nat)=>D.int (k:Int)) (λj o=>∃(d:yat) (a:Nat) (E r:Option Sl),d.length=n/\(∀b∈d,b.length<=j/\∀p∈b,WB 40 p)/\o=[some (.val (.lst false (ns.map D.int))),some (.val (.int v)),some (.val (.int (n:Int))),some (.val (.lst true (xs.map D.int))),some (.val (.lst true (c.map D.int))),some (.ob (.ll (d.map eV))),some (.val (.int (a:Int))),E,r]) (λR q=>?_) ⟨List.replicate n [],2,none,none,by simp,λb m=>by rw[List.eq_of_mem_replicate m];exact⟨N9 _,λp B=>by cases B⟩,rfl⟩ ?_ ?_
 ·lk;have e:=jD 8;rw[show((8:Nat):Int)=8 from rfl]at e;rw[e];exact⟨⟨by decide,by decide⟩,q⟩
 ·rintro j j' x u ⟨d,a,E,r,s,e,rfl⟩;obtain⟨A,z⟩:=Nk.mp u;rw[OO]at A;rw[UO,QM,VF]at z;subst z;lk;refine PD.bo (List.range' 0 n) (λ(k:Nat)=>D.int (k:Int)) (λk o=>∃(d:yat) (a:Nat) (r:Option Sl),d.length=n/\(∀i b,d[i]?=some b->(b.length<=j+1/\(k<=i->b.length<=j))/\∀p∈b,WB 40 p)/\o=[some (.val (.lst false (ns.map D.int))),some (.val (.int v)),some (.val (.int (n:Int))),some (.val (.lst true (xs.map D.int))),some (.val (.lst true (c.map D.int))),some (.ob (.ll (d.map eV))),some (.val (.int (a:Int))),some (.val (.int (j:Int))),r]) (λR q=>?_) ⟨d,a,r,s,λi b g=>?_,rfl⟩ ?_ ?_
  ·lk;rw[jD];exact⟨⟨by lia,by lia⟩,q⟩
  ·have q:=e b (NF g);exact⟨⟨by lia,λ_=>q.1⟩,q.2⟩
  ·rintro k M x A ⟨d,a,r,s,e,rfl⟩;obtain⟨t,C⟩:=Nk.mp A;rw[OO]at t;rw[UO,QM,VF]at C;subst C;have u:d[k]?=some (d.getD k []):=AK (by lia);have y:=I (3*k+1) (by lia);rw[show((3*k+1:Nat):Int)=3*(k:Int)+1 by lia]at y;have H:∀i b,d[i]?=some b->(b.length<=j+1/\(k+1<=i->b.length<=j))/\∀p∈b,WB 40 p:=λi b g=>⟨⟨(e i b g).1.1,λz=>(e i b g).1.2 (by lia)⟩,(e i b g).2⟩
   lk;refine⟨.inl (by unfold Bd;decide),_,y,?_⟩;lk;refine⟨by decide,?_⟩;split
   ·split
    ·rename_i c1 j;rw[Mq]at j;refine⟨(k:Int),k,(d.getD k []).map MA,rfl,CH (by rw[Mq];lia),by rw[Nj,u];rfl,_,AL (show a<ns.length by lia),_,L k t,?_⟩;rw[cH,cH,iX,dU];intro p B;have lk:=e k _ u;have l1:=lk.1.2 (MS _);refine⟨by rw[Mq,sizeLine_eq];lia,d.set k (d.getD k []++[p]),a+1,some (.val (.int (k:Int))),by rw[Su];exact s,λi b g=>?_,?_⟩
     ·by_cases j:i=k
      ·subst j;rw[O9 (by lia)]at g;cases g;refine⟨⟨by rw[Od,Vu];lia,λz=>absurd z (by lia)⟩,λq G=>?_⟩;rcases Nu.mp G with q'|q'
       ·exact lk.2 q q'
       ·rw[Oy.mp q'];exact B
      ·rw[Ov (Ne.symm j)]at g;exact H i b g
     ·rw[zQ];rfl
    ·exact⟨d,a,_,s,H,rfl⟩
   ·exact⟨d,a,_,s,H,rfl⟩
  ·rintro x ⟨d,a,r,s,e,rfl⟩;exact⟨d,a,_,_,s,λb m=>by obtain⟨i,g⟩:=Z8 m;exact⟨(e i b g).1.1,(e i b g).2⟩,rfl⟩
 ·rintro x ⟨d,a,E,r,s,e,rfl⟩;lk;refine PD.bo (List.range' 0 n) (λ(k:Nat)=>D.int (k:Int)) (λk o=>∃(d:yat) (r:Option Sl),d.length=n/\(∀i b,d[i]?=some b->b.length<=8/\(i<k->0<b.length)/\∀p∈b,WB 40 p)/\o=[some (.val (.lst false (ns.map D.int))),some (.val (.int v)),some (.val (.int (n:Int))),some (.val (.lst true (xs.map D.int))),some (.val (.lst true (c.map D.int))),some (.ob (.ll (d.map eV))),some (.val (.int (a:Int))),E,r]) (λR q=>?_) ⟨d,r,s,λi b g=>?_,rfl⟩ ?_ ?_
  ·lk;rw[jD];exact⟨⟨by lia,by lia⟩,q⟩
  ·have q:=e b (NF g);exact⟨q.1,λz=>absurd z (by lia),q.2⟩
  ·rintro k M x A ⟨d,r,s,e,rfl⟩;obtain⟨t,C⟩:=Nk.mp A;rw[OO]at t;rw[UO,QM,VF]at C;subst C;have u:d[k]?=some (d.getD k []):=AK (by lia);have y:=I (3*k+2) (by lia);rw[show((3*k+2:Nat):Int)=3*(k:Int)+2 by lia]at y;have Rm:Nx (d.map aW) (k:Int)=some (.lst false ((d.getD k []).map MA)):=bg (by rw[Nj,u];rfl);have lk:=e k _ u;lk;rw[FE];refine⟨_,Rm,N9 _,(sC false _).ok,(sC true []).ok,?_⟩;rw[eq_nil];by_cases c:d.getD k []=[]
   ·rw[Ml (R3 c)];refine⟨(k:Int),k,(d.getD k []).map MA,rfl,CH (by rw[Mq];lia),by rw[Nj,u];rfl,.inl (by unfold Bd;decide),_,y,_,L k t,?_⟩;rw[cH,cH,iX,dU];intro p B;refine⟨by rw[Mq,sizeLine_eq];lia,d.set k (d.getD k []++[p]),some (.val (.int (k:Int))),by rw[Su];exact s,λi b g=>?_,?_⟩
    ·by_cases j:i=k
     ·subst j;rw[O9 (by lia)]at g;cases g;rw[c];refine⟨by simp,λ_=>by simp,λq G=>?_⟩;rw[QV]at G;rw[Oy.mp G];exact B
     ·rw[Ov (Ne.symm j)]at g;exact⟨(e i b g).1,λz=>(e i b g).2.1 (by lia),(e i b g).2.2⟩
    ·rw[zQ]
   ·rw[Mj (by rw[decide_eq_true_eq];exact c)];refine⟨d,_,s,λi b g=>⟨(e i b g).1,λz=>?_,(e i b g).2.2⟩,rfl⟩;by_cases j:i=k
    ·subst j;rw[u]at g;cases g;exact Z9.mpr c
    ·exact(e i b g).2.1 (by lia)
  ·rintro x ⟨d,r,s,e,rfl⟩;rw[OO]at e;have a:∀b∈d,b.length<=8/\0<b.length/\∀p∈b,WB 40 p:=λb m=>by
    obtain⟨i,g⟩:=Z8 m;have il:=(Nk.mp g).1;exact⟨(e i b g).1,(e i b g).2.1 (by lia),(e i b g).2.2⟩
   lk;rw[EI];refine⟨CD.lit,by decide,?_⟩;split
   ·refine PD.comp_map (List.range' 0 n) (λ(k:Nat)=>D.int (k:Int)) (λ_=>true) (λk=>d6 (Vr k (d.getD k []))) (λR q=>?_) (by rw[OO,sizeLine_eq];lia) (λk t K l=>?_) (λk t _ K l=>?_) ?_
    ·lk;rw[jD];exact⟨⟨by lia,by lia⟩,q⟩
    ·lk;exact l
    ·have J:=RX.mp t;have u:d[k]?=some (d.getD k []):=AK (by lia);have Rm:Nx (d.map d6) (k:Int)=some (.lst true ((d.getD k []).map MA)):=bg (by rw[Nj,u];rfl);have l8:=(a _ (NF u)).1;refine PD.og (d.getD k []) (λz=>[.int z.1,.int z.2]) (λ_=>true) (λz=>MA (min (z.1+2*(k:Int)) 999999999999,z.2)) (λR q=>?_) (by rw[sizeLine_eq];lia) (λ_=>rfl) (λz c K l=>?_) (λz c _ K l=>?_) ?_
     ·lk;refine⟨_,Rm,?_⟩;lk;exact q
     ·lk;exact l
     ·lk;rw[show(10:Int) ^ Int.toNat 12 - 1=999999999999 by decide];exact⟨.inl (by unfold Bd;decide),⟨by decide,by decide,by decide⟩,Ta _ _,l⟩
     ·rw[QJ.mpr (λ_ _=>rfl)];have c:(d.getD k []).map (λz=>MA (min (z.1+2*(k:Int)) 999999999999,z.2))=(Vr k (d.getD k [])).map MA:=by unfold Vr;rw[NY];rfl
      rw[c];exact l
    ·rw[QJ.mpr (λ_ _=>rfl)];have c:(List.range' 0 n).map (λk=>d6 (Vr k (d.getD k [])))=((List.range' 0 n).map λk=>Vr k (d.getD k [])).map d6:=by rw[NY];rfl
     rw[c];have c:∀b∈(List.range' 0 n).map (λk=>Vr k (d.getD k [])),b.length<=8/\0<b.length/\∀p∈b,WB 40 p:=λb m=>by obtain⟨k,t,rfl⟩:=M4.mp m;have J:=RX.mp t;have u:d[k]?=some (d.getD k []):=AK (by lia);have q:=a _ (NF u);exact⟨by unfold Vr;rw[Mq];exact q.1,by unfold Vr;rw[Mq];exact q.2.1,Kw (by lia) q.2.2⟩
     exact h _ ⟨by rw[Mq,OO];lia,by rw[Mq,OO];lia,λb m=>(c b m).2.1,λb m=>by have:=(c b m).1;lia,λb m=>(c b m).2.2⟩
   ·exact h d ⟨by lia,by lia,λb m=>(a b m).2.1,λb m=>by have:=(a b m).1;lia,λb m=>(a b m).2.2⟩
def sF (F:az K "_law_shortest" "_law_shortest" iR f fd) (C:Ny K mg κ)  (b:uF P w K mg base κ) (c:mg "list" = none) (d:mg "zip" = none):aM P w K mg base (CX1 P w) 6 f fd ["_law_found", "_law_sets_here"] (aN K (ip κ)):=by
 refine az.okN F ib (by fin2) λ_ _ _ _ _ _ a=>⟨_,(aj (aP (aC (mP (by exact a.units)) (ai (dv 0) ae) ku) (ao (ay b6)) aG) (aj (bK PassesOwn.never rfl (oE (by rfl) d (aa (ai (dv 0) ae) (aa (dv 1) ah))) (je (n:=2) rfl (cC (aS 2 ib.nd) (cC (aS 3 ib.nd) iJ))) (ao (aP (aC (vN (by exact a.units)) (au b a (aa ((zy (by rfl) c (dv 3))).Ub (aa (ai (dv 0) ae) ah))) (bJ (aa ku (aa (ai (dv 2) ae) (aa (ai (dv 2) ae) ah))))) (ao (ay b6)) aG))) (ao (ay b6)))),?_⟩
 rintro ds Q Ed ⟨d,b,rfl,h⟩;x_go;unfold eI at h;obtain⟨L,d,h⟩:=h;have a:∀x:Str,PyData.strOk x=true->okD (.str x):=λx c=>(iL 0 x c).ok
 rcases d with⟨y,rfl,i,j⟩| ⟨rs,rfl⟩
 rotate_left
 ·unfold iE;lk;rw[cI,Ml rfl];exact⟨a _ (by decide +kernel),a _ (by decide +kernel),h⟩
 unfold ft;have l8:=L.l8;lk;rw[Mj (by rw[tS];decide)];refine⟨a _ (by decide +kernel),a _ (by decide +kernel),?_⟩;refine EF ((b.map (PC y)).zip b) (λz=>D.tup [bI z.1,aW z.2]) (λa=>∃e d:Option Sl,a=[some (.val (.tup [.str "meet", Mz y,.lst false ((b.map (PC y)).map bI)])),some (.val (.lst false (b.map aW))),e,d]) (λR q=>?_) ⟨none,none,rfl⟩ ?_ ?_
 ·lk;rw[zip_parts];exact q
 ·rintro z l g ⟨e,d,rfl⟩;have c:=(VA (a:=z.1) (b:=z.2) g).2;have b:z.1=PC y z.2:=yu g;have g:bI z.1=D.tup [.lst false (z.1.1.map λ(k:Nat)=>D.int (k:Int)),.lst false (z.1.2.map D.int)]:=rfl;lk;refine⟨_,_,rfl,?_⟩;rw[fL];show iq κ [.lst false (z.2.map MA),T3 y.1 y.2.1 y.2.2] _ _;rw[jO,fF];refine⟨L.ne _ c,L.le _ c,λp a=>((L.bd _ c p a).mono (by decide)).sb,i.cb.pb i.pr,_,j _ c,?_⟩;rw[g,b];generalize PC y z.2=r;lk;have a:∀(t:Bool) (r:yag×yaf),okD (.tup [.str "in", .lst t (r.1.map λ(k:Nat)=>D.int (k:Int)),.lst t (r.2.map D.int)]):=λt r=>(Nm.tup (.cons (iL 1 _ (by decide +kernel)) (.cons (Nm.map λk=>Nm.int 0 _) (.cons (Nm.map (Nm.int 0)) (.nil _))))).ok
  have b:eqD (.tup [.str "in", Pk r.1,.lst true (r.2.map D.int)]) (.tup [.str "in", .lst false (r.1.map λ(k:Nat)=>D.int (k:Int)),.lst false (r.2.map D.int)])=true:=by unfold Pk;rw[pN,cM,cM,cM,iI,cI,gS,gS];rfl
  refine⟨S9 _ _ _,a true r,a false r,?_⟩;rw[b,Mj (by decide)];exact⟨_,_,rfl⟩
 ·rintro l ⟨e,d,rfl⟩;lk;exact h
def J8 (F:az K "law" "law" hW f fd) (C:Ny K mg κ)  (NS:Ay P w K mg base κ) (O8:AA P w K mg base κ) (NU:tJ P w K mg base κ) (Y:vS P w K mg base κ) (MJ:mg "list" = none):aM P w K mg base (CX1 P w) 9 f fd ["_law_script"] (aN K sU):=by
 refine az.Zy F kJ (by fin2) λ_ _ _ _ _ _ c=>⟨_,(iF (aE 1 kJ.nd (au O8 c (aa (dv 0) ah))) (iF (gR 2 kJ.nd (by rfl) (by exact bC (osc:=ar hW) (xs:=["_law_spots"]) (ns:=[]) (by decide +kernel)) aX.nil (bq (dv 1)) (λ_ _ _ _ _=>bW) (λ_ _ _ _ _=>((zy (by rfl) MJ (dv 0))).Ub)) (iF (aE 3 kJ.nd (au Y c (aa (dv 2) ah))) (iF (aP (PU.pt (bO (bL (bF (au NS c (aa (dv 3) (aa (dv 1) ah))))) (bO (aC (vN (by exact c.units)) (dv 2) (dv 1)) (dA (bL (bF (au NU c (aa (dv 3) (aa (dv 1) ah))))))))) (ao (ay b6)) aG) (iF (aE 4 kJ.nd (au Y c (aa (QS.Ub (wZ (dv 2))) ah))) (iF (aP (PU.pt (bO (bL (bF (au NS c (aa (dv 4) (aa (QS.Ub (wZ (dv 1))) ah))))) (dA (aC (vN (by exact c.units)) (ai (dv 4) ae) (ai (dv 3) ae))))) (ao (ay b6)) aG) (BU 4 (BV (ix:=3) (iy:=5) (by rfl) (by decide) (Il 5 kJ.nd (by rfl) (by exact bC (osc:=ar hW) (xs:=["_law_row_here"]) (ns:=[]) (by decide +kernel)) aX.nil (bq (ai (dv 3) (bT ae))) (λ_ _ _ _ _=>bW) (λ_ _ _ _ _=>(dv 0))) (Kl 3) (iF (aE 6 kJ.nd (au Y c (aa (dv 1) ah))) (IM (ay (gQ (au NS c (aa (dv 6) (aa (dv 1) ah))) (gQ (dm (mP (by exact c.units)) (rM (dv 6) dw (gH (bT ae))) (rM (dv 3) dw (gH (bT ae)))) (lT (dm (mP (by exact c.units)) (ai (dv 6) (bT ae)) (dv 5)))))))))))))))),?_⟩
 rintro ds Q Ed ⟨ns,rfl,hl,h⟩;x_go;have W5:∀x:Str,PyData.strOk x=true->okD (.str x):=λx n=>(iL 0 x n).ok
 have sM:=W5 "meet" (by decide +kernel);have sB:=W5 "bar" (by decide +kernel);lk;refine⟨hl,λa L=>?_⟩;have l8:=L.l8;refine PD.comp_map a d6 (λ_=>true) d6 (λR q=>?_) (by rw[sizeLine_eq];lia) (λx n K g=>?_) (λps pm _ K g=>?_) ?_
 ·lk;exact q
 ·lk;exact g
 ·lk;exact⟨_,_,rfl,g⟩
 rw[QJ.mpr (λ_ _=>rfl)];have ut:bf (a.map d6)=a.map aW:=jc a;have ur:bf (a.map d6).reverse=a.reverse.map aW:=by rw[<- List.map_reverse];exact jc a.reverse
 rw[bE,ut,gF,cX];refine⟨L,λd s=>?_⟩;refine⟨L,pR L s,J6 a,J6 a,?_⟩;rw[cI,Mj (by decide)];refine⟨L,EK L s,true,_,rfl,?_⟩;rw[ur,gF,cX];refine⟨L.rev,λe he=>?_⟩;rw[ml,fT];refine⟨L.rev,pR L.rev he,true,rfl,?_⟩;rw[Mj (by decide)];have okd:∀t,okD (.lst t (a.map aW)):=λt=>LV t a
 have J:a ≠ []:=UL L.l0;rcases JN L L.rev s he with⟨y,z,qs,rfl,MO,mx,rfl,MO'⟩| ⟨e,qs,rfl,B,rfl,B'⟩
 ·unfold jS;lk;rw[cI,Mj (by decide)];refine⟨sM,sM,?_⟩;obtain⟨I,m,O⟩:∃p m,a=p::m:=by
   cases a with
   |nil=>exact absurd rfl J
   |cons p q=>exact⟨p,q,rfl⟩
  have l:(a.map (PC y)).map cU=cU (PC y I)::(m.map (PC y)).map cU:=by rw[O];rfl
  have N:∀t,iB ((a.map (PC y)).map cU) (.lst t (ns.map D.int)):=λt=>by rw[l];exact mH (oP _)
  have u:iB ((a.map (PC y)).map cU) (.lst true (a.map d6)):=by rw[l];exact xf (oP _) J
  have fP:∀p,iB ((a.map (PC y)).map cU) (bI p):=λp=>by rw[l];exact EE (oP _)
  have H:aJ (D.tup ([.str "meet", Mz y]++[.lst true ((a.map (PC y)).map cU)]))=.tup [.str "meet", Mz y,.lst false ((a.map (PC y)).map bI)]:=j5 y _;have c:(a.map (PC y)).length<=8:=by rw[Mq];exact l8
  clear l;generalize hRS:a.map (PC y)=U at *;refine⟨[.str "meet", Mz y],_,rfl,rfl,λj d G b=>?_,λj x G b=>?_,?_⟩
  ·rcases j with _|_|_|_|_|_|_|j
   ·cases b;exact N _
   ·cases b;exact u
   ·cases b;exact u
   ·exact absurd rfl G
   ·cases b
   ·cases b
   ·cases b
   ·cases b
  ·rcases j with _|_|_|_|_|_|_|j<;>cases b
  rw[H];refine PD.comp_map U bI (λ_=>true) bI (λR q=>?_) (by rw[sizeLine_eq];lia) (λx n K g=>?_) (λx n _ K g=>?_) ?_
  ·lk;exact⟨_,rfl,_,_,rfl,q⟩
  ·lk;exact g
  ·lk;exact g
  rw[QJ.mpr (λ_ _=>rfl)];refine⟨_,rfl,λz M=>by obtain⟨p,_,rfl⟩:=M4.mp M;exact fP p,?_⟩;lk;refine⟨L,λd3 E=>⟨L,pR L E,?_⟩⟩;have T:=Cv E s;subst T;have o:¬HT.MZ 3 3 (some (-1))=3:=by decide
  have A:∀x:D,PD.cutD [.str "meet", Mz y,x] none (some (-1))=[.str "meet", Mz y]:=λ_=>rfl
  have C:okD (.tup [.str "meet", Mz y]):=(Nm.tup (.cons (iL 1 _ (by decide +kernel)) (.cons (pU y) (.nil _)))).ok;have i:okD (.lst true (U.map bI)):=(Nm.map λr:yag×yaf=>(Nm.tup (.cons (Nm.map λk=>Nm.int 0 _) (.cons (Nm.map (Nm.int 0)) (.nil _))):Nm 2 (bI r))).ok;refine⟨_,rfl,λz=>o z.2,λz=>o z.2,?_⟩;rw[A,A,cI,Ml rfl];refine⟨C,C,?_⟩;unfold jS;rw[qU];refine⟨_,rfl,Ht U,i,?_⟩;rw[lW,w8];exact h
 ·unfold nZ;lk;rw[cI,Mj (by decide)];refine⟨sB,sB,?_⟩;obtain⟨I,m,O⟩:∃p m,e=p::m:=by
   cases e with
   |nil=>exact absurd B.l2 (by decide)
   |cons p q=>exact⟨p,q,rfl⟩
  have l:e.map N7=N7 I::m.map N7:=by rw[O];rfl
  have N:∀t,iB (e.map N7) (.lst t (ns.map D.int)):=λt=>by rw[l];exact mH (Aa _)
  have u:iB (e.map N7) (.lst true (a.map d6)):=by rw[l];exact xf (Aa _) J
  have H:aJ (D.tup ([.str "bar"]++[.lst true (e.map N7)]))=.tup [.str "bar", .lst false (e.map N7)]:=pB e;have c:=B.l3;refine⟨[.str "bar"],_,rfl,rfl,λj d G b=>?_,λj x G b=>?_,?_⟩
  ·rcases j with _|_|_|_|_|_|_|j
   ·cases b;exact N _
   ·cases b;exact u
   ·cases b;exact u
   ·exact absurd rfl G
   ·cases b
   ·cases b
   ·cases b
   ·cases b
  ·rcases j with _|_|_|_|_|_|_|j<;>cases b
  rw[H];refine PD.comp_map e N7 (λ_=>true) N7 (λR q=>?_) (by rw[sizeLine_eq];lia) (λx n K g=>?_) (λx n _ K g=>?_) ?_
  ·lk;exact⟨_,rfl,_,_,rfl,q⟩
  ·lk;exact g
  ·lk;exact g
  rw[QJ.mpr (λ_ _=>rfl)];refine⟨_,rfl,λz M=>by obtain⟨p,_,rfl⟩:=M4.mp M;exact G0 rfl,?_⟩;lk;refine⟨L,λd3 E=>⟨L,pR L E,?_⟩⟩;have T:=Cv E s;subst T;have o:¬HT.MZ 2 2 (some (-1))=2:=by decide
  have A:∀x:D,PD.cutD [.str "bar", x] none (some (-1))=[.str "bar"]:=λ_=>rfl
  have C:okD (.tup [.str "bar"]):=(Nm.tup (.cons (iL 1 _ (by decide +kernel)) (.nil _))).ok;have i:okD (.lst true (e.map N7)):=(Nm.map λx:Int×Tr=>(Nm.tup (.cons (.int 1 _) (.cons (pU x.2) (.nil _))):Nm 2 (N7 x))).ok;refine⟨_,rfl,λz=>o z.2,λz=>o z.2,?_⟩;rw[A,A,cI,Ml rfl];refine⟨C,C,?_⟩;unfold nZ;rw[qU];refine⟨_,rfl,i,i,?_⟩;rw[cI];exact h
end
def all_mk {l:PySem.W.OpenLaw} {K:yac} (X:K.In h) (G:h.Ns mainGlobals mg) (r:mg "law" = some (.ref fa))
  {i:Option Addr} {e:Array (yan)} {j:Value}
  (e0:FL K "sign" xX)
  (e1:FL K "common_divisor" gr)
  (e2:FL K "lowest" mY)
  (e3:FL K "reduced" oW)
  (e4:FL K "picks" pY)
  (e5:FL K "value" ui)
  (e6:FL K "side" xW)
  (e7:FL K "with_share" kI)
  (e8:FL K "crossed" oS)
  (e9:FL K "facing" qW)
  (e10:FL K "place" ug)
  (e11:FL K "place_of" mZ)
  (e12:FL K "swing" uh)
  (e13:FL K "arrow" ue)
  (e14:FL K "turn" xY)
  (e15:FL K "back" xV)
  (e16:FL K "left_of" oV)
  (e17:FL K "chain" uf)
  (e18:FL K "hull" sN)
  (e19:FL K "thin_bounds" jJ)
  (e20:FL K "bounds" mU)
  (e21:FL K "length" qX)
  (e22:FL K "are_opposite" iP)
  (e23:FL K "balance_of_two" gn)
  (e24:FL K "balance_of_three" c6)
  (e25:FL K "balance" oR)
  (e26:FL K "mixture" jo)
  (e27:FL K "place_between" h8)
  (e28:FL K "clipped" kY)
  (e29:FL K "common" qV)
  (e30:FL K "last_needed" jG)
  (Y:FL K "constant" jX)
  (U:FL K "bars" sL)
  (T:FL K "owned_gauges" fH)
  (Q:FL K "bar_rows" jW)
  (O:FL K "hulls_meet" eZ)
  (N:FL K "_law_whole" lE)
  (M:FL K "_law_cell_at" jH)
  (L:FL K "_law_divisor" jI)
  (J:FL K "_law_stream" kH)
  (I:FL K "_law_spot" mX)
  (H:FL K "_law_is_place" iQ)
  (E:FL K "_law_numbers" gc)
  (B:FL K "_law_part" mW)
  (A:FL K "_law_meets" lD)
  (z:FL K "_law_row" oU)
  (y:FL K "_law_bars" jY)
  (x:FL K "_law_good" mV)
  (u:FL K "_law_sets" fG)
  (t:FL K "_law_shortest" iR)
  (C:PySem.W.nsIn K mainGlobals "law" = some (some (.ref f50))) (p:K.lookup f50=some ⟨j,i,.func (PySem.W.fnOf "law" "law" (fi hW) (cN hW) (ar hW) .none kV50 dc50 pm50 an50 ZV ct50),e⟩) (c50:PySem.W.codeIn K ZV "law" = true) (q:PySem.W.keepIn K (.ref f50)=true)
  (Nq:PySem.W.nsIn K mainGlobals "PlaneError" = some (some (.ref Rc)))
  (Ol:PySem.W.nsIn K mainGlobals "NoPlace" = some (some (.ref Th)))
  (OM:PySem.W.nsIn K mainGlobals "TooFew" = some (some (.ref Uq)))
  (k:PySem.W.nsIn K mainGlobals "abs" = some none) (O5:PySem.W.nsIn K mainGlobals "bool" = some none) (M3:PySem.W.nsIn K mainGlobals "enumerate" = some none) (Qt:PySem.W.nsIn K mainGlobals "int" = some none) (b:PySem.W.nsIn K mainGlobals "isinstance" = some none) (a:PySem.W.nsIn K mainGlobals "len" = some none) (d:PySem.W.nsIn K mainGlobals "list" = some none) (Qp:PySem.W.nsIn K mainGlobals "max" = some none) (n:PySem.W.nsIn K mainGlobals "min" = some none) (c:PySem.W.nsIn K mainGlobals "range" = some none) (Qo:PySem.W.nsIn K mainGlobals "set" = some none) (o:PySem.W.nsIn K mainGlobals "sorted" = some none) (Qu:PySem.W.nsIn K mainGlobals "str" = some none) (m:PySem.W.nsIn K mainGlobals "sum" = some none) (g:PySem.W.nsIn K mainGlobals "tuple" = some none) (f:PySem.W.nsIn K mainGlobals "zip" = some none) :
  ∃ fd:FuncData,(∀(s:Shared) (v:Value),BindsTo s fd ⟨[v],[]⟩ [("_law_script", v)])/\∀base:Heap,K.In base->base.Ns mainGlobals mg->aM l.prog w K mg base (CX1 l.prog w) 9 fa fd ["_law_script"] (aN K sU):=by
 have e:=r.symm.trans (PySem.W.mg_of X G C);cases e;have k:=PySem.W.mg_none_of X G k;have O5:=PySem.W.mg_none_of X G O5;have M3:=PySem.W.mg_none_of X G M3;have Qt:=PySem.W.mg_none_of X G Qt;have b:=PySem.W.mg_none_of X G b;have a:=PySem.W.mg_none_of X G a;have d:=PySem.W.mg_none_of X G d;have Qp:=PySem.W.mg_none_of X G Qp;have n:=PySem.W.mg_none_of X G n;have c:=PySem.W.mg_none_of X G c;have Qo:=PySem.W.mg_none_of X G Qo;have o:=PySem.W.mg_none_of X G o;have Qu:=PySem.W.mg_none_of X G Qu;have m:=PySem.W.mg_none_of X G m;have g:=PySem.W.mg_none_of X G g;have f:=PySem.W.mg_none_of X G f;have C:Ny K mg ⟨Rc,Th,Uq⟩:=⟨PySem.W.mg_of X G Nq,PySem.W.mg_of X G Ol,PySem.W.mg_of X G OM⟩;refine⟨PySem.W.fnOf "law" "law" (fi hW) (cN hW) (ar hW) .none kV50 dc50 pm50 an50 ZV ct50,λs v=>.of_eq rfl,λbase _ _=>?_⟩;have r:=e0.has l.prog w base X G λF=>Hy F C
 have e:=e1.has l.prog w base X G λF=>p6 F C k
 have j:=e2.has l.prog w base X G λF=>C4 F C e
 have s:=e3.has l.prog w base X G λF=>Bn F C e
 have h:=e4.has l.prog w base X G λF=>Fc F C c
 have i:=e5.has l.prog w base X G λF=>Ff F C
 have Qq:=e6.has l.prog w base X G λF=>Hx F C r i
 have Oq:=e7.has l.prog w base X G λF=>vA F C
 have PH:=e8.has l.prog w base X G λF=>Bj F C
 have Ob:=e9.has l.prog w base X G λF=>C2 F C
 have Rb:=e10.has l.prog w base X G λF=>Fd F C s
 have Nn:=e11.has l.prog w base X G λF=>yV F C
 have e:=e12.has l.prog w base X G λF=>Fe F C
 have r:=e13.has l.prog w base X G λF=>E9 F C
 have s:=e14.has l.prog w base X G λF=>Hz F C
 have Ra:=e15.has l.prog w base X G λF=>Hu F C
 have PG:=e16.has l.prog w base X G λF=>Bl F C
 have Qa:=e17.has l.prog w base X G λF=>Fb F C e a
 have e:=e18.has l.prog w base X G λF=>Hw F C Qa Nn a Qo o
 have N4:=e19.has l.prog w base X G λF=>ua F C r Ra Ob PG
 have Qr:=e20.has l.prog w base X G λF=>CZ F C PH N4 a c
 have NP:=e21.has l.prog w base X G λF=>C3 F C k
 have NO:=e22.has l.prog w base X G λF=>sD F C s
 have Np:=e23.has l.prog w base X G λF=>p5 F C NO NP j
 have Nc:=e24.has l.prog w base X G λF=>nR F C j s Qp n
 have s:=e25.has l.prog w base X G λF=>Bh F C Nc Np NP a
 have j:=e26.has l.prog w base X G λF=>Bm F C r s h Nn a
 have r:=e27.has l.prog w base X G λF=>qM F C Rb i
 have i:=e28.has l.prog w base X G λF=>Bi F C r Qq a c
 have r:=e29.has l.prog w base X G λF=>C1 F C i
 have N5:=e30.has l.prog w base X G λF=>tY F C i a
 have O3:=Y.has l.prog w base X G λF=>yP F C m f
 have i:=U.has l.prog w base X G λF=>Hv F C s O3 N5 h d f
 have s:=T.has l.prog w base X G λF=>sG F C Qr e M3
 have h:=Q.has l.prog w base X G λF=>yO F C Oq o
 have Q:=O.has l.prog w base X G λF=>vy F C h i r e j s a
 have e:=N.has l.prog w base X G λF=>xN F C O5 Qt b
 have r:=M.has l.prog w base X G λF=>tZ F C a
 have h:=L.has l.prog w base X G λF=>t6 F C k
 have i:=J.has l.prog w base X G λF=>vz F C c
 have k:=I.has l.prog w base X G λF=>yU F C
 have I:=H.has l.prog w base X G λF=>sE F C h e b a g
 have s:=E.has l.prog w base X G λF=>t8 F C e b a d
 have o:=B.has l.prog w base X G λF=>yS F C h s b a c m g f
 have m:=A.has l.prog w base X G λF=>xM F C I o b a d f
 have h:=z.has l.prog w base X G λF=>Bk F C e b a g
 have e:=y.has l.prog w base X G λF=>yQ F C h b a d f
 have h:=x.has l.prog w base X G λF=>yR F C e m b a Qu g
 have b:=u.has l.prog w base X G λF=>yT F C r k i a n c
 have a:=t.has l.prog w base X G λF=>sF F C j d f
 exact J8 (zF (st:=hW) p c50 q) C h b a Q d
end LW
def PySem.W.Fast.te7490625427198923362:True:=trivial
def PySem.W.Fast.tw9445452588936510890:PySem.Program:=PySem.Challenge.pw_halvecut_k42_whole_meet_or_bar
theorem PySem.W.Fast.te9445452588936510890:PySem.Challenge.pw_halvecut_k42_whole_meet_or_bar=PySem.W.Fast.tw9445452588936510890:=rfl
namespace PySem.W.Fast
def tw2599708373226588897:=()
def tw3716042376471388231:=()
def tw11961003583089860076:=()
def tw434434132520284422:=()
def tw7284930495293787226:=()
def tw13346394694715218675:=()
def tw11340261564924625157:=()
def tw6563642976122806288:=()
def tw4841654623895737382:=()
def tw2338441326076758504:=()
def tw12221660089095725993:=()
def tw16772319911631671714:=()
def tw1147577628604227630:=()
def tw2124168139213887359:=()
def tw8788826045918312377:=()
def tw10177007686445646082:=()
def tw3248519027457989665:=()
def tw7061448282327489755:=()
def tw17876564002612965709:=()
def tw120842750242930090:=()
def tw17692915134523992293:=()
def tw7270598712960243249:=()
def tw15315914203528058263:=()
def tw12658041194272578498:=()
def tw2172460030975711525:=()
def tw9804687940925850337:=()
def tw7357207799536975498:=()
def tw12428413963690412242:=()
def tw4716879115272805779:=()
def tw16282088819604370864:=()
def tw14603829803623921570:=()
def tw2810455731352440386:=()
def tw4428254820465242195:=()
def tw749161575822845730:=()
def tw171205477120006758:=()
def tw6680061084755147007:=()
def tw6437490834530682507:=()
def tw3298004880442197783:=()
def tw5332401440400344799:=()
def tw7522228336192930528:=()
def tw6945663233013790152:=()
def tw14952180014087811060:=()
def tw13891509613940568319:=()
def tw4003183073010669805:=()
def tw17506687313379623399:=()
def tw2143369973112596852:=()
def tw4170369055064267340:=()
def tw11550865578818409105:=()
def tw6770333795583057718:=()
def tw18182740059560510493:=()
def tw9903001867256915948:=()
def tw15050204931849417366:=()
def tw9018982896876077270:=()
def tw14802960729555121445:=()
def tw2975228955427086993:=()
def tw4879933385110283239:=()
def tw7907578223881668143:=()
def tw640402371685696116:=()
end PySem.W.Fast
open PySem PySem.W PyProof.Rows
set_option maxRecDepth 100000 in
set_option maxHeartbeats 0 in
theorem PySem.Challenge.cw_halvecut_k42_whole_meet_or_bar_holds : PySem.Challenge.rw_halvecut_k42_whole_meet_or_bar.Holds := by
 w_on; o_law; k_head; (case hw => w_witness2)
 k_fill
 refine PD.walk (l := PySem.Challenge.rw_halvecut_k42_whole_meet_or_bar) (k := 9) (x := "_law_script") rfl rfl ⟨rfl, by decide, by decide⟩ (λw h Y => PySem.W.kIn_of Y) (λw => by kernel_rfl) ?F
 case F =>
  intro w mg fa h b G a
  refine' LW.all_mk b G a ?e0 ?e1 ?e2 ?e3 ?e4 ?e5 ?e6 ?e7 ?e8 ?e9 ?e10 ?e11 ?e12 ?e13 ?e14 ?e15 ?e16 ?e17 ?e18 ?e19 ?e20 ?e21 ?e22 ?e23 ?e24 ?e25 ?e26 ?e27 ?e28 ?e29 ?e30 ?e31 ?e32 ?e33 ?e34 ?e35 ?e36 ?e37 ?e38 ?e39 ?e40 ?e41 ?e42 ?e43 ?e44 ?e45 ?e46 ?e47 ?e48 ?e49 ?a50 ?l50 ?c50 ?k50 ?Nq ?Ol ?OM ?NN ?O5 ?M3 ?Qt ?Mi ?Mn ?MJ ?Qp ?OV ?Ms ?Qo ?Nb ?Qu ?OW ?MK ?M8
  all_goals try (refine' PD.FL.mk ?a ?l ?c ?k; (case a => k_is); (case l => k_is); (case c => k_is); (case k => k_is))
  (case a50 => k_is)
  (case l50 => k_is)
  (case c50 => k_is)
  (case k50 => k_is)
  (case Nq => k_is)
  (case Ol => k_is)
  (case OM => k_is)
  (case NN => k_is)
  (case O5 => k_is)
  (case M3 => k_is)
  (case Qt => k_is)
  (case Mi => k_is)
  (case Mn => k_is)
  (case MJ => k_is)
  (case Qp => k_is)
  (case OV => k_is)
  (case Ms => k_is)
  (case Qo => k_is)
  (case Nb => k_is)
  (case Qu => k_is)
  (case OW => k_is)
  (case MK => k_is)
  (case M8 => k_is)
