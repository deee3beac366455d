import PyProof.Rows.All
import Wide.All
import OpenK.AllK
import Wide.FinOn
import Lean
import PyProof.EqAt
import PyProof.EqKinds
import PyProof.TupleCall
import PySem.Challenge.RW_halvecut_k53_whole_regions
set_option compiler.extract_closed false
set_option bootstrap.genMatcherCode false
set_option tactic.hygienic false
set_option Elab.async false
set_option linter.all false set_option autoImplicit true set_option relaxedAutoImplicit true
set_option maxRecDepth 100000
noncomputable section
abbrev yaa:=PySem.Value->PySem.Shared->Prop
abbrev yab:=List (PySem.Addr×PySem.Obj)
abbrev yac:=PySem.W.Frag
abbrev yad:=List PySem.Value
abbrev yae:=List PySem.Addr
abbrev yaf:=List Int
abbrev yag:=List Nat
abbrev yah:=List PySem.Str
abbrev yai:=List PySem.Expr
abbrev yaj:=Nat->Option PySem.Addr
abbrev yak:=Bool->PySem.Addr->Prop
abbrev yal:=List PySem.Stmt
abbrev yam:=PySem.Str->Option PySem.Value
abbrev yan:=Option PySem.Value
abbrev yao:=Array PySem.Value
abbrev yap:=Array Nat
abbrev yaq:=Option Int
def LJ:=@List.length_map
def LA:=@PySem.wpAny_bind
def Lw:=@if_neg
def Lx:=@if_pos
def MZ:=@List.getElem?_eq_getElem
def L9:=@List.mem_cons
def MO:=@List.mem_cons_of_mem
def MC:=@List.mem_append
def Ms:=@List.mem_map
def Ma:=@PySem.wpAny_pure
def NH:=@Array.getElem?_toList
def Mw:=@Nat.le_refl
def LZ:=@PyProof.Rows.wpS_bind
def MR:=@List.map_cons
def OC:=@List.getElem?_eq_some_iff
def Nz:=@List.length_append
def M3:=@Int.mul_nonneg
def Oi:=@PySem.Heap.get?_push_of_some
def NI:=@List.mem_singleton
def OZ:=@List.getD_eq_getElem?_getD
def MT:=@Int.le_of_lt
def Oq:=@List.mem_append_right
def Mm:=@PyProof.Rows.wpS_pure
def M4:=@Int.mul_comm
def OL:=@List.mem_of_getElem?
def Nn:=@PySem.Heap.lt_size
def P5:=@List.getElem?_append_right
def NL:=@decide_eq_true
def Ot:=@List.size_toArray
def OD:=@List.getElem?_map
def Np:=@Int.le_refl
def OM:=@Nat.lt_of_lt_of_le
def O0:=@List.mem_cons_self
def NM:=@Nat.le_trans
def OP:=@of_decide_eq_true
def QK:=@Int.mul_neg_of_pos_of_neg
def QT:=@List.getElem?_append_left
def Qh:=@List.take_append_drop
def ON:=@Option.some.inj
def O5:=@List.cons_append
def OQ:=@List.map_append
def Qi:=@List.getElem?_set_ne
def Qj:=@List.mem_append_left
def P6:=@Array.length_toList
def Pn:=@List.append_assoc
def Pf:=@Nat.mod_eq_of_lt
def P7:=@List.pairwise_cons
def Qu:=@PySem.Heap.get?_push_size
def Sq:=@Int.nonneg_of_mul_nonneg_right
def RH:=@Array.getElem?_eq_getElem
def RI:=@Int.mul_neg_of_neg_of_pos
def RJ:=@List.pairwise_iff_getElem
def OH:=@List.map_map
def PQ:=@List.cons.injEq
def PR:=@List.nil_append
def QL:=@Bool.false_eq_true
def Qv:=@Bool.false_ne_true
def P8:=@List.length_take
def PT:=@Int.mul_eq_zero
def Rk:=@List.take_of_length_le
def OE:=@Nat.zero_le
def O1:=@Int.add_zero
def QU:=@List.length_range'
def Qw:=@List.getElem_mem
def Qx:=@List.length_cons
def Qy:=@List.length_drop
def O6:=@Nat.ne_of_lt
def Pg:=@Int.mul_zero
def O2:=@Int.mul_pos
def O3:=@Int.neg_mul
def QM:=@List.append_nil
def N2:=@Prod.ext
def UP:=@Int.mul_nonpos_of_nonpos_of_nonneg
def QV:=@List.not_mem_nil
def RK:=@List.filter_eq_self
def RL:=@List.getElem_of_mem
def O7:=@Int.not_le
def Rl:=@List.getElem_map
def Rb:=@List.mem_filter
def Sr:=@List.pairwise_append
def QN:=@PySem.wpAny_holding
def UQ:=@List.eq_nil_of_length_eq_zero
def Ua:=@Int.mul_pos_of_neg_of_neg
def Ub:=@List.drop_eq_getElem_cons
def TL:=@List.getElem?_set_self
def PU:=@PySem.wpAny_mono
def QO:=@Nat.succ_pos
def P9:=@Nat.mod_lt
def UR:=@Array.getElem?_eq_some_iff
def R3:=@Nat.lt_succ_self
def Rc:=@Prod.mk.injEq
def WR:=@Int.mul_nonneg_of_nonpos_of_nonpos
def QW:=@Int.zero_mul
def QX:=@Nat.zero_add
def Ss:=@PySem.wpAny_setState_of
def QY:=@PyProof.Rows.wpS_forRange
def TM:=@Array.toList_extract
def US:=@List.sublist_append_right
def Uc:=@List.singleton_sublist
def Ud:=@Option.map_eq_some_iff
def R4:=@Nat.min_eq_left
def R5:=@decide_eq_false
def TN:=@List.length_reverse
def Ue:=@List.length_dropLast
def Rm:=@Nat.pow_succ
def TP:=@PySem.wpAny_Call_Name_kw
def SU:=@Bool.and_eq_true
def SV:=@List.lookup_cons
def SX:=@List.mem_reverse
def QZ:=@Int.not_lt
def R6:=@Int.lt_irrefl
def UT:=@Int.natAbs_dvd_natAbs
def WS:=@List.dropLast_concat_getLast
def R7:=@List.map_nil
def SY:=@List.nodup_cons
def UU:=@List.mem_of_mem_drop
def UW:=@List.mem_of_mem_take
def TQ:=@Nat.succ_lt_succ
def Qk:=@PySem.boot_len
def Su:=@Nat.lt_irrefl
def VD:=@PySem.Heap.get?_update_other
def RM:=@Int.one_mul
def UX:=@Array.toList_append
def Qz:=@PyProof.Rows.wpS_mono
def VE:=@PySem.Heap.get?_update_self
def Xz:=@List.getLast?_eq_some_getLast
def Ug:=@List.mem_flatMap
def S1:=@List.sum_cons
def UY:=@Int.lt_trichotomy
def ZJ:=@Int.mul_nonpos_of_nonneg_of_nonpos
def UZ:=@List.mem_range'_1
def Uh:=@Bool.eq_iff_iff
def VF:=@List.map_congr_left
def S4:=@Nat.le_of_lt
def XA:=@Array.perm_iff_toList_perm
def XB:=@Int.eq_of_mul_eq_mul_right
def VG:=@List.getElem?_drop
def VH:=@Nat.lt_of_le_of_lt
def XC:=@Classical.byContradiction
def XD:=@List.extract_eq_take_drop
def XF:=@List.getLastD_eq_getLast?
def ZK:=@Int.mul_le_mul_of_nonneg_right
def U0:=@Int.mul_ne_zero
def U1:=@List.find?_cons
def Sv:=@Nat.not_lt
def VI:=@Array.toList_push
def VJ:=@List.pairwise_map
def VL:=@List.reverse_cons
def VM:=@List.take_sublist
def VN:=@Nat.add_mod_right
def ZL:=@List.drop_append_of_le_length
def XG:=@List.filter_cons_of_neg
def XH:=@List.filter_cons_of_pos
def XI:=@List.getElem?_replicate
def XJ:=@Nat.add_sub_cancel_left
def WT:=@PySem.Heap.SameBut.update
def WU:=@List.getElem_range'
def WV:=@List.reverse_append
def VO:=@Int.dvd_mul_left
def VP:=@List.take_length
def Ui:=@Int.dvd_refl
def WW:=@List.append_of_mem
def Uj:=@Nat.le_of_eq
def VQ:=@PySem.codeAny_builtin
def VR:=@PySem.wpAny_passesOwn
def U3:=@Int.mul_assoc
def U4:=@Nat.le_of_dvd
def WX:=@PySem.wpAny_newObj_type
def WY:=@PySem.wpAny_truthy_bool
def ZM:=@List.getLast?_eq_none_iff
def XM:=@Nat.pow_le_pow_right
def TR:=@PyProof.Rows.wpS_modify
def ZN:=@List.filterMap_cons_some
def XN:=@List.filterMap_cons
def WZ:=@Int.dvd_coe_gcd
def XO:=@List.getElem?_take
def W4:=@List.length_set
def XQ:=@List.mem_filterMap
def XR:=@Nat.lt_or_eq_of_le
def W5:=@PySem.wpAny_execs_nil
def ZO:=@Array.getElem?_eq_none
def ZP:=@Int.fmod_nonneg_of_pos
def zC6:=@Int.mul_le_mul_of_nonneg_left
def XS:=@Nat.le_of_lt_succ
def XT:=@Nat.lt_of_succ_lt
def XU:=@Nat.lt_succ_of_lt
def XW:=@Nat.lt_trichotomy
def VS:=@Int.sub_zero
def W9:=@List.Perm.refl
def ZQ:=@List.dropLast_sublist
def ZR:=@List.length_filter_le
def ZS:=@List.length_singleton
def ZU:=@List.pairwise_reverse
def VT:=@Nat.sub_self
def XX:=@List.all_eq_true
def ZV:=@List.mem_iff_getElem
def ZW:=@List.mem_of_getLast?
def XZ:=@PySem.wpAny_askSetting
def X0:=@PySem.wpAny_call_entry
def zDN:=@Array.toList_setIfInBounds
def Xa:=@Int.dvd_trans
def VU:=@Int.neg_neg
def ZX:=@List.Sublist.append
def X1:=@Int.mul_dvd_mul
def zDS:=@List.getLast?_eq_getElem?
def ZY:=@Array.append_assoc
def Xb:=@Int.le_trans
def Xc:=@Int.zero_add
def ZZ:=@List.filter_append
def X2:=@List.drop_drop
def X3:=@List.drop_zero
namespace L2
open PySem PySem.Spec PyProof.Rows
abbrev Key:=Sum Int Str
def oA:Key->Value->Bool
 |.inl k,v=>Value.isInt k v
 |.inr x,v=>Value.isStrOf x v
def K5(w:World):Key->Int
 |.inl k=>hashInt k
 |.inr x=>hashStr w x
def bW:∀{k:Key} {v:Value},oA k v=true->(∃i t,k=Sum.inl i/\v=Value.int i t)∨(∃x t,k=Sum.inr x/\v=Value.str x t)
 |.inl i,v,h=>by obtain⟨t,e⟩:=Value.isInt_shape (k:=i) (v:=v) h;exact .inl ⟨i,t,rfl,e⟩
 |.inr x,v,h=>by obtain⟨t,e⟩:=Value.isStrOf_shape (x:=x) (v:=v) h;exact .inr ⟨x,t,rfl,e⟩
def Cr(i:Int)(t:Tok):oA (.inl i) (.int i t)=true:=by simp[oA,Value.isInt]
def Cs(x:Str)(t:Tok):oA (.inr x) (.str x t)=true:=by simp[oA,Value.isStrOf]
def Jk(a b:Int):decide ((Sum.inl a:Key)=Sum.inl b)=(a==b):=by
 by_cases e:a=b
 ·subst e;simp
 ·have h:¬(Sum.inl a:Key)=Sum.inl b:=λq=>e (Sum.inl.inj q)
  rw[R5 h];exact(beq_eq_false_iff_ne.mpr e).symm
def Jn(a b:Str):decide ((Sum.inr a:Key)=Sum.inr b)=decide (a=b):=by
 by_cases e:a=b
 ·subst e;simp
 ·have h:¬(Sum.inr a:Key)=Sum.inr b:=λq=>e (Sum.inr.inj q)
  rw[R5 h,R5 e]
def Jl(a:Int)(b:Str):decide ((Sum.inl a:Key)=Sum.inr b)=false:=R5 (λq=>nomatch q)
def Jm(a:Str)(b:Int):decide ((Sum.inr a:Key)=Sum.inl b)=false:=R5 (λq=>nomatch q)
def bV(prog:Program)(w:World):PySem.KeyKind prog w Key where
 is:=oA
 hash:=K5 w
 inj:=λv a b ha hb=>by
  rcases bW ha with⟨i,t,rfl,rfl⟩| ⟨x,t,rfl,rfl⟩
  ·rcases bW hb with⟨j,u,rfl,e⟩| ⟨y,u,rfl,e⟩
   ·injection e with e1 _;rw[e1]
   ·exact nomatch e
  ·rcases bW hb with⟨j,u,rfl,e⟩| ⟨y,u,rfl,e⟩
   ·exact nomatch e
   ·injection e with e1 _;rw[e1]
 byValue:=λk v h=>by
  rcases bW h with⟨i,t,rfl,rfl⟩| ⟨x,t,rfl,rfl⟩<;>rfl
 pyHash:=λhv h=>by
  rcases bW hv with⟨i,t,rfl,rfl⟩| ⟨x,t,rfl,rfl⟩
  ·exact wpAny_pyHash_int h
  ·exact wpAny_pyHash_str h
 eqBool:=λhu hv h=>by
  rcases bW hu with⟨i,t,rfl,rfl⟩| ⟨x,t,rfl,rfl⟩
  ·rcases bW hv with⟨j,u,rfl,rfl⟩| ⟨y,u,rfl,rfl⟩
   ·rw[Jk]at h;exact wpAny_eqBool_int h
   ·rw[Jl]at h;exact SeqAt.EqAt.int_str i t y u _ _ _ _ h
  ·rcases bW hv with⟨j,u,rfl,rfl⟩| ⟨y,u,rfl,rfl⟩
   ·rw[Jm]at h;exact SeqAt.EqAt.str_int x t j u _ _ _ _ h
   ·rw[Jn]at h;exact wpAny_eqBool_str h
 «strs»:=λk x t v h=>by
  rcases bW h with⟨i,u,rfl,e⟩| ⟨y,u,rfl,e⟩
  ·exact nomatch e
  ·injection e with e1 _;subst e1;cases v<;>rfl
def yt(prog:Program)(w:World)(i:Int)(t:Tok):(bV prog w).is (.inl i) (.int i t)=true:=Cr i t
def yu(prog:Program)(w:World)(x:Str)(t:Tok):(bV prog w).is (.inr x) (.str x t)=true:=Cs x t
inductive V where
 |Mj|bl (b:Bool)|int (i:Int)|str (x:Str)|S5 (b:Array UInt8)|X4 (b:UInt64)|ref (a:Addr)|ty (n:String)
 deriving DecidableEq
abbrev yar:=List V
def RelV:V->Value->Prop
 |.Mj,u=>u=Value.none
 |.bl b,u=>u=Value.bool b
 |.int i,u=>∃t,u=Value.int i t
 |.str x,u=>∃t,u=Value.str x t
 |.S5 b,u=>∃t,u=Value.bytes b t
 |.X4 b,u=>∃t,u=Value.float b t
 |.ref a,u=>u=Value.ref a
 |.ty n,u=>u=Value.type n
abbrev Vals:yar->yad->Prop:=Paired RelV
theorem Vals.length(r:Vals xs us):xs.length=us.length:=Paired.length r
theorem Vals.get:∀{xs:yar} {us:yad} {i:Nat} {x:V},Vals xs us->xs[i]?=some x->∃u,us[i]?=some u/\RelV x u
 |_,_,_,_,.nil,e=>by simp at e
 |_,_,0,_,.cons r _,e=>by simp at e;subst e;exact⟨_,rfl,r⟩
 |_,_,i+1,x,.cons _ t,e=>by obtain⟨u,h1,h2⟩:=Vals.get (i:=i) (x:=x) t (by simpa using e);exact⟨u,by simpa using h1,h2⟩
theorem Vals.set(r:RelV x u):∀{xs:yar} {us:yad} (i:Nat),Vals xs us->Vals (xs.set i x) (us.set i u)
 |_,_,_,.nil=>.nil
 |_,_,0,.cons _ t=>.cons r t
 |_,_,i+1,.cons q t=>.cons q (Vals.set r i t)
theorem Vals.append:∀{xs ys:yar} {us ws:yad},Vals xs us->Vals ys ws->Vals (xs++ys) (us++ws)
 |_,_,_,_,.nil,s=>s
 |_,_,_,_,.cons r t,s=>.cons r (Vals.append t s)
theorem Vals.take:∀{xs:yar} {us:yad} (n:Nat),Vals xs us->Vals (xs.take n) (us.take n)
 |_,_,0,_=>.nil
 |_,_,_+1,.nil=>.nil
 |_,_,n+1,.cons r t=>.cons r (Vals.take n t)
theorem Vals.drop:∀{xs:yar} {us:yad} (n:Nat),Vals xs us->Vals (xs.drop n) (us.drop n)
 |_,_,0,r=>r
 |_,_,_+1,.nil=>.nil
 |_,_,n+1,.cons _ t=>Vals.drop n t
def kr:Option V->yan->Prop
 |some v,some u=>RelV v u
 |none,none=>True
 |_,_=>False
def KV{κ:Type}:List (κ×V)->List (κ×Value)->Prop:=Paired λ(p:κ×V) (q:κ×Value)=>p.1=q.1/\RelV p.2 q.2
def kV:Key->V
 |.inl i=>.int i
 |.inr x=>.str x
inductive HO where
 |lst (xs:yar)
 |tup (xs:yar)
 |dK (kvs:List (Key×V))|dT (kvs:List (List Key×V))
 |set (S:Int->Bool) (n:Nat)
 |ins (C dx:Addr) (fs:List (Str×V))
 |own (x:Addr)
 |xd (fs:List (Str×V))
 |met (f x:Addr)
 |Z0 (lo hi:Int)
 |frz (o:Obj) (u:HO)
 |Q0 (ps:yao)
 |ext (φ:Heap->Prop)
abbrev Hp:=Addr->Option HO
def upd(H:Hp)(a:Addr)(o:HO):Hp:=λb=>if b=a then some o else H b
def aV:upd H a o a=some o:=by unfold upd;rw[Lx rfl]
def aD{a b:Addr}(h:b≠a):upd H a o b=H b:=by unfold upd;rw[Lw h]
def lW{H:Hp}{o u:HO}(h:H a=some o)(h':H b=some u)(d:o≠u):a≠b:=by intro e;subst e;rw[h]at h';exact d (ON h')
def bC{H:Hp}{o:HO}(h:H a=some o)(h':H b=none):a≠b:=by intro e;subst e;rw[h]at h';cases h'
section
variable(P:Program)(w:World)
def bG(H:Hp)(h:Heap)(a:Addr):HO->Prop
 |.lst xs=>xs.length<=sizeLine/\∃(LC:yad) (n:Nat),Vals xs LC/\h.get? a=some {cls:=.type "list", data:=.seq LC.toArray n}
 |.tup xs=>xs.length<=sizeLine/\∃LC:yad,Vals xs LC/\IsTup h a LC.toArray
 |.dK kvs=>kvs.length<=sizeLine/\(a==sysModules)=false/\∃vs,KV kvs vs/\h.DictOf (bV P w) a vs
 |.dT kvs=>kvs.length<=sizeLine/\(a==sysModules)=false/\∃xs:List (List Key×Addr×Value),
   Paired (λ(p:List Key×V) (q:List Key×Addr×Value)=>p.1=q.1/\H q.2.1=some (.tup (p.1.map kV))/\RelV p.2 q.2.2) kvs xs ∧
   ∃ o es ep,h.get? a=some o/\o.ExactDict/\o.data=.dict es ep/\es.toList=xs.map (entryOfKey (tupleKind (bV P w)))/\(xs.map (·.1)).Nodup
 |.set S n=>h.SetOf (intKind P w) a S n
 |.ins C dx fs=>H dx=some (.own a)/\fs.length<=1000/\dx≠a/\h.get? a=some (PySem.W.instObj C dx) ∧
   ∃ mA,h.Ns1 dx mA/\(∀f,kr (fs.lookup f) (mA f))/\PySem.Within mA (fs.map (·.1))
 |.own _=>∃o,h.get? a=some o
 |.xd fs=>∃mA,h.Ns1 a mA/\∀f,kr (fs.lookup f) (mA f)
 |.Z0 lo hi=>∃t u v,h.get? a=some {cls:=.type "range", data:=.fields #[.int lo t,.int hi u,.int 1 v]}
 |.frz o u=>h.get? a=some o/\bG H h a u
 |.Q0 ps=>h.get? a=some {cls:=.none,data:=.fields ps}
 |.met f x=>h.get? a=some (PySem.W.methodObj (.ref f) (.ref x))
 |.ext φ=>φ h/\(∃o,h.get? a=some o)/\∀h1 h2:Heap,φ h1->(∀o,h1.get? a=some o->h2.get? a=some o)->φ h2
def N1(H:Hp)(h:Heap):Prop:=∀a o,H a=some o->bG P w H h a o
end
section
variable{P:Program}{w:World}{H H':Hp}{h h':Heap}{a:Addr}{o:HO}
theorem bG.lt(x:bG P w H h a o):a<h.objs.size:=by
 cases o with
 |lst xs=>obtain⟨_,_,_,_,e⟩:=x;exact Nn e
 |tup xs=>obtain⟨_,_,_,p⟩:=x;exact p.lt
 |dK kvs=>obtain⟨_,_,_,_,o,_,_,e,_⟩:=x;exact Nn e
 |dT kvs=>obtain⟨_,_,_,_,o,_,_,e,_⟩:=x;exact Nn e
 |set S n=>obtain⟨o,_,_,_,e,_⟩:=x;exact Nn e
 |ins C dx fs=>obtain⟨_,_,_,e,_⟩:=x;exact Nn e
 |own y=>obtain⟨_,e⟩:=x;exact Nn e
 |xd fs=>obtain⟨_,⟨_,_,_,e,_⟩,_⟩:=x;exact Nn e
 |Z0 lo hi=>obtain⟨_,_,_,e⟩:=x;exact Nn e
 |frz ob u=>obtain⟨e,_⟩:=x;exact Nn e
 |Q0 ps=>exact Nn (show h.get? a=some _ from x)
 |met f y=>exact Nn (show h.get? a=some _ from x)
 |ext φ=>obtain⟨_,⟨_,e⟩,_⟩:=x;exact Nn e
theorem Paired.VW{α β:Type}{F G:α->β->Prop}:∀{X5:List α} {X6:List β},Paired F X5 X6->(∀a b,F a b->G a b)->Paired G X5 X6
 |_,_,.nil,_=>.nil
 |_,_,.cons r t,f=>.cons (f _ _ r) (Paired.VW t f)
def bG.Q1(x:bG P w H h a o)(k:∀b u,(b=a∨H b=some (.own a))->h.get? b=some u->h'.get? b=some u)
  (ho:∀b,H b=some (.own a)->H' b=some (.own a)) (ht:∀b xs,H b=some (.tup xs)->H' b=some (.tup xs)):bG P w H' h' a o:=by
 induction o with
 |lst xs=>obtain⟨z,LC,n,r,e⟩:=x;exact⟨z,LC,n,r,k _ _ (.inl rfl) e⟩
 |tup xs=>obtain⟨z,LC,r,ob,e,c⟩:=x;exact⟨z,LC,r,ob,k _ _ (.inl rfl) e,c⟩
 |dK kvs=>obtain⟨z,y,vs,r,ob,es,ep,e,c⟩:=x;exact⟨z,y,vs,r,ob,es,ep,k _ _ (.inl rfl) e,c⟩
 |dT kvs =>
  obtain⟨z,y,xs,r,ob,es,ep,e,c⟩:=x;exact⟨z,y,xs,Paired.VW r λp q z=>⟨z.1,ht _ _ z.2.1,z.2.2⟩,ob,es,ep,k _ _ (.inl rfl) e,c⟩
 |set S n=>obtain⟨ob,es,ep,t,e,c⟩:=x;exact⟨ob,es,ep,t,k _ _ (.inl rfl) e,c⟩
 |ins C dx fs =>
  obtain⟨d,z,ne,e,mA,⟨od,es,ep,e2,c⟩,r⟩:=x;exact⟨ho _ d,z,ne,k _ _ (.inl rfl) e,mA,⟨od,es,ep,k _ _ (.inr d) e2,c⟩,r⟩
 |own y=>obtain⟨ob,e⟩:=x;exact⟨ob,k _ _ (.inl rfl) e⟩
 |xd fs=>obtain⟨mA,⟨od,es,ep,e,c⟩,r⟩:=x;exact⟨mA,⟨od,es,ep,k _ _ (.inl rfl) e,c⟩,r⟩
 |Z0 lo hi=>obtain⟨t,u,v,e⟩:=x;exact⟨t,u,v,k _ _ (.inl rfl) e⟩
 |frz ob u ih=>obtain⟨e,q⟩:=x;exact⟨k _ _ (.inl rfl) e,ih q⟩
 |Q0 ps =>
  have e:h.get? a=some {cls:=.none,data:=.fields ps}:=x;show h'.get? a=some {cls:=.none,data:=.fields ps};exact k a _ (.inl rfl) e
 |met f y =>
  have e:h.get? a=some (PySem.W.methodObj (.ref f) (.ref y)):=x;show h'.get? a=some (PySem.W.methodObj (.ref f) (.ref y));exact k a _ (.inl rfl) e
 |ext φ=>obtain⟨p,⟨o,e⟩,st⟩:=x;exact⟨st _ _ p λo q=>k _ _ (.inl rfl) q,⟨o,k _ _ (.inl rfl) e⟩,st⟩
theorem N1.lt(x:N1 P w H h)(e:H a=some o):a<h.objs.size:=(x a o e).lt
def N1.fresh(x:N1 P w H h)(e:h.objs.size<=a):H a=none:=by
 cases q:H a with
 |none=>rfl
 |some u=>exact absurd (OM (x.lt q) e) (Su _)
def N1.kept(x:N1 P w H h)(k:∀b u,h.get? b=some u->h'.get? b=some u):N1 P w H h':=λa o e =>
 (x a o e).Q1 (λb u _ q=>k b u q) (λ_ q=>q) λ_ _ q=>q
def N1.laid(x:N1 P w H h)(k:∀b u,h.get? b=some u->h'.get? b=some u)(hp:h.objs.size<=a)(new:bG P w (upd H a o) h' a o):N1 P w (upd H a o) h':=λb u e=>by
 have hn:=x.fresh hp;by_cases hb:b=a
 ·subst hb;rw[aV]at e;cases e;exact new
 ·rw[aD hb]at e;exact(x b u e).Q1 (λc v _ q=>k c v q) (λc q=>by rw[aD (bC q hn)];exact q) λc xs q=>by rw[aD (bC q hn)];exact q
end
def Rd(H:Hp)(a:Addr)(u:HO):Prop:=H a=some u∨∃ o,H a=some (.frz o u)
def Rd.ok(r:Rd H a u)(x:N1 P w H h):bG P w H h a u:=by
 rcases r with r|⟨o,r⟩
 ·exact x a u r
 ·obtain⟨_,q⟩:=x a _ r;exact q
def X7:Option HO->Prop
 |some (.lst _)=>True
 |some (.dK _)=>True
 |some (.dT _)=>True
 |some (.set _ _)=>True
 |some (.ins _ _ _)=>True
 |some (.ext _)=>True
 |_=>False
section
variable{P:Program}{w:World}{H:Hp}{h h':Heap}{x e:Addr}{o':HO}
def N1.write(ok:N1 P w H h)(mu:X7 (H x))(he:e=x∨H e=some (.own x))(k:∀b u,b≠e->h.get? b=some u->h'.get? b=some u)(Xd:∃u,h'.get? e=some u)
  (new:bG P w (upd H x o') h' x o'):N1 P w (upd H x o') h':=λb u q=>by
 have X8:∀c y,H c=some (.own y)->c≠x:=λc y r z=>by subst z;rw[r]at mu;exact mu
 have ntup:∀c xs,H c=some (.tup xs)->c≠x:=λc xs r z=>by subst z;rw[r]at mu;exact mu
 by_cases hb:b=x
 ·subst hb;rw[aV]at q;cases q;exact new
 ·rw[aD hb]at q;by_cases VX:b=e
  ·have q':H b=some (.own x):=by
    rcases he with z|z
    ·exact absurd (VX.trans z) hb
    ·rw[VX];exact z
   rw[q]at q';cases q';obtain⟨v,hv⟩:=Xd;exact⟨v,by rw[VX];exact hv⟩
  ·refine(ok b u q).Q1 (λc v hc r=>k c v ?_ r) (λc r=>by rw[aD (X8 c b r)];exact r) λc xs r=>by rw[aD (ntup c xs r)];exact r
   rcases hc with rfl|hc
   ·exact VX
   ·rintro rfl;rcases he with z|z
    ·exact X8 c b hc z
    ·rw[hc]at z;cases z;exact hb rfl
end
structure Un(fs ex:yae)(H H':Hp)(h h':Heap):Prop where
 keep:∀b o,h.get? b=some o->H b=none->b∉fs->b∉ex->h'.get? b=some o
 slot:∀b o,h.get? b=some o->H b=none->b∈fs->b∉ex->∃sl,h'.get? b=some {o with slots:=sl}
 free:∀b o,h.get? b=some o->H b=none->b∉ex->H' b=none
 there:∀b o,h.get? b=some o->b∉ex->∃o',h'.get? b=some o'
 Po:∀b xs,H b=some (.tup xs)->H' b=some (.tup xs)
 O8:∀b o u,H b=some (.frz o u)->H' b=some (.frz o u)
 Pp:∀b ps,H b=some (.Q0 ps)->∃more,H' b=some (.Q0 (ps++more))
section
variable{fs fs' ex ex':yae}{H H1 H2:Hp}{h h1 h2 h':Heap}{a x e:Addr}{o:HO}
def Un.any(u:Un fs ex H H1 h h1){ob:Obj}(q:h.get? b=some ob)(n:H b=none)(hx:b∉ex):∃sl,h1.get? b=some {ob with slots:=sl}:=by
 by_cases hb:b∈fs
 ·exact u.slot b ob q n hb hx
 ·exact⟨ob.slots,u.keep b ob q n hb hx⟩
def Un.kept(k:∀b u,h.get? b=some u->h'.get? b=some u):Un fs ex H H h h' :=
 ⟨λb ob q _ _ _=>k b ob q,λb ob q _ _ _=>⟨ob.slots,k b ob q⟩,λ_ _ _ n _=>n,λb ob q _=>⟨ob,k b ob q⟩,λ_ _ q=>q,λ_ _ _ q=>q,λ_ ps q=>⟨#[],by rw[q];simp⟩⟩
def Un.refl:Un fs ex H H h h:=Un.kept λ_ _ q=>q
def Un.laid(k:∀b u,h.get? b=some u->h'.get? b=some u)(hp:h.objs.size<=a)(hn:H a=none):Un fs ex H (upd H a o) h h' where
 keep:=λb u q _ _ _=>k b u q
 slot:=λb u q _ _ _=>⟨u.slots,k b u q⟩
 free:=λb u q n _=>by rw[aD (O6 (OM (Nn q) hp))];exact n
 there:=λb u q _=>⟨u,k b u q⟩
 Po:=λb xs q=>by rw[aD (bC q hn)];exact q
 O8:=λb u xs q=>by rw[aD (bC q hn)];exact q
 Pp:=λb ps q=>⟨#[],by rw[aD (bC q hn),q];simp⟩
def Un.write(mu:X7 (H x))(he:e=x∨H e=some (.own x))(k:∀b u,b≠e->h.get? b=some u->h'.get? b=some u)(Xd:∃u,h'.get? e=some u):Un fs ex H (upd H x o) h h':=by
 have hx:∀b,H b=none->b≠x:=λb n z=>by subst z;rw[n]at mu;exact mu
 have hb:∀b,H b=none->b≠e:=λb n z=>by
  subst z;rcases he with r|r
  ·exact hx b n r
  ·rw[n]at r;cases r
 have hm:∀b u,H b=some u->¬X7 (some u)->b≠x:=λb u q nm z=>by subst z;rw[q]at mu;exact nm mu
 refine⟨λb u q n _ _=>k b u (hb b n) q,λb u q n _ _=>⟨u.slots,k b u (hb b n) q⟩,λb u q n _=>by rw[aD (hx b n)];exact n,λb u q _=>?_,
  λb xs q=>by rw[aD (hm b _ q λz=>z)];exact q,λb u xs q=>by rw[aD (hm b _ q λz=>z)];exact q,λb ps q=>⟨#[],by rw[aD (hm b _ q λz=>z),q];simp⟩⟩
 by_cases VX:b=e
 ·subst VX;exact Xd
 ·exact⟨u,k b u VX q⟩
end
noncomputable def trk(h:Heap)(H:Hp):yae:=(List.range h.objs.size).filter λa=>(H a).isSome
def lT(h:Heap)(H:Hp):Heap:=PySem.W.hideAll h (trk h H)
def Cc(h:Heap)(H:Hp):(lT h H).objs.size=h.objs.size:=PySem.W.hideAll_size _ _
def D8{h:Heap}{H:Hp}{o:Obj}(e:h.get? b=some o)(n:H b=none):(lT h H).get? b=some o :=
 PySem.W.hideAll_get _ e λhm=>by have q:(H b).isSome=true:=(Rb.mp hm).2;rw[n]at q;simp at q
def GV{o:Obj}(e:(lT h H).get? b=some o):h.get? b=some o/\H b=none:=by
 have e':h.get? b=some o:=PySem.W.of_hideAll (trk h H) e;refine⟨e',?_⟩;cases q:H b with
 |none=>rfl
 |some x =>
  have hm:b∈trk h H:=Rb.mpr ⟨List.mem_range.mpr (Nn e'),by simp[q]⟩;have z:(lT h H).get? b=none:=PySem.W.hideAll_none (trk h H) hm;rw[z]at e;cases e
noncomputable def FX(g h:Heap)(L:Addr):yab:=(List.range h.objs.size).filterMap λa=>if a=L∨(g.get? a).isSome=true then none else(h.get? a).map λo=>(a,o)
def rest(g h:Heap)(L d:Addr):yab:=(FX g h L).filter λp=>decide (p.1≠d)
structure Mod(K:yac)(mg:yam)(base:Heap):Prop where
 O9:K.In base
 glob:base.Ns mainGlobals mg
 blt:∃mb,base.Ns builtinsNs mb/\∀x:Str,x ≠ "__name__" -> mb x=bootBuiltins x
 nolimit:base.NoLimit
structure Cx where
 prog:Program
 w:World
 K:yac
 mg:yam
 base:Heap
 A:Around
 N:yah
 LU:Shared
 MK:Hp
 env:Env
 outer:List Env
 stack:List Env
 ex:yae
 fn:Str->Bool
 calm:Bool
 pn:yab
 xe:yaa
noncomputable def PV(l:List Env):yae:=l.filterMap (·.frame)
abbrev Cx.fs(X:Cx):yae:=PV X.outer
def S6(sc:Scope)(x:Str):Prop:=sc.names.lookup x=some .local∨sc.names.lookup x=some .cell∨sc.names.lookup x=some .free
def Loc(sc:Scope)(x:Str):Prop:=sc.names.lookup x=some .local∨sc.names.lookup x=some .cell
def Look(env:Env)(h:Heap)(m:yam)(x:Str)(u:Value):Prop :=
 (env.kindOf x=some .local/\m x=some u)∨((env.kindOf x=some .cell∨env.kindOf x=some .free)/\∃c,env.cells.lookup x=some c/\h.IsCell c (some u))
structure Cx.Ok(X:Cx):Prop where
 mod:Mod X.K X.mg X.base
 kind:X.env.scope.kind=.function
 glob:X.env.globals=mainGlobals
 blt:X.env.builtins=builtinsNs
 above:X.LU.heap.objs.size<=X.env.locals
 inj:∀x y c,X.env.cells.lookup x=some c->X.env.cells.lookup y=some c->x=y
 has:∀x,(X.env.kindOf x=some .cell∨X.env.kindOf x=some .free)->∃c,X.env.cells.lookup x=some c
 Sw:∀x c,X.fn x=true->X.env.cells.lookup x=some c->X.LU.heap.objs.size<=c
 hd:X.calm=true->X.A.handled=none
 frames:X.A.frames=some X.stack
 X9:X.stack=X.outer∨(X.stack=X.env::X.outer/\X.env.frame=some X.env.locals)
 exf:∀b∈X.ex,b≠X.env.locals/\∀x c,X.env.cells.lookup x=some c->c≠b
 bs:∀b o,X.base.get? b=some o->X.LU.heap.get? b=some o/\X.MK b=none
 U5:X.base.objs.size<=X.LU.heap.objs.size
 R8:∀b o,X.base.get? b=some o->b∉X.ex
 S7:∀b∈X.ex,b∉X.fs
 OR:X.LU.heap.FunFrames X.base X.outer
 U6:∀b∈X.fs,X.MK b=none
structure Inv(X:Cx)(pins:yab)(σ:List (Option V))(H:Hp)(s:Shared):Prop where
 ok:X.Ok
 os:s.os=X.LU.os
 bare:AllBare s.gens
 base:Un X.fs X.ex X.MK H X.LU.heap s.heap
 loc:∃m,s.heap.Ns X.env.locals m/\∀(i:Nat) (x:Str) (v:V),X.N[i]?=some x->σ[i]?=some (some v)->S6 X.env.scope x->∃u,RelV v u/\Look X.env s.heap m x u
 cell:∀x c,X.env.cells.lookup x=some c->∃v,s.heap.IsCell c v
 free:H X.env.locals=none
 Nu:∀x c,X.env.cells.lookup x=some c->H c=none
 pin:∀p∈X.pn++pins,s.heap.get? p.1=some p.2/\H p.1=none/\p.1≠X.env.locals/\p.1∉X.fs/\∀v,p.2.data ≠ .cell v
 Mh:N1 X.prog X.w H s.heap
 len:σ.length=X.N.length
section
variable{X:Cx}{pins:yab}{σ:List (Option V)}{H H':Hp}{s:Shared}{h':Heap}
def Cx.Ok.nofr(ok:X.Ok){o:Obj}(e:X.base.get? b=some o):b∉X.fs:=λhb=>by have:=(ok.OR.mem hb).1;rw[e]at this;cases this
theorem Inv.bs(I:Inv X pins σ H s):∀b o,X.base.get? b=some o->s.heap.get? b=some o/\H b=none:=λb o e =>
 ⟨I.base.keep b o (I.ok.bs b o e).1 (I.ok.bs b o e).2 (I.ok.nofr e) (I.ok.R8 b o e),I.base.free b o (I.ok.bs b o e).1 (I.ok.bs b o e).2 (I.ok.R8 b o e)⟩
def Inv.bk(I:Inv X pins σ H s):∀b o,X.base.get? b=some o->s.heap.get? b=some o:=λb o e=>(I.bs b o e).1
theorem Inv.mod(I:Inv X pins σ H s):Mod X.K X.mg X.base:=I.ok.mod
def Inv.Qa(I:Inv X pins σ H s):X.K.In s.heap:=I.ok.mod.O9.keeps I.bk
theorem Inv.lt(I:Inv X pins σ H s):X.env.locals<s.heap.objs.size:=let ⟨_,hn,_⟩:=I.loc;hn.lt
def Inv.sz(I:Inv X pins σ H s):X.LU.heap.objs.size<=s.heap.objs.size:=NM I.ok.above (S4 I.lt)
def Inv.nofs(I:Inv X pins σ H s){a:Addr}(h:s.heap.objs.size<=a):a∉X.fs:=λhb=>by obtain⟨_,o,ho,_⟩:=I.ok.OR.mem hb;exact absurd (OM (Nn ho) (NM I.sz h)) (Su _)
def Inv.Uk(I:Inv X pins σ H s):∀x c,X.env.cells.lookup x=some c->c≠X.env.locals:=λx c e z=>by obtain⟨v,o,ho,hd⟩:=I.cell x c e;obtain⟨m,⟨o',es,ep,Pq,Rf,_⟩,_⟩:=I.loc;rw[z,Pq]at ho;cases ho;rw[Rf]at hd;cases hd
theorem Inv.OR(I:Inv X pins σ H s):s.heap.FunFrames X.base X.outer:=by
 have all:∀(l:List Env),(∀b∈PV l,b∈X.fs)->X.LU.heap.FunFrames X.base l->s.heap.FunFrames X.base l:=by
  intro l
  induction l with
  |nil=>intro _ _;trivial
  |cons env r ih =>
   intro hs hl;obtain⟨hk,⟨L,o,hf,hn,ho,hd⟩,hr⟩:=hl;have hL:L∈X.fs:=hs L (by unfold PV;rw[XN,hf];exact O0);obtain⟨sl,e⟩:=I.base.slot L o ho (I.ok.U6 L hL) hL λz=>I.ok.S7 L z hL
   exact⟨hk,⟨L,_,hf,hn,e,hd⟩,ih (λb hb=>hs b (by unfold PV;rw[XN,hf];exact MO _ hb)) hr⟩
 exact all X.outer (λ_ hb=>hb) I.ok.OR
theorem Inv.stack(I:Inv X pins σ H s):s.heap.FunFrames X.base X.stack:=by
 rcases I.ok.X9 with e|⟨e,hf⟩
 ·rw[e];exact I.OR
 ·rw[e];obtain⟨m,hn,_⟩:=I.loc;refine .cons (by rw[I.ok.kind];decide) hf hn ?_ I.OR;exact Heap.get?_none_of_le (NM I.ok.U5 I.ok.above)
def Inv.Pt(I:Inv X pins σ H s):∀b∈PV X.stack,b∈X.env.locals::X.fs:=λb hb=>by
 rcases I.ok.X9 with e|⟨e,hf⟩
 ·rw[e]at hb;exact MO _ hb
 ·rw[e]at hb;unfold PV at hb;rw[XN,hf]at hb;exact hb
def Inv.QA(I:Inv X pins σ H s):∀b∈PV X.stack,H b=none:=λb hb=>by
 rcases L9.mp (I.Pt b hb)with e|hb
 ·rw[e];exact I.free
 ·obtain⟨_,o,ho,_⟩:=I.ok.OR.mem hb;exact I.base.free b o ho (I.ok.U6 b hb) λz=>I.ok.S7 b z hb
def Inv.step{t':Nat}{d':Drawn}{ch:yae}(I:Inv X pins σ H s)
  (Sx:∀b∈ch,(b∈X.ex∨X.LU.heap.objs.size<=b)/\b≠X.env.locals/\(∀x c,X.env.cells.lookup x=some c->c≠b)/\∀p∈X.pn++pins,p.1≠b)
  (keep:∀b o,b≠X.env.locals->b∉X.fs->b∉ch->s.heap.get? b=some o->H b=none->h'.get? b=some o)
  (slot:∀b o,b≠X.env.locals->b∈X.fs->b∉ch->s.heap.get? b=some o->H b=none->∃sl,h'.get? b=some {o with slots:=sl}) (free:∀b o,b∉ch->s.heap.get? b=some o->H b=none->H' b=none)
  (there:∀b o,b∉ch->s.heap.get? b=some o->∃o',h'.get? b=some o')
  (Po:∀b xs,H b=some (.tup xs)->H' b=some (.tup xs)) (O8:∀b o u,H b=some (.frz o u)->H' b=some (.frz o u)) (Pp:∀b ps,H b=some (.Q0 ps)->∃more,H' b=some (.Q0 (ps++more)))
  (ns:∀m,s.heap.Ns X.env.locals m->h'.Ns X.env.locals m) (Mh:N1 X.prog X.w H' h') (hg:AllBare g') :
  Inv X pins σ H' {s with heap:=h',gens:=g',drawn:=d',toks:=t'}:=by
 have Xe:∀b o,X.LU.heap.get? b=some o->b≠X.env.locals:=λb o e=>O6 (OM (Nn e) I.ok.above)
 have Z1:∀b o,X.LU.heap.get? b=some o->b∉X.ex->b∉ch:=λb o e hx hb=>by
  rcases(Sx b hb).1 with z|z
  ·exact hx z
  ·exact absurd (OM (Nn e) z) (Su _)
 have cellK:∀x c,X.env.cells.lookup x=some c->∀v,s.heap.IsCell c v->h'.IsCell c v:=λx c e v ⟨o,ho,hd⟩=>by
  have Ya:c∉ch:=λz=>(Sx c z).2.2.1 x c e rfl
  by_cases hc:c∈X.fs
  ·obtain⟨sl,q⟩:=slot c o (I.Uk x c e) hc Ya ho (I.Nu x c e);exact⟨_,q,hd⟩
  ·exact⟨o,keep c o (I.Uk x c e) hc Ya ho (I.Nu x c e),hd⟩
 refine⟨I.ok,I.os,hg,⟨λb o e n hb hx=>?_,λb o e n hb hx=>?_,λb o e n hx=>?_,λb o e hx=>?_,λb xs e=>Po b xs (I.base.Po b xs e),λb o xs e=>O8 b o xs (I.base.O8 b o xs e),λb ps e=>?_⟩,?_,λx c e=>?_,?_,λx c e=>?_,λp hp=>?_,Mh,I.len⟩
 ·exact keep b o (Xe b o e) hb (Z1 b o e hx) (I.base.keep b o e n hb hx) (I.base.free b o e n hx)
 ·obtain⟨sl,e1⟩:=I.base.slot b o e n hb hx;obtain⟨sl',e2⟩:=slot b _ (Xe b o e) hb (Z1 b o e hx) e1 (I.base.free b o e n hx);exact⟨sl',e2⟩
 ·obtain⟨o',e1⟩:=I.base.there b o e hx;exact free b o' (Z1 b o e hx) e1 (I.base.free b o e n hx)
 ·obtain⟨o',e1⟩:=I.base.there b o e hx;exact there b o' (Z1 b o e hx) e1
 ·obtain⟨m1,e1⟩:=I.base.Pp b ps e;obtain⟨m2,e2⟩:=Pp b _ e1;exact⟨m1++m2,by rw[e2,ZY]⟩
 ·obtain⟨m,hn,hl⟩:=I.loc;refine⟨m,ns m hn,λi x v e1 e2 e3=>?_⟩;obtain⟨u,r,l⟩:=hl i x v e1 e2 e3;refine⟨u,r,?_⟩;rcases l with l|⟨k,c,e,z⟩
  ·exact .inl l
  ·exact .inr ⟨k,c,e,cellK x c e _ z⟩
 ·obtain⟨v,z⟩:=I.cell x c e;exact⟨v,cellK x c e v z⟩
 ·obtain⟨m,⟨o,_,_,ho,_⟩,_⟩:=I.loc;exact free _ o (λz=>(Sx _ z).2.1 rfl) ho I.free
 ·obtain⟨v,o,ho,hd⟩:=I.cell x c e;exact free c o (λz=>(Sx c z).2.2.1 x c e rfl) ho (I.Nu x c e)
 ·obtain⟨e,n,ne,nf,d⟩:=I.pin p hp;have Ya:p.1∉ch:=λz=>(Sx p.1 z).2.2.2 p hp rfl
  exact⟨keep p.1 p.2 ne nf Ya e n,free p.1 p.2 Ya e n,ne,nf,d⟩
def Inv.un{t':Nat}(I:Inv X pins σ H s)(u:Un X.fs [] H H' s.heap h')(Mh:N1 X.prog X.w H' h'):Inv X pins σ H' {s with heap:=h',toks:=t'}:=by
 obtain⟨m,⟨o,es,ep,ho,r⟩,_⟩:=id I.loc;obtain⟨sl,hL⟩:=u.any ho I.free (by simp);exact I.step (g':=s.gens) (d':=s.drawn) (ch:=[]) (λ_ z=>nomatch z) (λb o _ hb _ e n=>u.keep b o e n hb (by simp)) (λb o _ hb _ e n=>u.slot b o e n hb (by simp)) (λb o _ e n=>u.free b o e n (by simp)) (λb o _ e=>u.there b o e (by simp)) u.Po u.O8 u.Pp (λm' hm=>by obtain⟨o',QP,ep',Pq,r'⟩:=hm;rw[ho]at Pq;cases Pq;exact⟨_,QP,ep',hL,r'⟩) Mh I.bare
def Inv.call{t':Nat}{d':Drawn}(I:Inv X pins σ H s)(u:Un (PV X.stack) ch H H' s.heap h')(Mh:N1 X.prog X.w H' h')(hg:AllBare g')
  (Sx:∀b∈ch,(b∈X.ex∨X.LU.heap.objs.size<=b)/\b≠X.env.locals/\(∀x c,X.env.cells.lookup x=some c->c≠b)/\∀p∈X.pn++pins,p.1≠b) :
  Inv X pins σ H' {s with heap:=h',gens:=g',drawn:=d',toks:=t'}:=by
 obtain⟨m,⟨o,es,ep,ho,r⟩,_⟩:=id I.loc;obtain⟨sl,hL⟩:=u.any ho I.free λz=>(Sx _ z).2.1 rfl
 exact I.step (ch:=ch) Sx (λb o hL hb hc e n=>u.keep b o e n (λz=>(L9.mp (I.Pt b z)).elim hL hb) hc) (λb o _ _ hc e n=>u.any e n hc) (λb o hc e n=>u.free b o e n hc) (λb o hc e=>u.there b o e hc) u.Po u.O8 u.Pp (λm' hm=>by obtain⟨o',QP,ep',Pq,r'⟩:=hm;rw[ho]at Pq;cases Pq;exact⟨_,QP,ep',hL,r'⟩) Mh hg
def Inv.turned{t':Nat}{it:Addr}(I:Inv X pins σ H s)(k:∀b o,b≠it->s.heap.get? b=some o->h'.get? b=some o)(hn:H it=none)(hL:it≠X.env.locals)
  (h1:it∈X.ex∨X.LU.heap.objs.size<=it) (h2:∀x c,X.env.cells.lookup x=some c->c≠it) (h3:∀p∈X.pn++pins,p.1≠it):Inv X pins σ H {s with heap:=h',toks:=t'}:=by
 have nit:∀b u,H b=some u->b≠it:=λb u e z=>by rw[z,hn]at e;cases e
 refine I.step (g':=s.gens) (d':=s.drawn) (ch:=[it]) (λb hb=>?_) (λb o _ _ hc e _=>k b o (λz=>hc (by simp[z])) e) (λb o _ _ hc e _=>⟨o.slots,k b o (λz=>hc (by simp[z])) e⟩) (λ_ _ _ _ n=>n)
  (λb o hc e=>⟨o,k b o (λz=>hc (by simp[z])) e⟩) (λ_ _ e=>e) (λ_ _ _ e=>e) (λb ps e=>⟨#[],by rw[e];simp⟩) (λm hm=>?_) (λb u e=>?_) I.bare
 ·have e:b=it:=by simpa using hb
  subst e;exact⟨h1,hL,h2,h3⟩
 ·obtain⟨o,es,ep,ho,r⟩:=hm;exact⟨o,es,ep,k _ o (Ne.symm hL) ho,r⟩
 ·refine(I.Mh b u e).Q1 (λc v hc q=>k c v ?_ q) (λ_ q=>q) λ_ _ q=>q
  rcases hc with z|z
  ·rw[z];exact nit b u e
  ·exact nit c _ z
def Inv.tok(I:Inv X pins σ H s)(t:Nat):Inv X pins σ H {s with toks:=t}:=I.un (h':=s.heap) (t':=t) Un.refl I.Mh
theorem Inv.kept{t':Nat}(I:Inv X pins σ H s)(k:∀b u,s.heap.get? b=some u->h'.get? b=some u):Inv X pins σ H {s with heap:=h',toks:=t'}:=I.un (Un.kept k) (I.Mh.kept k)
theorem Inv.laid{a:Addr}{t':Nat}(I:Inv X pins σ H s)(k:∀b u,s.heap.get? b=some u->h'.get? b=some u)(hp:s.heap.objs.size<=a)(new:bG X.prog X.w (upd H a o) h' a o) :
  Inv X pins σ (upd H a o) {s with heap:=h',toks:=t'}:=I.un (Un.laid k hp (I.Mh.fresh hp)) (I.Mh.laid k hp new)
theorem Inv.write{e:Addr}{t':Nat}(I:Inv X pins σ H s)(mu:X7 (H x))(he:e=x∨H e=some (.own x))(k:∀b u,b≠e->s.heap.get? b=some u->h'.get? b=some u)(Xd:∃u,h'.get? e=some u)
  (new:bG X.prog X.w (upd H x o) h' x o):Inv X pins σ (upd H x o) {s with heap:=h',toks:=t'}:=I.un (Un.write mu he k Xd) (I.Mh.write mu he k Xd new)
def Inv.RN{U7:yab}(I:Inv X pins σ H s)(h:∀p∈U7,s.heap.get? p.1=some p.2/\H p.1=none/\p.1≠X.env.locals/\p.1∉X.fs/\∀v,p.2.data ≠ .cell v):Inv X U7 σ H s :=
 ⟨I.ok,I.os,I.bare,I.base,I.loc,I.cell,I.free,I.Nu,λp hp=>(MC.mp hp).elim (λz=>I.pin p (Qj _ z)) (h p),I.Mh,I.len⟩
def pW{N:yah}(hN:N.Nodup){i j:Nat}{x:Str}(a:N[i]?=some x)(b:N[j]?=some x):i=j:=by obtain⟨h1,e1⟩:=OC.mp a;obtain⟨h2,e2⟩:=OC.mp b;exact(List.getElem_inj hN).mp (e1.trans e2.symm)
def uB{i:Nat}{x:Str}{Q:Unit->Shared->Prop}(I:Inv X pins σ H s)(hN:X.N.Nodup)(hi:X.N[i]?=some x)(hx:Loc X.env.scope x)(r:RelV v u)
  (h:∀s',Inv X pins (σ.set i (some v)) H s'->(∃a,Heap.SameBut a s.heap s'.heap/\(a=X.env.locals∨X.env.cells.lookup x=some a))->Q () s') (hf:X.fn x=true∨X.env.scope.names.lookup x=some .local:=by first|exact .inl rfl|exact .inr rfl|assumption):wpAny M A (storeName X.env x u) Q E s:=by
 obtain⟨m,hn,hl⟩:=id I.loc;have hcls:(X.env.scope.kind==.class || (X.env.scope.kind==.module && X.env.locals != X.env.globals))=false:=by rw[I.ok.kind];rfl
 have Yb:i<σ.length:=by rw[I.len];exact(OC.mp hi).1
 have Uk:=I.Uk;have tracked:∀{a:Addr} {h':Heap},(∃o,s.heap.get? a=some o/\H a=none)->Heap.SameBut a s.heap h'->N1 X.prog X.w H h':=fun {a h'} ha hs b ob e=>by
  obtain⟨_,_,U8⟩:=ha;refine(I.Mh b ob e).Q1 (λc w' hc q=>(hs.2 c ?_).trans q) (λ_ q=>q) λ_ _ q=>q
  rintro rfl;rcases hc with rfl|hc
  ·rw[U8]at e;cases e
  ·rw[U8]at hc;cases hc
 rcases hx with hk|hk
 ·refine wpAny_storeName_local hk hn (λh' hn' hs=>?_) hcls;obtain⟨oL,_,_,Z2,_⟩:=id hn;refine h _ ⟨I.ok,I.os,I.bare,⟨λb o e n hb hx=>?_,λb o e n hb hx=>?_,I.base.free,λb o e hx=>?_,I.base.Po,I.base.O8,I.base.Pp⟩,⟨_,hn',λj y v' e1 e2 e3=>?_⟩,λy c e=>?_,I.free,I.Nu,λp hp=>?_,tracked ⟨oL,Z2,I.free⟩ hs,by simpa using I.len⟩ ⟨_,hs,.inl rfl⟩
  ·exact(hs.2 b (O6 (OM (Nn e) I.ok.above))).trans (I.base.keep b o e n hb hx)
  ·obtain⟨sl,e1⟩:=I.base.slot b o e n hb hx;exact⟨sl,(hs.2 b (O6 (OM (Nn e) I.ok.above))).trans e1⟩
  ·obtain⟨o',e1⟩:=I.base.there b o e hx;exact⟨o',(hs.2 b (O6 (OM (Nn e) I.ok.above))).trans e1⟩
  ·by_cases hj:j=i
   ·subst hj;rw[hi]at e1;cases e1;rw[TL Yb]at e2;cases e2;exact⟨u,r,.inl ⟨hk,by simp⟩⟩
   ·rw[Qi (Ne.symm hj)]at e2;obtain⟨u',r',q⟩:=hl j y v' e1 e2 e3;refine⟨u',r',?_⟩;rcases q with⟨k,e⟩| ⟨k,c,e,z⟩
    ·refine .inl ⟨k,?_⟩;have:y≠x:=λe=>hj (pW hN e1 (e ▸ hi))
     simp[this,e]
    ·exact .inr ⟨k,c,e,z.sameBut hs (Uk y c e)⟩
  ·obtain⟨w',z⟩:=I.cell y c e;exact⟨w',z.sameBut hs (Uk y c e)⟩
  ·obtain⟨e,n,ne,nf,d⟩:=I.pin p hp;exact⟨(hs.2 p.1 ne).trans e,n,ne,nf,d⟩
 ·have hfn:X.fn x=true:=by
   rcases hf with z|z
   ·exact z
   ·rw[z]at hk;cases hk
  obtain⟨c,hc⟩:=I.ok.has x (.inl hk);obtain⟨w',z⟩:=I.cell x c hc;refine wpAny_storeName_cell I.ok.kind hk hc z (λh' RO hs=>?_);obtain⟨oc,hoc,hocd⟩:=id z;refine h {s with heap:=h'} ⟨I.ok,I.os,I.bare,⟨λb o e n hb hx=>?_,λb o e n hb hx=>?_,I.base.free,λb o e hx=>?_,I.base.Po,I.base.O8,I.base.Pp⟩,⟨m,hn.sameBut hs (Ne.symm (Uk x c hc)),λj y v' e1 e2 e3=>?_⟩,λy c' e=>?_,I.free,I.Nu,λp hp=>?_,tracked ⟨oc,hoc,I.Nu x c hc⟩ hs,by simpa using I.len⟩ ⟨c,hs,.inr hc⟩
  ·exact(hs.2 b (O6 (OM (Nn e) (I.ok.Sw x c hfn hc)))).trans (I.base.keep b o e n hb hx)
  ·obtain⟨sl,e1⟩:=I.base.slot b o e n hb hx;exact⟨sl,(hs.2 b (O6 (OM (Nn e) (I.ok.Sw x c hfn hc)))).trans e1⟩
  ·obtain⟨o',e1⟩:=I.base.there b o e hx;exact⟨o',(hs.2 b (O6 (OM (Nn e) (I.ok.Sw x c hfn hc)))).trans e1⟩
  ·by_cases hj:j=i
   ·subst hj;rw[hi]at e1;cases e1;rw[TL Yb]at e2;cases e2;exact⟨u,r,.inr ⟨.inl hk,c,hc,RO⟩⟩
   ·rw[Qi (Ne.symm hj)]at e2;obtain⟨u',r',q⟩:=hl j y v' e1 e2 e3;refine⟨u',r',?_⟩;rcases q with q|⟨k,c',e,z'⟩
    ·exact .inl q
    ·refine .inr ⟨k,c',e,z'.sameBut hs ?_⟩;rintro rfl;exact hj (pW hN e1 (I.ok.inj _ _ _ e hc ▸ hi))
  ·by_cases Pu:c'=c
   ·subst Pu;exact⟨_,RO⟩
   ·obtain⟨w2,z2⟩:=I.cell y c' e;exact⟨w2,z2.sameBut hs Pu⟩
  ·obtain⟨e,n,ne,nf,d⟩:=I.pin p hp;refine⟨(hs.2 p.1 ?_).trans e,n,ne,nf,d⟩;intro q;rw[q,hoc]at e;have q':oc=p.2:=ON e;exact d w' (by rw[<- q'];exact hocd)
def eO{i:Nat}{x:Str}{Q:Unit->Shared->Prop}(I:Inv X pins σ H s)(hN:X.N.Nodup)(hi:X.N[i]?=some x)(hx:Loc X.env.scope x)(r:RelV v u)
  (h:∀s',Inv X pins (σ.set i (some v)) H s'->Q () s') (hf:X.fn x=true∨X.env.scope.names.lookup x=some .local:=by first|exact .inl rfl|exact .inr rfl|assumption):wpAny M A (storeName X.env x u) Q E s :=
 uB I hN hi hx r (λs' I' _=>h s' I') hf
def Inv.Q2{s':Shared}(I:Inv X pins σ H s)(ho:s'.os=s.os)(u:Un (PV X.stack) ch H H' s.heap s'.heap)(Mh:N1 X.prog X.w H' s'.heap)(hg:AllBare s'.gens)
  (Sx:∀b∈ch,(b∈X.ex∨X.LU.heap.objs.size<=b)/\b≠X.env.locals/\(∀x c,X.env.cells.lookup x=some c->c≠b)/\∀p∈X.pn++pins,p.1≠b):Inv X pins σ H' s':=by
 obtain⟨h',g',d',t',o'⟩:=s';have e:o'=s.os:=ho;subst e;exact I.call (g':=g') (t':=t') (d':=d') u Mh hg Sx
end
abbrev XK:=Value->Option Addr->Hp->Prop
abbrev St:=List (Option V)
abbrev VK:=V->Hp->Prop
abbrev TE:=St->Hp->VK->Prop
abbrev TT:=St->Hp->(Bool->Hp->Prop)->Prop
abbrev TA:=St->Hp->(yar->Hp->Prop)->Prop
structure Ends where
 nx:St->Hp->Prop
 rt:VK
 bk:St->Hp->Prop:=λ_ _=>False
 ct:St->Hp->Prop:=λ_ _=>False
abbrev TS:=Ends->St->Hp->Prop
def EP(X:Cx)(pins:yab)(σ:St)(Q:VK)(u:Value)(s':Shared):Prop:=∃v H',Inv X pins σ H' s'/\RelV v u/\Q v H'
def AP(X:Cx)(pins:yab)(σ:St)(Q:yar->Hp->Prop)(us:yad)(s':Shared):Prop:=∃vs H',Inv X pins σ H' s'/\Vals vs us/\Q vs H'
def SP(X:Cx)(pins:yab)(D:Ends)(f:Flow)(s':Shared):Prop :=
 match f with
 |.next=>∃Mn H',Inv X pins Mn H' s'/\D.nx Mn H'
 |.brk=>∃Mn H',Inv X pins Mn H' s'/\D.bk Mn H'
 |.cont=>∃Mn H',Inv X pins Mn H' s'/\D.ct Mn H'
 |.ret u=>∃v Mn H',Inv X pins Mn H' s'/\RelV v u/\D.rt v H'
def PE(X:Cx)(e:Expr)(t:TE):Prop :=
 ∀ (pins:yab) (s:Shared) (σ:St) (H:Hp) (Q:VK),Inv X pins σ H s->t σ H Q->wpAny (model X.prog X.w) X.A (eval e X.env) (EP X pins σ Q) X.xe s
def PA(X:Cx)(es:yai)(t:TA):Prop :=
 ∀ (pos:Pos) (pins:yab) (s:Shared) (σ:St) (H:Hp) (Q:yar->Hp->Prop),Inv X pins σ H s->t σ H Q->wpAny (model X.prog X.w) X.A (spliced (backTo pos (starEach es X.env))) (AP X pins σ Q) X.xe s
def PS(X:Cx)(st:Stmt)(t:TS):Prop :=
 ∀ (pins:yab) (s:Shared) (σ:St) (H:Hp) (D:Ends),Inv X pins σ H s->t D σ H->wpAny (model X.prog X.w) X.A (exec st X.env) (SP X pins D) X.xe s
def PSs(X:Cx)(st:yal)(t:TS):Prop :=
 ∀ (pins:yab) (s:Shared) (σ:St) (H:Hp) (D:Ends),Inv X pins σ H s->t D σ H->wpAny (model X.prog X.w) X.A (execs st X.env) (SP X pins D) X.xe s
def LK{α:Type}{t:Sem α}{Q Q':α->Shared->Prop}{M:Model}{A:Around}{E:yaa}{s:Shared}(h:wpAny M A t Q E s)(hQ:∀a s,Q a s->Q' a s):wpAny M A t Q' E s:=PU h hQ λ_ _ x=>x
section
variable{X:Cx}
def JZ(i:Nat):TE:=λσ H Q=>∃v,σ[i]?=some (some v)/\Q v H
def tC(v:V):TE:=λ_ H Q=>Q v H
def iJ {i:Nat} {x:Str} (hN:X.N[i]?=some x) (hv:S6 X.env.scope x) (hd:(x==("__debug__" : Str))=false:=by decide) (O4:(x==("__classdict__" : Str))=false:=by decide):PE X (.Name x pos) (JZ i):=by
 intro pins s σ H Q I h;obtain⟨v,e,h⟩:=h;obtain⟨m,hn,hl⟩:=I.loc;obtain⟨u,r,l⟩:=hl i x v hN e hv;have fin:EP X pins σ Q u s:=⟨v,H,I,r,h⟩;rcases l with⟨hk,hm⟩| ⟨hk,c,hc,U9⟩
 ·exact wpAny_Name (wpAny_loadName_local I.ok.kind hk hn hm fin) hd
 ·rcases hk with hk|hk
  ·exact wpAny_Name (wpAny_loadName_cell I.ok.kind hk hc U9 fin) hd
  ·exact wpAny_Name (wpAny_loadName_free I.ok.kind hk hc U9 fin O4) hd
def JI{i j pos}:PE X (.Constant (.int i) j pos) (tC (.int i)):=λ_ _ _ H _ I h=>wpAny_Constant_int ⟨.int i,H,I.tok _,⟨_,rfl⟩,h⟩
def Kt{b j pos}:PE X (.Constant (.bool b) j pos) (tC (.bl b)):=λ_ _ _ H _ I h=>Constant_bool ⟨.bl b,H,I,rfl,h⟩
def JJ{j pos}:PE X (.Constant .none j pos) (tC .Mj):=λ_ _ _ H _ I h=>Constant_none ⟨.Mj,H,I,rfl,h⟩
def JK{x j pos}:PE X (.Constant (.str x) j pos) (tC (.str x)):=λ_ _ _ H _ I h=>Calls.Constant_str ⟨.str x,H,I.tok _,⟨_,rfl⟩,h⟩
def Gl(X:Cx)(x:Str):Prop:=X.env.kindOf x=some .globalImplicit
def jw{u:Value}{Q:yaa}(I:Inv X pins σ H s)(hg:Gl X x)(hm:X.mg x=some u)(h:Q u s)
  (hd:(x==("__debug__" : Str))=false:=by decide):wpAny (model X.prog X.w) X.A (eval (.Name x pos) X.env) Q E s :=
 Calls.Name_function_global I.ok.kind hg (Calls.loadGlobal_global (by rw[I.ok.glob];exact I.mod.glob.keeps I.bk) hm h) hd
def fx{u:Value}{Q:yaa}(I:Inv X pins σ H s)(hg:Gl X x)(hm:X.mg x=none)(hv:bootBuiltins x=some u)(h:Q u s)
  (hn:x ≠ "__name__" := by decide) (hd:(x==("__debug__" : Str))=false:=by decide):wpAny (model X.prog X.w) X.A (eval (.Name x pos) X.env) Q E s:=by
 obtain⟨mb,h1,h2⟩:=I.mod.blt;exact Calls.Name_function_global I.ok.kind hg (Calls.loadGlobal_builtin (by rw[I.ok.glob];exact I.mod.glob.keeps I.bk) hm (by rw[I.ok.blt];exact h1.keeps I.bk) ((h2 x hn).trans hv) h) hd
def tD {u:Value} (hg:Gl X x) (hm:X.mg x=some u) (r:RelV v u) (hd:(x==("__debug__" : Str))=false:=by decide):PE X (.Name x pos) (tC v) :=
 λ_ _ _ H _ I h=>jw I hg hm ⟨v,H,I,r,h⟩ hd
def zD {u:Value} (hg:Gl X x) (hm:X.mg x=none) (hv:bootBuiltins x=some u) (r:RelV v u) (hn:x ≠ "__name__" := by decide) (hd:(x==("__debug__" : Str))=false:=by decide):PE X (.Name x pos) (tC v) :=
 λ_ _ _ H _ I h=>fx I hg hm hv ⟨v,H,I,r,h⟩ hn hd
variable{a b:Expr}{ta tb:TE}{pos:Pos}
def w7(b:Expr){op:CmpOp}(h:op ≠ .In)(h2:op ≠ .NotIn):behindInMarks op b=false:=by
 have e1:(op==CmpOp.In)=false:=by cases op<;>first|rfl|exact absurd rfl h
 have e2:(op==CmpOp.NotIn)=false:=by cases op<;>first|rfl|exact absurd rfl h2
 cases b<;>simp[behindInMarks,e1,e2]
variable{tA Yc:TT}{rest:yai}
end
def SqL(K:yac)(H:Hp)(a:Addr)(xs:yar):Prop :=
 Rd H a (.lst xs) ∨
  ∃ (o:Obj) (LC:yao) (n:Nat),K.lookup a=some o/\o.cls=.type "list" /\ o.dict=none/\o.data=.seq LC n/\LC.size<=sizeLine/\Vals xs LC.toList
def M6(K:yac)(H:Hp)(a:Addr)(xs:yar):Prop :=
 Rd H a (.tup xs) ∨
  ∃ (o:Obj) (LC:yao) (n:Nat),K.lookup a=some o/\o.cls=.type "tuple" /\ o.data=.seq LC n/\LC.size<=sizeLine/\Vals xs LC.toList
noncomputable def KZ:Value->Option V
 |.none=>some .Mj
 |.bool b=>some (.bl b)
 |.int i _=>some (.int i)
 |.str x _=>some (.str x)
 |.bytes b _=>some (.S5 b)
 |.float b _=>some (.X4 b)
 |.ref a=>some (.ref a)
 |.type n=>some (.ty n)
 |_=>none
def RelV.abs(r:RelV x u):KZ u=some x:=by
 cases x with
 |Mj=>cases r;rfl
 |bl _=>cases r;rfl
 |int _=>obtain⟨t,rfl⟩:=r;rfl
 |str _=>obtain⟨t,rfl⟩:=r;rfl
 |S5 _=>obtain⟨t,rfl⟩:=r;rfl
 |X4 _=>obtain⟨t,rfl⟩:=r;rfl
 |ref _=>cases r;rfl
 |ty _=>cases r;rfl
theorem RelV.inj(r:RelV x u)(q:RelV y u):x=y:=ON (r.abs.symm.trans q.abs)
theorem Vals.inj:∀{xs ys:yar} {us:yad},Vals xs us->Vals ys us->xs=ys
 |_,_,_,.nil,.nil=>rfl
 |_,_,_,.cons r t,.cons r' t'=>by rw[r.inj r',Vals.inj t t']
section
variable{X:Cx}{pins:yab}{σ:St}{H:Hp}{s:Shared}{a:Addr}{xs ys:yar}
def SqL.of{K:yac}(h:H a=some (.lst xs)):SqL K H a xs:=.inl (.inl h)
def M6.of{K:yac}(h:H a=some (.tup xs)):M6 K H a xs:=.inl (.inl h)
def Inv.list(I:Inv X pins σ H s)(h:SqL X.K H a xs):∃LC:yad,Vals xs LC/\PlainL s.heap a LC.toArray/\xs.length<=sizeLine:=by
 rcases h with h|⟨o,LC,n,hk,hc,hd,hs,hz,r⟩
 ·obtain⟨z,LC,n,r,e⟩:=h.ok I.Mh;exact⟨LC,r,⟨_,n,e,rfl,rfl,rfl⟩,z⟩
 ·refine⟨LC.toList,r,⟨o,n,I.Qa a o hk,hc,hd,by simpa using hs⟩,?_⟩;have e:=r.length;simp only[P6]at e
  lia
def Inv.tuple(I:Inv X pins σ H s)(h:M6 X.K H a xs):∃LC:yad,Vals xs LC/\IsTup s.heap a LC.toArray/\xs.length<=sizeLine:=by
 rcases h with h|⟨o,LC,n,hk,hc,hs,hz,r⟩
 ·obtain⟨z,LC,r,p⟩:=h.ok I.Mh;exact⟨LC,r,p,z⟩
 ·refine⟨LC.toList,r,⟨o,I.Qa a o hk,hc,n,by simpa using hs⟩,?_⟩;have e:=r.length;simp only[P6]at e
  lia
def Inv.S8(I:Inv X pins σ H s)(h:SqL X.K H a xs)(h':SqL X.K H a ys):xs=ys:=by
 obtain⟨LC,r,⟨o,n,e,_,_,d⟩,_⟩:=I.list h;obtain⟨its',r',⟨o',n',e',_,_,d'⟩,_⟩:=I.list h';rw[e]at e';cases e';rw[d]at d';injection d' with d1 _;have:LC=its':=by simpa using congrArg Array.toList d1
 subst this;exact r.inj r'
end
noncomputable abbrev Cx.wish(X:Cx)(E:yaa):Cx:={X with xe:=E}
abbrev Cx.Xf(X:Cx):Cx:=X.wish λ_ _=>False
theorem Cx.Ok.wish{X:Cx}(ok:X.Ok)(E:yaa):(X.wish E).Ok :=
 ⟨ok.mod,ok.kind,ok.glob,ok.blt,ok.above,ok.inj,ok.has,ok.Sw,ok.hd,ok.frames,ok.X9,ok.exf,ok.bs,ok.U5,ok.R8,ok.S7,ok.OR,ok.U6⟩
def Cx.Ok.Nh{X:Cx}(ok:(X.wish E).Ok):X.Ok :=
 ⟨ok.mod,ok.kind,ok.glob,ok.blt,ok.above,ok.inj,ok.has,ok.Sw,ok.hd,ok.frames,ok.X9,ok.exf,ok.bs,ok.U5,ok.R8,ok.S7,ok.OR,ok.U6⟩
section
variable{X:Cx}{pins:yab}{σ:St}{H:Hp}{s:Shared}{E:yaa}
theorem Inv.wish(I:Inv X pins σ H s)(E:yaa):Inv (X.wish E) pins σ H s:=⟨I.ok.wish E,I.os,I.bare,I.base,I.loc,I.cell,I.free,I.Nu,I.pin,I.Mh,I.len⟩
theorem Inv.Nh(I:Inv (X.wish E) pins σ H s):Inv X pins σ H s:=⟨I.ok.Nh,I.os,I.bare,I.base,I.loc,I.cell,I.free,I.Nu,I.pin,I.Mh,I.len⟩
end
section
variable{X:Cx}{st:Stmt}{rest:yal}{t u:TS}{e:Expr}{te:TE}{pos:Pos}
def Inv.quiet(I:Inv X pins σ H s):interactive X.env=false:=by simp[interactive,I.ok.kind]
def KG(te:TE):TS:=λD σ H=>te σ H λ_ H1=>D.nx σ H1
def tE(he:PE X e te)(hs:swapsWith e none pos.line X.env=pure false:=by rfl):PS X (.Expr e pos) (KG te):=by intro pins s σ H D I h;exact wpAny_Expr_any (LK (he pins s σ H _ I h) λv s1 MP=>(by obtain⟨x,H1,I1,r1,q1⟩:=MP;exact⟨σ,H1,I1,q1⟩)) I.quiet hs
end
abbrev KY:=V->V->V->Hp->(Hp->Prop)->Prop
def KU(X:Cx)(t:KY):Prop :=
 ∀ (pins:yab) (s:Shared) (σ:St) (H:Hp) (o i v:V) (ov iv u:Value) (Q:Hp->Prop),Inv X pins σ H s->RelV o ov->RelV i iv->RelV v u->t o i v H Q →
  wpAny (model X.prog X.w) X.A (setItem ov iv u) (λ_ s'=>∃H',Inv X pins σ H' s'/\Q H') X.xe s
section
variable{X:Cx}{pos:Pos}
def Lp(i j:Nat)(ta:TA):TS:=λD σ H=>ta σ H λvs H1=>∃v w,vs=[v,w]/\D.nx ((σ.set i (some v)).set j (some w)) H1
def JN{i j:Nat}{x y:Str}{a b:Expr}{ta:TA}{px py pt:Pos}{kt k2 VY}(hc:X.calm=true)(hN:X.N.Nodup)(hi:X.N[i]?=some x)(hj:X.N[j]?=some y)(NO:i≠j)
  (hx:X.env.scope.names.lookup x=some .local) (hy:X.env.scope.names.lookup y=some .local) (ha:PA X [a,b] ta)
  (hw:swappedStores [.Tuple [.Name x px,.Name y py] kt pt] (.Tuple [a,b] k2 VY) X.env=pure (some [x,y]))
  (hs:swapsWithSole [.Tuple [.Name x px,.Name y py] kt pt] (.Tuple [a,b] k2 VY) pos.line X.env=pure false:=by rfl) :
  PS X (.Assign [.Tuple [.Name x px,.Name y py] kt pt] (.Tuple [a,b] k2 VY) pos) (Lp i j ta):=by
 intro pins s σ H D I h;rw[exec_Assign_arm];refine LA (wpAny_standAt ?_);rw[hs];refine LA (Ma ?_);rw[Lw (by decide)];refine LA (Tuple_ (LK (ha _ pins s σ H _ I h) λus s1 LO=>?_));obtain⟨vs,H1,I1,r1,q1⟩:=LO;obtain⟨v,w,e1,q1⟩:=q1;subst e1;obtain⟨u1,u2,rfl,rv,RP⟩:∃u1 u2,us=[u1,u2]/\RelV v u1/\RelV w u2:=by
  cases r1 with
  |cons p q =>
   cases q with
   |cons p' q' =>
    cases q';exact⟨_,_,rfl,p,p'⟩
 refine WX ?_ (by show 2<=sizeLine;decide);have I2:Inv X pins σ H1 {s1 with heap:=s1.heap.push {cls:=.type "tuple", data:=.seq [u1,u2].toArray} }:=I1.kept (t':=s1.toks) λb o e=>Oi _ e
 rw[hw];refine LA (Ma ?_);show wpAny (model X.prog X.w) X.A (do rule "assign.swapped-stores"; let items←unpackItems (.ref s1.heap.objs.size) 2 none;assignInOrder [λv=>bindName X.env y v,λv=>bindName X.env x v] items.reverse;pure Flow.next) _ _ _;refine LA (wpAny_rule (LA (unpackItems_tuple (items:=#[u1,u2]) (I.ok.hd hc) (IsTup.new s1.heap _) λh' Qb=>?_)));have I3:=I2.kept (h':=h') (t':=s1.toks) λb o e=>Qb b o (O6 (Nn e)) e
 show wpAny _ _ (assignInOrder [λv=>bindName X.env y v,λv=>bindName X.env x v] [u2,u1] >>= λ_=>pure Flow.next) _ _ _;refine LA (assignInOrder_cons (wpAny_bindName (eO I3 hN hj (.inl hy) RP (λs2 I4=>?_) (.inr hy))));refine assignInOrder_cons (wpAny_bindName (eO I4 hN hi (.inl hx) rv (λs3 I5=>assignInOrder_nil (Ma ?_)) (.inr hx)));rw[List.set_comm _ _ (Ne.symm NO)]at I5;exact⟨_,H1,I5,q1⟩
end
structure It where
 go:Nat->Hp->Prop
 yld:Nat->Hp->V->Hp->Prop
 stop:Nat->Hp->Prop
def fO(X:Cx)(pins:yab)(H:Hp)(b:Addr):Prop :=
 H b=none/\b≠X.env.locals/\b∉X.fs/\(b∈X.ex∨X.LU.heap.objs.size<=b)/\(∀x c,X.env.cells.lookup x=some c->c≠b)/\∀p∈X.pn++pins,p.1≠b
def Inv.Yd{H':Hp}{b:Addr}(I:Inv X pins σ H s)(hb:s.heap.objs.size<=b)(hn:H' b=none):fO X pins H' b:=by
 refine⟨hn,Nat.ne_of_gt (OM I.lt hb),I.nofs hb,.inr (NM I.sz hb),λx c e z=>?_,λp hp z=>?_⟩
 ·obtain⟨v,q⟩:=I.cell x c e;exact absurd (OM q.lt (by rw[z];exact hb)) (Su _)
 ·exact absurd (OM (Nn (I.pin p hp).1) (by rw[z];exact hb)) (Su _)
structure Turn(P:Program)(w:World)(K:yac)(tg:Expr)(J:It)(fp:yae)(it:Addr)(tn:Nat->Heap->Prop):Prop where
 mem:it∈fp
 obj:∀i h,tn i h->∀b∈fp,∃o,h.get? b=some o/\∀v,o.data ≠ .cell v
 keep:∀i h h',tn i h->(∀b∈fp,∀o,h.get? b=some o->h'.get? b=some o)->tn i h'
 item:∀(X:Cx),X.prog=P->X.w=w->X.K=K->X.calm=true->∀(i:Nat) (pins:yab) (s:Shared) (σ:St) (H:Hp) (E:yaa),Inv X pins σ H s->(∀b∈fp,fO X pins H b)->tn i s.heap->J.go i H →
  wpAny (model P w) X.A (pyNext (.ref it)) (λr s1=>∃u,r=some u ∧
   wpAny (model P w) X.A (letOwnedTupleGo tg (.ref it) u) (λ_ s2=>∃x H',Inv X pins σ H' s2/\RelV x u/\J.yld i H x H'/\tn (i+1) s2.heap/\∀b∈fp,H' b=none) E s1) E s
 done:∀(X:Cx),X.prog=P->X.w=w->X.K=K->X.calm=true->∀(i:Nat) (pins:yab) (s:Shared) (σ:St) (H:Hp) (E:yaa),Inv X pins σ H s->(∀b∈fp,fO X pins H b)->tn i s.heap->J.stop i H →
  wpAny (model P w) X.A (pyNext (.ref it)) (λr s1=>r=none/\Inv X pins σ H s1) E s
 self:∀(A:Around) (i:Nat) (s:Shared) (Q:yaa) (E:yaa),tn i s.heap->Q (.ref it) s->wpAny (model P w) A (pyIter (.ref it)) Q E s
abbrev TI:=St->Hp->(It->Hp->Prop)->Prop
def PIE(X:Cx)(pins:yab)(σ:St)(tg:Expr)(R:It->Hp->Prop)(S9:Value)(s2:Shared):Prop :=
 ∃ (it:Addr) (fp:yae) (tn:Nat->Heap->Prop) (J:It) (H':Hp),S9=.ref it/\Inv X pins σ H' s2/\Turn X.prog X.w X.K tg J fp it tn/\tn 0 s2.heap/\(∀b∈fp,fO X pins H' b)/\R J H'
def PI(X:Cx)(tg iter:Expr)(wi:TI):Prop :=
 ∀ (pins:yab) (s:Shared) (σ:St) (H:Hp) (R:It->Hp->Prop),Inv X pins σ H s->wi σ H R →
  wpAny (model X.prog X.w) X.A (eval iter X.env) (λv s1=>wpAny (model X.prog X.w) X.A (pyIter v) (PIE X pins σ tg R) X.xe s1) X.xe s
def Fx {s : Shared} {o : Obj} {Q : Unit -> Shared -> Prop} (ho : s.heap.get? it = some o) (hc : o.cls = .type n) (hd : o.data = .fields vs)
    (hn : ["enumerate", "zip", "dict_itemiterator", "dict_reverseitemiterator", "odict_iterator", "itertools.zip_longest", "itertools.pairwise"].contains n = false) (hQ : Q () s) : wpAny M A (letOwnedTupleGo tg (.ref it) u) Q E s := by
  unfold letOwnedTupleGo;cases tg <;> first
    | exact Ma hQ
    | (cases u <;> first
        | exact Ma hQ
        | (refine LA (wpAny_load ho ?_)
           rw [hc, hd];show wpAny M A (if (["enumerate", "zip", "dict_itemiterator", "dict_reverseitemiterator", "odict_iterator", "itertools.zip_longest", "itertools.pairwise"].contains n && vs[0]? == some (rawInt _)) = true then _ else _) Q E s;rw [Lw (by intro h; rw [hn, Bool.false_and] at h; cases h)];exact Ma hQ))
def Itl(K:yac)(a:Addr):It :=
 ⟨λi H=>∃xs x,SqL K H a xs/\xs[i]?=some x,λi H x H'=>H'=H/\∀xs,SqL K H a xs->xs[i]?=some x,λi H=>∃xs,SqL K H a xs/\xs.length<=i⟩
def Dj{P:Program}{w:World}{K:yac}{tg:Expr}(a it:Addr):Turn P w K tg (Itl K a) [it] it (λi h=>h.IsListIter it a i) where
 mem:=by simp
 obj:=λi h st b hb=>by
  have e:b=it:=by simpa using hb
  subst e;obtain⟨o,e,c,d⟩:=st;exact⟨o,e,λv z=>by rw[d]at z;cases z⟩
 keep:=λi h h' st k=>st.at λo e=>k it (by simp) o e
 item:=by
  intro X hP hw hK hc i pins s σ H E I hf st hg;subst hP hw hK;obtain⟨xs,x,hq,hx⟩:=hg;obtain⟨LC,rv,p,hz⟩:=I.list hq;obtain⟨u,hu,ru⟩:=rv.get hx;obtain⟨f0,f1,f2,f3,f4,f5⟩:=hf it (by simp);refine wpAny_pyNext_list_item st p.isList (x:=u) (by simpa using hu) λh' st' sb=>?_
  have I1:Inv X pins σ H {s with heap:=h'}:=I.turned (t':=s.toks) (λb o hb e=>(sb.2 b hb).trans e) f0 f1 f3 f4 f5;obtain⟨o,e,c,d⟩:=id st';exact⟨u,rfl,Fx (s:={s with heap:=h'}) e c d (by decide) ⟨x,H,I1,ru,⟨rfl,λys hy=>by rw[I.S8 hy hq];exact hx⟩,st',λb hb=>(hf b hb).1⟩⟩
 done:=by intro X hP hw hK hc i pins s σ H E I hf st hg;subst hP hw hK;obtain⟨xs,hq,hx⟩:=hg;obtain⟨LC,rv,p,hz⟩:=I.list hq;obtain⟨f0,f1,f2,f3,f4,f5⟩:=hf it (by simp);have hl:=rv.length;exact wpAny_pyNext_list_end (I.ok.hd hc) st p.isList (by simp;lia) λh' eb=>⟨rfl,I.turned (t':=s.toks) (λb o hb e=>eb b o hb e) f0 f1 f3 f4 f5⟩
 self:=λ_ _ _ _ _ st h=>wpAny_pyIter_listiter st h
section
variable{X:Cx}{tg:Expr}
def Kk(K:yac)(tl:TE):TI:=λσ H R=>tl σ H λx H1=>∃a,x=.ref a/\(∃xs,SqL K H1 a xs)/\R (Itl K a) H1
def Hc{l:Expr}{tl:TE}(hl:PE X l tl):PI X tg l (Kk X.K tl):=by
 intro pins s σ H R I h;refine LK (hl pins s σ H _ I h) λv s1 LO=>?_
 obtain⟨x,H1,I1,r1,q1⟩:=LO;obtain⟨a,e,⟨xs,hq⟩,q⟩:=q1;subst e;cases r1;obtain⟨LC,rv,p,hz⟩:=I1.list hq;refine wpAny_pyIter_list p.isList ?_;refine⟨s1.heap.objs.size,[s1.heap.objs.size],_,_,H1,rfl,I1.kept (t':=s1.toks) λb o e=>Oi _ e,Dj a _,⟨_,Qu _ rfl,rfl,rfl⟩,λb hb=>?_,q⟩;have e:b=s1.heap.objs.size:=by simpa using hb
 subst e;exact I1.Yd (Mw _) (I1.Mh.fresh (Mw _))
def rE(fp:yae)(h:Heap):yab:=fp.filterMap λb=>(h.get? b).map λo=>(b,o)
def jg{fp:yae}{h:Heap}{b:Addr}{o:Obj}(hb:b∈fp)(e:h.get? b=some o):(b,o)∈rE fp h:=XQ.mpr ⟨b,hb,by rw[e];rfl⟩
def CH{p:Addr×Obj}(hp:p∈rE fp h):p.1∈fp/\h.get? p.1=some p.2:=by
 obtain⟨b,hb,e⟩:=XQ.mp hp;cases q:h.get? b with
 |none=>rw[q]at e;cases e
 |some o =>
  rw[q]at e;have e':(b,o)=p:=ON e;subst e';exact⟨hb,q⟩
def Inv.pinned{fp:yae}(I:Inv X pins σ H s)(hf:∀b∈fp,fO X pins H b)(ho:∀b∈fp,∃o,s.heap.get? b=some o/\∀v,o.data ≠ .cell v):Inv X (pins++rE fp s.heap) σ H s :=
 I.RN λp hp=>(MC.mp hp).elim (λz=>I.pin p (Oq _ z)) λz=>by obtain⟨hb,e⟩:=CH z;obtain⟨f0,f1,f2,_⟩:=hf p.1 hb;obtain⟨o,e',d⟩:=ho p.1 hb;rw[e]at e';cases e';exact⟨e,f0,f1,f2,d⟩
def Inv.N6{pins pl:yab}(I:Inv X (pins++pl) σ H s):Inv X pins σ H s:=I.RN λp hp=>I.pin p (Oq _ (Qj _ hp))
end
abbrev R2:=V->V->Hp->VK->Prop
def Ql(X:Cx)(f:Value->Value->Sem Value)(r:R2):Prop :=
 ∀ (pins:yab) (s:Shared) (σ:St) (H:Hp) (x y:V) (v u:Value) (Q:VK),Inv X pins σ H s->RelV x v->RelV y u->r x y H Q →
  wpAny (model X.prog X.w) X.A (f v u) (EP X pins σ Q) X.xe s
def UnR(X:Cx)(f:Value->Sem Value)(r:V->Hp->VK->Prop):Prop :=
 ∀ (pins:yab) (s:Shared) (σ:St) (H:Hp) (x:V) (v:Value) (Q:VK),Inv X pins σ H s->RelV x v->r x H Q →
  wpAny (model X.prog X.w) X.A (f v) (EP X pins σ Q) X.xe s
def j1(X:Cx)(f:Value)(r:yar->Hp->VK->Prop):Prop :=
 ∀ (pins:yab) (s:Shared) (σ:St) (H:Hp) (xs:yar) (us:yad) (Q:VK),Inv X pins σ H s->Vals xs us->r xs H Q →
  wpAny (model X.prog X.w) X.A (call f us) (EP X pins σ Q) X.xe s
def rI(C:Int->Int->Prop)(g:Int->Int->V):R2:=λx y H Q=>∃i j,x=.int i/\y=.int j/\C i j/\Q (g i j) H
def TU(g:Int->Int->V):R2:=λx y H Q=>∃i j,x=.int i/\y=.int j/\Q (g i j) H
def rU(g:Int->V):V->Hp->VK->Prop:=λx H Q=>∃i,x=.int i/\Q (g i) H
section
variable{X:Cx}{a b c:Expr}{ta tb tc:TE}{pos:Pos}
def Z3{f:Value->Value->Sem Value}{C:Int->Int->Prop}{g:Int->Int->Int}
  (rule:∀(i j:Int) (t u:Tok) (s:Shared) (Q:yaa) (E:yaa),C i j->Q (.int (g i j) s.toks) {s with toks:=s.toks+1}->wpAny (model X.prog X.w) X.A (f (.int i t) (.int j u)) Q E s) :
  Ql X f (rI C λi j=>.int (g i j)):=by
 intro pins s σ H x y v u Q I rx ry h;obtain⟨i,j,rfl,rfl,hc,q⟩:=h;obtain⟨t,rfl⟩:=rx;obtain⟨t',rfl⟩:=ry;exact rule i j t t' s _ _ hc ⟨.int (g i j),H,I.tok _,⟨_,rfl⟩,q⟩
def JB{f:Value->Value->Sem Value}{g:Int->Int->Int}
  (rule:∀(i j:Int) (t u:Tok) (s:Shared) (Q:yaa) (E:yaa),Q (.int (g i j) s.toks) {s with toks:=s.toks+1}->wpAny (model X.prog X.w) X.A (f (.int i t) (.int j u)) Q E s) :
  Ql X f (TU λi j=>.int (g i j)):=by
 intro pins s σ H x y v u Q I rx ry h;obtain⟨i,j,rfl,rfl,q⟩:=h;obtain⟨t,rfl⟩:=rx;obtain⟨t',rfl⟩:=ry;exact rule i j t t' s _ _ ⟨.int (g i j),H,I.tok _,⟨_,rfl⟩,q⟩
def AL{f:Value->Value->Sem Value}{g:Int->Int->Bool}
  (rule:∀(i j:Int) (t u:Tok) (s:Shared) (Q:yaa) (E:yaa),Q (.bool (g i j)) s->wpAny (model X.prog X.w) X.A (f (.int i t) (.int j u)) Q E s) :
  Ql X f (TU λi j=>.bl (g i j)):=by
 intro pins s σ H x y v u Q I rx ry h;obtain⟨i,j,rfl,rfl,q⟩:=h;obtain⟨t,rfl⟩:=rx;obtain⟨t',rfl⟩:=ry;exact rule i j t t' s _ _ ⟨.bl (g i j),H,I,rfl,q⟩
def vD(i j:Int):Prop:=0<=j/\j<=1000000/\i.natAbs<2 ^ 64
def JC:Ql X (binaryOp .Add) (TU λi j=>.int (i+j)):=JB λ_ _ _ _ _ _ _ q=>add_int q
def JF:Ql X (binaryOp .Sub) (TU λi j=>.int (i - j)):=JB λ_ _ _ _ _ _ _ q=>sub_int q
def G8:Ql X (binaryOp .Mod) (rI (λ_ j=>j≠0) λi j=>.int (i.fmod j)):=Z3 λ_ _ _ _ _ _ _ hc q=>mod_int' hc q
def JE:Ql X (binaryOp .Pow) (rI vD λi j=>.int (i ^ j.toNat)):=Z3 λ_ _ _ _ _ _ _ hc q=>pow_int_small hc.1 hc.2.1 hc.2.2 q
def unI{f:Value->Sem Value}{g:Int->Int}
  (rule:∀(i:Int) (t:Tok) (s:Shared) (Q:yaa) (E:yaa),Q (.int (g i) s.toks) {s with toks:=s.toks+1}->wpAny (model X.prog X.w) X.A (f (.int i t)) Q E s) :
  UnR X f (rU λi=>.int (g i)):=by
 intro pins s σ H x v Q I rx h;obtain⟨i,rfl,q⟩:=h;obtain⟨t,rfl⟩:=rx;exact rule i t s _ _ ⟨.int (g i),H,I.tok _,⟨_,rfl⟩,q⟩
def J0:UnR X (unaryOp .USub) (rU λi=>.int (-i)):=unI λ_ _ _ _ _ q=>neg_int q
end
def tN:V->V->Bool
 |.Mj,.Mj=>true|.Mj,.int _=>true|.int _,.Mj=>true|.Mj,.bl _=>true|.bl _,.Mj=>true|.Mj,.str _=>true|.str _,.Mj=>true
 |.int _,.int _=>true|.bl _,.bl _=>true|.str _,.str _=>true|.S5 _,.S5 _=>true
 |.int _,.str _=>true|.str _,.int _=>true|.bl _,.str _=>true|.str _,.bl _=>true
 |_,_=>false
def rEq:R2:=λx y H Q=>tN x y=true/\Q (.bl (decide (x=y))) H
def rNe:R2:=λx y H Q=>tN x y=true/\Q (.bl (!decide (x=y))) H
def n6:decide (V.int i=V.int j)=(i==j):=by rw[Uh];simp
def BR:decide (V.bl i=V.bl j)=(i==j):=by rw[Uh];simp
def y8:decide (V.str i=V.str j)=(i==j):=by rw[Uh];simp
def y7:decide (V.S5 i=V.S5 j)=(i.toList==j.toList):=by rw[Uh];cases i;cases j;simp
section
variable{X:Cx}{a b c:Expr}{ta tb tc:TE}{pos:Pos}
def ba{Q:VK}{k':Bool}(I:Inv X pins σ H s)(q:Q (.bl k) H)(e:k=k'):EP X pins σ Q (.bool k') s:=by subst e;exact⟨.bl k,H,I,rfl,q⟩
def Kn:Ql X (compareOp .Eq) rEq:=by
 intro pins s σ H x y v u Q I rx ry h;obtain⟨hs,q⟩:=h;cases x with
 |Mj =>
  cases rx;cases y with
  |Mj=>cases ry;exact PySem.EqNone.eq_none_none (ba I q (by simp))
  |bl j=>cases ry;exact PySem.EqNone.eq_none_bool (ba I q (by simp))
  |int j=>obtain⟨t',rfl⟩:=ry;exact PySem.EqNone.eq_none_int (ba I q (by simp))
  |str j=>obtain⟨t',rfl⟩:=ry;exact PySem.EqNone.eq_none_str (ba I q (by simp))
  |_=>exact absurd (show false=true from hs) Qv
 |bl i =>
  cases rx;cases y with
  |Mj=>cases ry;exact PySem.EqNone.eq_bool_none (ba I q (by simp))
  |bl j=>cases ry;exact eq_bool (ba I q BR)
  |str j=>obtain⟨t',rfl⟩:=ry;exact PySem.EqMixed.eq_bool_str (ba I q (by simp))
  |_=>exact absurd (show false=true from hs) Qv
 |int i =>
  obtain⟨t,rfl⟩:=rx;cases y with
  |Mj=>cases ry;exact PySem.EqNone.eq_int_none (ba I q (by simp))
  |int j=>obtain⟨t',rfl⟩:=ry;exact eq_int (ba I q n6)
  |str j=>obtain⟨t',rfl⟩:=ry;exact PySem.EqMixed.eq_int_str (ba I q (by simp))
  |_=>exact absurd (show false=true from hs) Qv
 |str i =>
  obtain⟨t,rfl⟩:=rx;cases y with
  |Mj=>cases ry;exact PySem.EqNone.eq_str_none (ba I q (by simp))
  |bl j=>cases ry;exact PySem.EqMixed.eq_str_bool (ba I q (by simp))
  |int j=>obtain⟨t',rfl⟩:=ry;exact PySem.EqMixed.eq_str_int (ba I q (by simp))
  |str j=>obtain⟨t',rfl⟩:=ry;exact eq_str (ba I q y8)
  |_=>exact absurd (show false=true from hs) Qv
 |S5 i =>
  obtain⟨t,rfl⟩:=rx;cases y with
  |S5 j=>obtain⟨t',rfl⟩:=ry;exact PySem.W.eq_bytes (ba I q y7)
  |_=>exact absurd (show false=true from hs) Qv
 |_=>cases y<;>exact absurd (show false=true from hs) Qv
def Ks:Ql X (compareOp .NotEq) rNe:=by
 intro pins s σ H x y v u Q I rx ry h;obtain⟨hs,q⟩:=h;cases x with
 |Mj =>
  cases rx;cases y with
  |Mj=>cases ry;exact PySem.EqNone.ne_none_none (ba I q (by simp))
  |bl j=>cases ry;exact PySem.EqNone.ne_none_bool (ba I q (by simp))
  |int j=>obtain⟨t',rfl⟩:=ry;exact PySem.EqNone.ne_none_int (ba I q (by simp))
  |str j=>obtain⟨t',rfl⟩:=ry;exact PySem.EqNone.ne_none_str (ba I q (by simp))
  |_=>exact absurd (show false=true from hs) Qv
 |bl i =>
  cases rx;cases y with
  |Mj=>cases ry;exact PySem.EqNone.ne_bool_none (ba I q (by simp))
  |bl j=>cases ry;exact ne_bool (ba I q (congrArg not BR))
  |str j=>obtain⟨t',rfl⟩:=ry;exact PySem.EqMixed.ne_bool_str (ba I q (by simp))
  |_=>exact absurd (show false=true from hs) Qv
 |int i =>
  obtain⟨t,rfl⟩:=rx;cases y with
  |Mj=>cases ry;exact PySem.EqNone.ne_int_none (ba I q (by simp))
  |int j=>obtain⟨t',rfl⟩:=ry;exact ne_int (ba I q (congrArg not n6))
  |str j=>obtain⟨t',rfl⟩:=ry;exact PySem.EqMixed.ne_int_str (ba I q (by simp))
  |_=>exact absurd (show false=true from hs) Qv
 |str i =>
  obtain⟨t,rfl⟩:=rx;cases y with
  |Mj=>cases ry;exact PySem.EqNone.ne_str_none (ba I q (by simp))
  |bl j=>cases ry;exact PySem.EqMixed.ne_str_bool (ba I q (by simp))
  |int j=>obtain⟨t',rfl⟩:=ry;exact PySem.EqMixed.ne_str_int (ba I q (by simp))
  |str j=>obtain⟨t',rfl⟩:=ry;exact ne_str (ba I q (congrArg not y8))
  |_=>exact absurd (show false=true from hs) Qv
 |S5 i =>
  obtain⟨t,rfl⟩:=rx;cases y with
  |S5 j=>obtain⟨t',rfl⟩:=ry;exact PySem.W.ne_bytes (ba I q (congrArg not y7))
  |_=>exact absurd (show false=true from hs) Qv
 |_=>cases y<;>exact absurd (show false=true from hs) Qv
def Kr:Ql X (compareOp .Lt) (TU λi j=>.bl (decide (i<j))):=AL λ_ _ _ _ _ _ _ q=>lt_int q
def Kq:Ql X (compareOp .LtE) (TU λi j=>.bl (decide (i<=j))):=AL λ_ _ _ _ _ _ _ q=>le_int q
def Kp:Ql X (compareOp .Gt) (TU λi j=>.bl (decide (j<i))):=AL λ_ _ _ _ _ _ _ q=>gt_int q
def Ko:Ql X (compareOp .GtE) (TU λi j=>.bl (decide (j<=i))):=AL λ_ _ _ _ _ _ _ q=>ge_int q
def JD:Ql X (compareOp .Is) (λx y H Q=>y=.Mj/\Q (.bl (decide (x=.Mj))) H):=by
 intro pins s σ H x y v u Q I rx ry h;obtain⟨rfl,q⟩:=h;cases ry;refine is_none_gen (ba I q ?_);cases x<;>first
  |(cases rx;rfl)
  |(obtain⟨t,rfl⟩:=rx;rfl)
def rh:(sizeLine:Nat)<2 ^ 63:=by rw[sizeLine_eq];decide
def vals1{x:V}(r:Vals [x] us):∃u,us=[u]/\RelV x u:=by
 cases r with
 |cons r1 r2=>cases r2;exact⟨_,rfl,r1⟩
def vals2{x y:V}(r:Vals [x,y] us):∃u w',us=[u,w']/\RelV x u/\RelV y w':=by
 cases r with
 |cons r1 r2 =>
  cases r2 with
  |cons r3 r4=>cases r4;exact⟨_,_,rfl,r1,r3⟩
def DJ:j1 X (.builtin "abs") (λxs H Q=>∃i,xs=[.int i]/\Q (.int (if i<0 then -i else i)) H):=by intro pins s σ H xs us Q I r h;obtain⟨i,rfl,q⟩:=h;obtain⟨u,rfl,t,rfl⟩:=vals1 r;exact call_abs_int λu tk=>⟨.int (if i<0 then -i else i),H,I.tok _,⟨_,rfl⟩,q⟩
def Bz (hc:X.calm=true):j1 X (.builtin "max") (λxs H Q=>∃i j,xs=[.int i,.int j]/\Q (.int (if j > i then j else i)) H):=by
 intro pins s σ H xs us Q I r h;obtain⟨i,j,rfl,q⟩:=h;obtain⟨u,w',rfl,⟨t,rfl⟩,⟨t',rfl⟩⟩:=vals2 r;refine max_two_ints (I.ok.hd hc) λh' tk k=>⟨_,H,I.kept k,?_,q⟩
 by_cases hj:j > i
 ·rw[Lx hj,Lx hj];exact⟨_,rfl⟩
 ·rw[Lw hj,Lw hj];exact⟨_,rfl⟩
def BA (hc:X.calm=true):j1 X (.builtin "min") (λxs H Q=>∃i j,xs=[.int i,.int j]/\Q (.int (if j<i then j else i)) H):=by
 intro pins s σ H xs us Q I r h;obtain⟨i,j,rfl,q⟩:=h;obtain⟨u,w',rfl,⟨t,rfl⟩,⟨t',rfl⟩⟩:=vals2 r;refine min_two_ints (I.ok.hd hc) λh' tk k=>⟨_,H,I.kept k,?_,q⟩
 by_cases hj:j<i
 ·rw[Lx hj,Lx hj];exact⟨_,rfl⟩
 ·rw[Lw hj,Lw hj];exact⟨_,rfl⟩
def By:j1 X (.type "int") (λxs H Q=>(∃i,xs=[.int i]/\Q (.int i) H)∨∃ k,xs=[.bl k]/\Q (.int (if k then 1 else 0)) H):=by
 intro pins s σ H xs us Q I r h;rcases h with⟨i,rfl,q⟩| ⟨k,rfl,q⟩
 ·obtain⟨u,rfl,t,rfl⟩:=vals1 r;exact call_int_int ⟨.int i,H,I,⟨_,rfl⟩,q⟩
 ·obtain⟨u,rfl,r1⟩:=vals1 r;cases r1;exact call_int_bool ⟨.int (if k then 1 else 0),H,I.tok _,⟨_,rfl⟩,q⟩
end
structure Dy(h:Heap)(x dx C:Addr)(mA:yam):Prop where
 obj:h.get? x=some (PySem.W.instObj C dx)
 ns:h.Ns1 dx mA
 ne:dx≠x
set_option tactic.hygienic true in
def Cu{h:Heap}(n:h.Ns1 dx mA):∃od,h.get? dx=some od/\∀name,PySem.W.lookIn name od=some (mA name):=by
 obtain⟨o,es,ep,ho,hd,hk,_,hm⟩:=n;refine⟨o,ho,λname=>?_⟩;have e:=hm name;unfold nsFind findBy at e;rw[<- Array.find?_toList]at e;unfold PySem.W.lookIn;rw[hd];dsimp only;split
 ·rename_i y q;rw[q]at e;exact congrArg some e
 ·rename_i q;rw[q]at e;have a:es.toList.any (·.refKey)=false:=by
   rw[List.any_eq_false];intro y hy;obtain⟨z,t,R9⟩:=hk y (Array.mem_toList_iff.mp hy);simp[DictEntry.refKey,R9]
  have a':¬es.toList.any (·.refKey)=true:=by rw[a];exact Qv
  rw[Lw a'];exact congrArg some e
def Dy.look(I:Dy h x dx C mA):∃od,PySem.W.InstAt h x (PySem.W.instObj C dx) C (some od)/\∀name,PySem.W.lookIn name od=some (mA name) :=
 let ⟨od,ho,hl⟩:=Cu I.ns
 ⟨od,⟨I.obj,rfl,rfl,ho⟩,hl⟩
def kr.some_of{v:V}(r:kr (some v) o):∃u,o=some u/\RelV v u:=by
 cases o with
 |none=>exact(show False from r).elim
 |some u=>exact⟨u,rfl,r⟩
structure MS(K:yac)(C:Addr):Prop where
 pg:PySem.W.plainGet K C Str.empty=true
 hd:PySem.W.hasDictIn K C=true
 po:PySem.W.plainOver K C=true
 sa:PySem.W.findIn K (.ref C) "__setattr__" = some (some (.builtin "object.__setattr__"))
structure Con(K:yac)(C:Addr)(f:Str)(v:V)(u:Value):Prop where
 at_:PySem.W.findIn K (.ref C) f=some (some u)
 rel:RelV v u
 get:PySem.W.specialIn K u "__get__" = some none
 cp:PySem.W.copiedNames.contains f=false
structure Meth(K:yac)(C:Addr)(m:Str)(f:Addr):Prop where
 at_:PySem.W.findIn K (.ref C) m=some (some (.ref f))
 fn:PySem.W.isFn K (.ref f)=true
 kp:PySem.W.keepIn K (.ref f)=true
def HS(X:Cx)(op:Operator)(rd:V->V->Hp->VK->Prop):Prop :=
 ∀ (pins:yab) (s:Shared) (σ:St) (H:Hp) (x y:V) (u v:Value) (Q:VK),Inv X pins σ H s->RelV x u->RelV y v->rd x y H Q->wpAny (model X.prog X.w) X.A (inplaceOp op u v) (EP X pins σ Q) X.xe s
section
variable{X:Cx}{o e value:Expr}{f:Str}{pos pos' tpos:Pos}{ta tv:TE}
def Lg:V->V->Hp->VK->Prop:=λx y H Q=>∃i j,x=.int i/\y=.int j/\Q (.int (i+j)) H
def Jf:HS X .Add Lg:=by rintro pins s σ H x y u v Q I rx ry ⟨i,j,rfl,rfl,q⟩;obtain⟨t,rfl⟩:=(show∃t,u=Value.int i t from rx);obtain⟨t',rfl⟩:=(show∃t',v=Value.int j t' from ry);exact PyProof.Rows.iadd_int ⟨.int (i+j),H,I.tok _,⟨_,rfl⟩,q⟩
end
section
variable{X:Cx}{pins:yab}{σ:St}{H:Hp}{s:Shared}{A:Around}{E:yaa}{Q:yaa}{c:Value}{b:Bool}
inductive jC (K:yac) (H:Hp):V->Value->Prop where
 |Mj:jC K H .Mj (.type "NoneType")
 |bl (x:Bool):jC K H (.bl x) (.type "bool")
 |int (i:Int):jC K H (.int i) (.type "int")
 |str (x:Str):jC K H (.str x) (.type "str")
 |X4 (x:UInt64):jC K H (.X4 x) (.type "float")
 |lst {a:Addr} {xs:yar} (e:H a=some (.lst xs)):jC K H (.ref a) (.type "list")
 |frz {a:Addr} {o:Obj} {xs:yar} (e:H a=some (.frz o (.lst xs))):jC K H (.ref a) (.type "list")
 |tup {a:Addr} {xs:yar} (e:H a=some (.tup xs)):jC K H (.ref a) (.type "tuple")
 |dK {a:Addr} {kvs:List (Key×V)} (e:H a=some (.dK kvs)):jC K H (.ref a) (.type "dict")
 |dT {a:Addr} {kvs:List (List Key×V)} (e:H a=some (.dT kvs)):jC K H (.ref a) (.type "dict")
 |ins {a C dx:Addr} {fs:List (Str×V)} (e:H a=some (.ins C dx fs)) (cl:MS K C) (ha:PySem.W.findIn K (.ref C) "__class__" = some (some (.builtin "object.__class__")))
   (hn:PySem.W.specialIn K (.builtin "object.__class__") "__get__" = some (some (.builtin "getset_descriptor.__get__"))) (htk:PySem.W.takesIn K (.builtin "object.__class__")=some true)
   (hm:PySem.W.mroIn K C (.type "object")=some true):jC K H (.ref a) (.ref C)
end
structure bN(k:Nat)(A:Around):Prop where
 hd:A.handled=none
 dp:A.depth+3*k+5<recursionLimit
 un:A.units+16*k+200<cLine
def bN.mono{j:Nat}(r:bN k A)(h:j<=k):bN j A:=⟨r.hd,by have:=r.dp;lia,by have:=r.un;lia⟩
theorem bN.deeper{k:Nat}(r:bN (k+1) A)(env:Env):bN k (A.deeper env) :=
 ⟨r.hd,by have:=r.dp;show A.depth+1+3*k+5<_;lia,by have:=r.un;show A.units+3+16*k+200<_;lia⟩
theorem bN.depth(r:bN k A):A.depth<recursionLimit:=by have:=r.dp;lia
theorem bN.units(r:bN k A):A.units+64<cLine:=by have:=r.un;lia
def E3:TA:=λ_ H Q=>Q [] H
def rY(ta:TE)(tr:TA):TA:=λσ H Q=>ta σ H λx H1=>tr σ H1 λxs H2=>Q (x::xs) H2
section
variable{X:Cx}{e:Expr}{es:yai}{te:TE}{t:TA}{pos:Pos}
def nG:PA X [] E3:=λ_ _ _ _ H Q I h=>Calls.spliced_nil ⟨[],H,I,.nil,h⟩
def gT(ha:PE X e te)(hr:PA X es t)(hs:starEach (e::es) X.env=(false,eval e X.env)::starEach es X.env:=by rfl):PA X (e::es) (rY te t):=by intro pos pins s σ H Q I h;rw[hs];show wpAny _ _ (spliced ((false,eval e X.env)::backTo pos (starEach es X.env))) _ _ s;refine Calls.spliced_cons (LK (ha pins s σ H _ I h) λu s1 LO=>?_);obtain⟨x,H1,I1,r1,q1⟩:=LO;exact LK (hr pos pins s1 σ H1 _ I1 q1) λus s2 MP=>(by obtain⟨xs,H2,I2,r2,q2⟩:=MP;exact⟨x::xs,H2,I2,.cons r1 r2,q2⟩)
end
abbrev Sp:=yar->Hp->VK->XK->Prop
abbrev CXT:=List Env->Hp->Shared->XK->yaa
structure zV(P:Program)(w:World)(K:yac)(mg:yam)(base:Heap)(A:Around)(outer:List Env)(s:Shared)(H:Hp):Prop where
 frames:A.frames=some outer
 mod:Mod K mg base
 bs:∀b o,base.get? b=some o->s.heap.get? b=some o/\H b=none
 U5:base.objs.size<=s.heap.objs.size
 OR:s.heap.FunFrames base outer
 U6:∀b∈PV outer,H b=none
 Mh:N1 P w H s.heap
 bare:AllBare s.gens
def CE(outer:List Env)(P:Program)(w:World)(H:Hp)(s:Shared)(Q:VK)(u:Value)(s':Shared):Prop :=
 ∃ v H',s'.os=s.os/\AllBare s'.gens/\Un (PV outer) [] H H' s.heap s'.heap/\N1 P w H' s'.heap/\RelV v u/\Q v H'
def CR(CX:CXT)(outer:List Env)(P:Program)(w:World)(H:Hp)(s:Shared)(Q:VK)(E:XK)(r:Result)(s':Shared):Prop :=
 match r with
 |.ok (.ret u)=>CE outer P w H s Q u s'
 |.ok _=>False
 |.error e=>CX outer H s E e s'
structure aJ(P:Program)(w:World)(K:yac)(mg:yam)(base:Heap)(CX:CXT)(k:Nat)(f:Addr)(fd:FuncData)(ps:yah)(sp:Sp):Prop where
 len:∀vs H Q E,sp vs H Q E->vs.length=ps.length
 run:∀(A:Around) (outer:List Env) (s:Shared) (H:Hp) (args:Args) (us:yad) (vs:yar) (Q:VK) (E:XK),bN k A->zV P w K mg base A outer s H->BindsTo s fd args (ps.zip us)->Vals vs us->sp vs H Q E →
  codeAny (model P w) A (.call (.ref f) args) (CR CX outer P w H s Q E) s
section
variable{X:Cx}{pins:yab}{σ:St}{H:Hp}{s s':Shared}
def Inv.Ye(I:Inv X pins σ H s):zV X.prog X.w X.K X.mg X.base X.A X.stack s H :=
 ⟨I.ok.frames,I.ok.mod,I.bs,NM I.ok.U5 I.sz,I.stack,I.QA,I.Mh,I.bare⟩
def Inv.after(I:Inv X pins σ H s)(h:CE X.stack X.prog X.w H s Q u s'):EP X pins σ Q u s':=by obtain⟨v,H',os,bare,un,Mh,r,q⟩:=h;obtain⟨hh,g,d,t,os'⟩:=s';obtain rfl:os'=s.os:=os;exact⟨v,H',I.call (h':=hh) (g':=g) (d':=d) (t':=t) (ch:=[]) un Mh bare (λb z=>absurd z (by simp)),r,q⟩
end
def Binds(K:yac)(fd:FuncData)(ps:yah)(ds:yad):Prop :=
 ∀ (s:Shared) (us:yad),K.In s.heap->(us++ds).length=ps.length->BindsTo s fd ⟨us,[]⟩ (ps.zip (us++ds))
def Binds.all{K:yac}{fd:FuncData}{ps:yah}(h:∀us:yad,us.length=ps.length->bindArgs fd ⟨us,[]⟩=pure (ps.zip us)):Binds K fd ps []:=λs us _ hl=>by rw[QM]at hl ⊢;exact .of_eq (h us hl)
def Passes(CX:CXT)(X:Cx)(E:XK):Prop:=∀(pins:yab) (σ:St) (H:Hp) (s:Shared) (e:Value) (s':Shared),Inv X pins σ H s->CX X.stack H s E e s'->X.xe e s'
section
variable{X:Cx}{CX:CXT}{k:Nat}{f C:Addr}{fd:FuncData}{ps:yah}{sp:Sp}{dvs:yar}{ds:yad}{E:XK}{x m:Str}{p pos apos:Pos}{e o:Expr}{es:yai}{ta:TE}{t:TA}
def C3(F:aJ X.prog X.w X.K X.mg X.base CX k f fd ps sp)(hr:bN k X.A)(hb:Binds X.K fd ps ds)(hd:Vals dvs ds)(hx:Passes CX X E)
  (I:Inv X pins σ H s) (r:Vals vs us) (h:sp (vs++dvs) H Q E):wpAny (model X.prog X.w) X.A (call (.ref f) us) (EP X pins σ Q) X.xe s:=by
 have r2:Vals (vs++dvs) (us++ds):=r.append hd;have hl:(us++ds).length=ps.length:=by rw[<- r2.length];exact F.len _ _ _ _ h
 refine wpAny_call (codeAny_mono (F.run X.A X.stack s H ⟨us,[]⟩ (us++ds) (vs++dvs) Q E hr I.Ye (hb s us I.Qa hl) r2 h) λr s' hq=>?_);cases r with
 |error e=>exact hx pins σ H s e s' I hq
 |ok fl =>
  cases fl with
  |ret u=>exact I.after hq
  |next=>exact False.elim hq
  |brk=>exact False.elim hq
  |cont=>exact False.elim hq
structure Mk(K:yac)(C f:Addr):Prop where
 makes:PySem.W.makesIn K C=true
 init:PySem.W.findIn K (.ref C) "__init__" = some (some (.ref f))
 fn:PySem.W.isFn K (.ref f)=true
 kp:PySem.W.keepIn K (.ref C)=true
end
section
variable{X:Cx}{CX:CXT}{k:Nat}{f C:Addr}{fd:FuncData}{ps ks:yah}{sp:Sp}{E:XK}{x m:Str}{p pos apos kpos:Pos}{e o:Expr}{es:yai}{Mx:List Keyword}{te ta:TE}{t tk:TA}{nm:Option Str}
structure Bo(K:yac)(fd:FuncData)(ps ks:yah)(g:yad->yad->yad)(gV:yar->yar->yar):Prop where
 to:∀(s:Shared) (us ws:yad),K.In s.heap->(g us ws).length=ps.length->BindsTo s fd ⟨us,ks.zip ws⟩ (ps.zip (g us ws))
 rel:∀{vs:yar} {us:yad} {zs:yar} {ws:yad},Vals vs us->Vals zs ws->Vals (gV vs zs) (g us ws)
variable{g:yad->yad->yad}{gV:yar->yar->yar}
end
structure az(N P:yah)(sc:Scope):Prop where
 kind:sc.kind=.function
 co:sc.isCoroutine=false
 gen:sc.isGenerator=false
 nd:N.Nodup
 pre:N.take P.length=P
 par:∀x∈P,sc.names.lookup x=some .local∨sc.names.lookup x=some .cell
 VZ:∀y∈sc.names,y.2 ≠ .free
theorem t8{kindOf:Str->Option NameKind}{x:Str}:∀{binds:List (Str×Value)} {m:yam},(∀v,(x,v)∉binds)->bindL kindOf binds m x=m x
 |[],_,_=>rfl
 |(n,v)::r,m,h=>by
  unfold bindL;rw[t8 λw hw=>h w (MO _ hw)];split
  ·have:x≠n:=by rintro rfl;exact h v O0
   simp[this]
  ·rfl
theorem t5{kindOf:Str->Option NameKind}{x:Str}:∀{binds:List (Str×Value)} {m:yam},(∀v,(x,v)∉binds)->bindC kindOf binds m x=m x
 |[],_,_=>rfl
 |(n,v)::r,m,h=>by
  unfold bindC;rw[t5 λw hw=>h w (MO _ hw)];split
  ·rfl
  ·have:x≠n:=by rintro rfl;exact h v O0
   simp[this]
theorem t6{kindOf:Str->Option NameKind}{x:Str}{v:Value}:∀{P:yah} {vs:yad} {i:Nat} {m:yam},P.Nodup->P[i]?=some x->vs[i]?=some v->kindOf x=some .local →
  bindL kindOf (P.zip vs) m x=some v
 |[],_,_,_,_,h,_,_=>by simp at h
 |_::_,[],_,_,_,_,h,_=>by simp at h
 |p::P,w::vs,0,m,nd,h1,h2,hk=>by simp at h1 h2;subst h1;subst h2;show bindL kindOf ((p,w)::P.zip vs) m p=_;unfold bindL;rw[t8 λv hv=>(SY.mp nd).1 (List.of_mem_zip hv).1,Lx hk];simp
 |p::P,w::vs,i+1,m,nd,h1,h2,hk=>by show bindL kindOf ((p,w)::P.zip vs) m x=_;unfold bindL;exact t6 (i:=i) (SY.mp nd).2 (by simpa using h1) (by simpa using h2) hk
theorem t4{kindOf:Str->Option NameKind}{x:Str}{v:Value}:∀{P:yah} {vs:yad} {i:Nat} {m:yam},P.Nodup->P[i]?=some x->vs[i]?=some v->kindOf x≠some .local →
  bindC kindOf (P.zip vs) m x=some v
 |[],_,_,_,_,h,_,_=>by simp at h
 |_::_,[],_,_,_,_,h,_=>by simp at h
 |p::P,w::vs,0,m,nd,h1,h2,hk=>by simp at h1 h2;subst h1;subst h2;show bindC kindOf ((p,w)::P.zip vs) m p=_;unfold bindC;rw[t5 λv hv=>(SY.mp nd).1 (List.of_mem_zip hv).1,Lw hk];simp
 |p::P,w::vs,i+1,m,nd,h1,h2,hk=>by show bindC kindOf ((p,w)::P.zip vs) m x=_;unfold bindC;exact t4 (i:=i) (SY.mp nd).2 (by simpa using h1) (by simpa using h2) hk
noncomputable def start(N:yah)(vs:yar):St:=vs.map some++List.replicate (N.length - vs.length) none
noncomputable def dF(CX:CXT)(P:Program)(w:World)(K:yac)(mg:yam)(base:Heap)(N:yah)(qual:Str)(scope:Scope)(f:Addr)(cd:Value)(A:Around)(outer:List Env)(s:Shared)(H:Hp)(E:XK):Cx where
 prog:=P
 w:=w
 K:=K
 mg:=mg
 base:=base
 A:=A.deeper (envOfC qual scope s.heap.objs.size f cd)
 N:=N
 LU:=s
 MK:=H
 env:=envOfC qual scope s.heap.objs.size f cd
 outer:=outer
 stack:=envOfC qual scope s.heap.objs.size f cd::outer
 ex:=[]
 calm:=true
 fn:=λ_=>true
 pn:=[]
 xe:=λe s'=>wpAny (model P w) (A.deeper (envOfC qual scope s.heap.objs.size f cd)) (leaving (envOfC qual scope s.heap.objs.size f cd) e) (λ_ Yf=>CX outer H s E e Yf) (λe' Yf=>CX outer H s E e' Yf) s'
def wc{sc:Scope}(h:sc.names.lookup x=some .cell):∃c,(cellsFrom n sc.names []).lookup x=some c:=by have q:=PySem.W.cellsFrom_some sc.names n [] (.inl h);exact Option.isSome_iff_exists.mp q
def Ci{CX:CXT}{P:Program}{w:World}{K:yac}{mg:yam}{base:Heap}{N ps:yah}{qual:Str}{scope:Scope}{f:Addr}{cd:Value}{A:Around}{outer:List Env}{s s1:Shared}{H:Hp}{E:XK}{us:yad}{vs:yar}
  (S:az N ps scope) (hd:A.handled=none) (e0:zV P w K mg base A outer s H) (hl:vs.length=ps.length) (r:Vals vs us)
  (x:InCallC s s.heap.objs.size (bindL (envOfC qual scope s.heap.objs.size f cd).kindOf (ps.zip us) λ_=>none) (cellsFrom (s.heap.objs.size+1) scope.names []) (bindC (envOfC qual scope s.heap.objs.size f cd).kindOf (ps.zip us) λ_=>none) s1) :
  Inv (dF CX P w K mg base N qual scope f cd A outer s H E) [] (start N vs) H s1:=by
 have M9:ps.length<=N.length:=by have:=congrArg List.length S.pre;rw[P8]at this;lia
 obtain⟨h1,tk,rfl,hk⟩:=x.done;have Yg:∀b:Addr,b∉(dF CX P w K mg base N qual scope f cd A outer s H E).ex:=λb z=>absurd (show b∈([]:yae)from z) (by simp)
 refine⟨⟨e0.mod,S.kind,rfl,rfl,Mw _,λy z c h1 h2=>?_,λy hy=>?_,λy c _ h=>?_,λ_=>hd,Around.frames_deeper e0.frames,.inr ⟨rfl,rfl⟩,λb z=>absurd z (Yg b),e0.bs,e0.U5,λb _ _=>Yg b,λb z=>absurd z (Yg b),e0.OR,e0.U6⟩,
  rfl,e0.bare,Un.kept hk,⟨_,x.toInCall.ns,λi y v h1 h2 h3=>?_⟩,λy c h=>⟨_,x.cell y c h⟩,e0.Mh.fresh (Mw _),λy c h=>?_,λp hp=>absurd (show p∈([]:yab)from hp) (by simp),e0.Mh.kept hk,?_⟩
 ·exact name_of_addr x.apart (PySem.mem_of_lookup h1) (PySem.mem_of_lookup h2)
 ·have hy:scope.names.lookup y=some .cell∨scope.names.lookup y=some .free:=hy;rcases hy with hy|hy
  ·exact wc hy
  ·exact absurd rfl (S.VZ _ (PySem.mem_of_lookup hy))
 ·exact S4 (x.above y c (PySem.mem_of_lookup h))
 ·have hi:i<vs.length:=by
   unfold start at h2;by_cases hi:i<vs.length
   ·exact hi
   ·rw[P5 (by simpa using hi)]at h2;rw[XI]at h2;split at h2<;>cases h2
  have ha:vs[i]?=some v:=by
   unfold start at h2;rw[QT (by simpa using hi),OD]at h2;cases e:vs[i]? with
   |none=>rw[e]at h2;cases h2
   |some a=>rw[e]at h2;cases h2;rfl
  obtain⟨u,hu,rv⟩:=r.get ha;have hp:ps[i]?=some y:=by rw[<- S.pre,List.getElem?_take_of_lt (by lia)];exact h1
  have ndP:ps.Nodup:=by rw[<- S.pre];exact S.nd.sublist (VM _ _)
  refine⟨u,rv,?_⟩;rcases S.par y (OL hp)with k|k
  ·exact .inl ⟨k,t6 ndP hp hu k⟩
  ·obtain⟨c,e⟩:=wc (n:=s.heap.objs.size+1) k;refine .inr ⟨.inl k,c,e,?_⟩;have q:=x.cell y c e;rw[t4 ndP hp hu (by show scope.names.lookup y≠_;rw[k];decide)]at q;exact q
 ·exact e0.Mh.fresh (S4 (x.above y c (PySem.mem_of_lookup h)))
 ·unfold start;show _=N.length;rw[Nz,LJ,List.length_replicate]
  lia
def Kh{CX:CXT}{P:Program}{w:World}{K:yac}{mg:yam}{base:Heap}{k:Nat}{f:Addr}{name qual:Str}{params:Arguments}{body:yal}{scope:Scope}{dV kV doc pm NJ ct oc:Value}{an od:Option Addr}
  {Ul:Array (yan)} {N ps:yah} {sp:Sp} (lk:K.lookup f=some ⟨oc,od,.func (PySem.W.fnOf name qual params body scope dV kV doc pm an NJ ct),Ul⟩) (O4:PySem.W.codeIn K NJ qual=true) (S:az N ps scope)
  (len:∀vs H Q E,sp vs H Q E->vs.length=ps.length)
  (Pw:∀(A:Around) (outer:List Env) (s:Shared) (H:Hp) (vs:yar) (Q:VK) (E:XK),bN k (A.deeper (envOfC qual scope s.heap.objs.size f NJ))->sp vs H Q E →
   ∃ t,PSs (dF CX P w K mg base N qual scope f NJ A outer s H E) body t/\t {nx:=λ_ H'=>Q .Mj H',rt:=Q} (start N vs) H) :
  aJ P w K mg base CX (k+1) f (PySem.W.fnOf name qual params body scope dV kV doc pm an NJ ct) ps sp:=by
 refine⟨len,λA outer s H args us vs Q E hr e0 hb r Ta=>?_⟩;have hl:=len _ _ _ _ Ta;have KX:K.In s.heap:=e0.mod.O9.keeps λb o e=>(e0.bs b o e).1
 have lim:s.heap.NoLimit:=e0.mod.nolimit.keeps λb o e=>(e0.bs b o e).1
 have Yh:∀y∈ps.zip us,scope.names.lookup y.1=some .local∨(scope.names.lookup y.1=some .cell/\((cellsFrom (s.heap.objs.size+1) scope.names []).lookup y.1).isSome=true):=λ⟨n,v⟩ hy=>by
  rcases S.par n (List.of_mem_zip hy).1 with q|q
  ·exact .inl q
  ·exact .inr ⟨q,PySem.W.cellsFrom_some _ _ _ (.inl q)⟩
 refine codeAny_call_function hr.depth (KX _ _ lk) rfl S.co S.gen rfl (PySem.W.codeRec_of KX O4) (hb _ _ _ _ ?_);refine wpAny_newFunctionEnv_cells S.kind Yh λenv he s1 x=>?_
 subst he;refine⟨lim.keeps x.toInCall.keep,codeAny_func ?_⟩;obtain⟨t,ht,hq⟩:=Pw A outer s H vs Q E (hr.deeper _) Ta;have I:Inv (dF CX P w K mg base N qual scope f NJ A outer s H E) [] (start N vs) H s1:=Ci S hr.hd e0 hl r x;refine PU (ht [] s1 (start N vs) H _ I hq) (λfl s' hs=>?_) λe s' hs=>hs
 have fin:∀{Mn:St} {H':Hp} {v:V} {u:Value},Inv (dF CX P w K mg base N qual scope f NJ A outer s H E) [] Mn H' s'->RelV v u->Q v H'->CE outer P w H s Q u s' :=
  fun {Mn H' v u} J rv q=>⟨v,H',J.os,J.bare,J.base,J.Mh,rv,q⟩
 cases fl with
 |ret u =>
  obtain⟨v,Mn,H',J,rv,q⟩:=hs;exact fin J rv q
 |next =>
  obtain⟨Mn,H',J,q⟩:=hs;exact fin (v:=V.Mj) (u:=Value.none) J rfl q
 |brk =>
  obtain⟨_,_,_,q⟩:=hs;exact False.elim q
 |cont =>
  obtain⟨_,_,_,q⟩:=hs;exact False.elim q
section
variable{X:Cx}{x:Str}{p pos:Pos}{e:Expr}{es:yai}{t:TA}{id T:String}{r:yar->Hp->VK->Prop}
def tCB(r:yar->Hp->VK->Prop)(t:TA):TE:=λσ H Q=>t σ H λvs H1=>r vs H1 Q
def CQ (hc:j1 X (.type T) r) (hg:Gl X x) (hm:X.mg x=none) (hv:bootBuiltins x=some (.type T)) (ha:PA X (e::es) t) (hn:x ≠ "__name__" := by decide) (Px:(x==("__debug__" : Str))=false:=by decide)
  (he:starEach (e::es) X.env=(false,eval e X.env)::starEach es X.env:=by rfl) (M9:(backTo pos (starEach es X.env)).any (·.1)=false:=by rfl):PE X (.Call (.Name x p) (e::es) [] pos) (tCB r t):=by
 intro pins s σ H Q I h;refine TP (fx I hg hm hv ?_ hn Px);exact PyProof.Rows.callWith_type1 (LK (ha pos pins s σ H _ I h) λus s1 MP=>(by obtain⟨vs,H1,I1,r1,q1⟩:=MP;exact hc pins s1 σ H1 vs us Q I1 r1 q1)) he M9
end
end L2
namespace HT
open PySem PyProof.Rows
noncomputable def lexLt:yaf->yaf->Bool
 |[],[]=>false
 |[],_::_=>true
 |_::_,[]=>false
 |x::xs,y::ys=>if x=y then lexLt xs ys else decide (x<y)
section
open PySem.SeqAt
open PySem.AutoSeq1 (wpAny_loadPart')
open PySem.MeetsSeq PySem.MeetsSeq2 PySem.MeetsSeq3
end
section
variable{prog:Program}{w:World}{A:Around}{E:yaa}{s:Shared}
noncomputable def Oj(n d:Nat):yaq->Nat
 |none=>d
 |some v=>if v<0 then(v+(n:Int)).toNat else min v.toNat n
theorem EU(n d:Nat):Oj n d none=d:=rfl
def lx(n d k:Nat):Oj n d (some (k:Int))=min k n:=by show(if(k:Int)<0 then((k:Int)+(n:Int)).toNat else min (k:Int).toNat n)=min k n;rw[Lw (by lia),Int.toNat_natCast]
end
end HT
namespace L2
open PySem PySem.Spec PyProof.Rows
abbrev TO:=St->Hp->(yaq->Hp->Prop)->Prop
def intsAre_of{ns:yaf}:∀{us:yad},Vals (ns.map V.int) us->IntsAre us ns:=by
 induction ns with
 |nil=>intro us r;rw[R7]at r;cases r;exact .nil
 |cons n ns ih =>
  intro us r;rw[MR]at r;cases r with
  |cons r1 r2 =>
   obtain⟨t,e⟩:=r1;subst e;exact .cons n t (ih r2)
section
variable{X:Cx}{e:Expr}{te:TE}{lo hi:Option Expr}{tl th:TO}{pos p2:Pos}
def sE(xs:yar)(lo hi:yaq):yar:=(xs.drop (HT.Oj xs.length 0 lo)).take (HT.Oj xs.length xs.length hi - HT.Oj xs.length 0 lo)
def yh(xs:yar)(lo hi:yaq):(sE xs lo hi).length<=xs.length:=by
 unfold sE;rw[P8,Qy]
 lia
end
noncomputable def ixN(n:Nat)(i:Int):Option Nat:=if 0<=i then(if i<n then some i.toNat else none)else if -(n:Int)<=i then some (i+n).toNat else none
def NY{α:Type}(xs:List α)(i:Int):Option α:=(ixN xs.length i).bind λj=>xs[j]?
def zq{j:Nat}(h:ixN n i=some j):seqIndex? i n=some j/\j<n/\-(n:Int)<=i/\i<n:=by
 unfold ixN at h;by_cases h0:0<=i
 ·rw[Lx h0]at h;by_cases h1:i<n
  ·rw[Lx h1]at h;have e:i.toNat=j:=ON h;exact⟨by rw[seqIndex_of h0 h1,e],by lia,by lia,h1⟩
  ·rw[Lw h1]at h;cases h
 ·rw[Lw h0]at h;by_cases h1:-(n:Int)<=i
  ·rw[Lx h1]at h;have e:(i+n).toNat=j:=ON h;exact⟨by rw[seqIndex_neg (by lia) h1,e],by lia,h1,by lia⟩
  ·rw[Lw h1]at h;cases h
def yT{α:Type}{xs:List α}{i:Int}{v:α}(h:NY xs i=some v):∃j,seqIndex? i xs.length=some j/\xs[j]?=some v/\j<xs.length/\-(xs.length:Int)<=i/\i<xs.length:=by
 unfold NY at h;cases e:ixN xs.length i with
 |none=>rw[e]at h;cases h
 |some j =>
  rw[e]at h;obtain⟨h1,h2,h3,h4⟩:=zq e;exact⟨j,h1,h,h2,h3,h4⟩
def dU{α:Type}{xs:List α}{j:Nat}{v:α}(h:xs[j]?=some v):NY xs (j:Int)=some v:=by
 have hj:j<xs.length:=(OC.mp h).1;have e:ixN xs.length (j:Int)=some j:=by unfold ixN;rw[Lx (by lia),Lx (by lia)];simp
 unfold NY;rw[e];exact h
def DD{α:Type}(xs:List α)(v:α):NY (xs++[v]) (-1)=some v:=by
 have hl:(xs++[v]).length=xs.length+1:=by simp
 have e:ixN (xs++[v]).length (-1)=some xs.length:=by
  unfold ixN;rw[hl,Lw (by decide),Lx (by lia)];congr 1
  lia
 unfold NY;rw[e];show(xs++[v])[xs.length]?=some v;simp
def FW(b:Expr):Prop:=∀o i,subscripted b false o i=operate [o,i] (getItem o i)
def IxR(X:Cx)(r:R2):Prop :=
 ∀ (value slice:Expr) (pins:yab) (s:Shared) (σ:St) (H:Hp) (x y:V) (v u:Value) (Q:VK),Inv X pins σ H s->RelV x v->RelV y u->r x y H Q →
  subscripted slice false v u=operate [v,u] (getItem v u)->wpAny (model X.prog X.w) X.A (subscriptTail value slice v u) (EP X pins σ Q) X.xe s
def MtR(X:Cx)(id:String)(r:V->yar->Hp->VK->Prop):Prop :=
 ∀ (pins:yab) (s:Shared) (σ:St) (H:Hp) (x:V) (xs:yar) (v:Value) (us:yad) (Q:VK),Inv X pins σ H s->RelV x v->Vals xs us->r x xs H Q →
  wpAny (model X.prog X.w) X.A (call (.builtin id) (v::us)) (EP X pins σ Q) X.xe s
section
variable{X:Cx}{a b:Expr}{ta tb:TE}{pos:Pos}
def Lh(K:yac):R2:=λx y H Q=>∃p xs i v,x=.ref p/\y=.int i/\SqL K H p xs/\NY xs i=some v/\Q v H
def Lj(K:yac):R2:=λx y H Q=>∃p xs i v,x=.ref p/\y=.int i/\M6 K H p xs/\NY xs i=some v/\Q v H
def GI:IxR X (Lh X.K):=by
 intro value slice pins s σ H x y v u Q I rx ry h hs;obtain⟨p,xs,i,z,rfl,rfl,hq,he,q⟩:=h;cases rx;obtain⟨t,rfl⟩:=ry;obtain⟨LC,r,pl,hz⟩:=I.list hq;obtain⟨j,h1,h2,h3,h4,h5⟩:=yT he;obtain⟨w,ew,RP⟩:=r.get h2;have hl:=r.length;have hn:=rh;have fin:EP X pins σ Q w s:=⟨z,H,I,RP,q⟩;by_cases h0:0<=i
 ·have hj:i.toNat=j:=by
   rw[seqIndex_of h0 h5]at h1;exact ON h1
  exact item_listR pl.isList h0 (by lia) (by rw[hj];simpa using ew) fin hs
 ·have hj:(i+(LC.toArray.size:Int)).toNat=j:=by
   rw[seqIndex_neg (by lia) h4]at h1;rw[Ot,<- hl];exact ON h1
  exact subscriptTail_builtinR (x:=w) pl.isList.typeIs slot_list_getitem.lookup
   (wpAny_getItem_list_neg (Q:=λr s'=>r=w/\EP X pins σ Q r s') pl.isList (by lia) (by rw[Ot]<;>lia) (by lia) (by rw[hj];simpa using ew) ⟨rfl,fin⟩) hs
def Jj:IxR X (Lj X.K):=by
 intro value slice pins s σ H x y v u Q I rx ry h hs;obtain⟨p,xs,i,z,rfl,rfl,hq,he,q⟩:=h;cases rx;obtain⟨t,rfl⟩:=ry;obtain⟨LC,r,pl,hz⟩:=I.tuple hq;obtain⟨j,h1,h2,h3,h4,h5⟩:=yT he;obtain⟨w,ew,RP⟩:=r.get h2;have hl:=r.length;have hn:=rh;have fin:EP X pins σ Q w s:=⟨z,H,I,RP,q⟩;exact subscriptTail_builtinR (x:=w) pl.typeIs slot_tuple_getitem.lookup
  (getItem_tuple (j:=j) (Q:=λr s'=>r=w/\EP X pins σ Q r s') pl (by lia) (by lia) (by rw[Ot,<- hl];exact h1) (by simpa using ew) ⟨rfl,fin⟩) hs
def Az (LC:yad) (n j:Nat) (u:Value):Obj.mapSeq (·.setIfInBounds j u) {cls:=.type "list", data:=.seq LC.toArray n}={cls:=.type "list", data:=.seq (LC.set j u).toArray n}:=by simp[Obj.mapSeq]
theorem Inv.lst(I:Inv X pins σ H s)(h:H p=some (.lst xs)) :
  ∃ (LC:yad) (n:Nat),Vals xs LC/\s.heap.get? p=some {cls:=.type "list", data:=.seq LC.toArray n}/\xs.length<=sizeLine:=by
 obtain⟨z,LC,n,r,e⟩:=I.Mh p _ h;exact⟨LC,n,r,e,z⟩
def Inv.V0{LC its':yad}{f:Obj->Obj}(I:Inv X pins σ H s)(h:H p=some (.lst xs))
  (ho:s.heap.get? p=some {cls:=.type "list", data:=.seq LC.toArray n}) (hf:f {cls:=.type "list", data:=.seq LC.toArray n}={cls:=.type "list", data:=.seq its'.toArray n'}) (r:Vals ys its') (hz:ys.length<=sizeLine) (t:Nat) :
  Inv X pins σ (upd H p (.lst ys)) {s with heap:=s.heap.update p f,toks:=t}:=by
 have e:(s.heap.update p f).get? p=some {cls:=.type "list", data:=.seq its'.toArray n'}:=by rw[VE f ho (by rw[hf]<;>rfl),hf]
 refine I.write (x:=p) (e:=p) (by rw[h];trivial) (.inl rfl) (λb u hb q=>(VD _ _ (Ne.symm hb)).trans q) ⟨_,e⟩ ?_;exact⟨hz,its',n',r,e⟩
def Kx:V->V->V->Hp->(Hp->Prop)->Prop:=λo i v H Q=>∃p xs k j,o=.ref p/\i=.int k/\H p=some (.lst xs)/\ixN xs.length k=some j/\Q (upd H p (.lst (xs.set j v)))
def set_list:KU X Kx:=by
 intro pins s σ H o i v ov iv u Q I ro ri rv h;obtain⟨p,xs,k,j,rfl,rfl,hp,hj,q⟩:=h;cases ro;obtain⟨t,rfl⟩:=ri;obtain⟨LC,n,r,ho,hz⟩:=I.lst hp;obtain⟨h1,h2,h3,h4⟩:=zq hj;have hl:=r.length;have hn:=rh;have I':Inv X pins σ (upd H p (.lst (xs.set j v))) {s with heap:=s.heap.update p (Obj.mapSeq (·.setIfInBounds j u))} :=
  I.V0 hp ho (Az LC n j u) (r.set rv j) (by rw[W4];exact hz) s.toks
 by_cases h0:0<=k
 ·have hk:k.toNat=j:=by
   rw[seqIndex_of h0 h4]at h1;exact ON h1
  exact PySem.W.ki_setAt ho h0 (by lia) (by rw[Ot,<- hl];exact h4) (by rw[hk];exact⟨_,I',q⟩)
 ·have hk:(k+(LC.toArray.size:Int)).toNat=j:=by
   rw[seqIndex_neg (by lia) h3]at h1;rw[Ot,<- hl];exact ON h1
  exact PySem.W.ki_setBack ho (by lia) (by rw[Ot,<- hl];exact h3) (by lia) (by rw[hk];exact⟨_,I',q⟩)
def xN(lo hi:yaq)(n:Nat):(sliceBounds lo hi none n).1=((HT.Oj n 0 lo:Nat):Int)/\(sliceBounds lo hi none n).2.1=((HT.Oj n n hi:Nat):Int)/\(sliceBounds lo hi none n).2.2=1:=by
 refine⟨?_,?_,rfl⟩
 ·cases lo with
  |none=>simp[sliceBounds,HT.Oj]
  |some i =>
   simp only[sliceBounds,HT.Oj,Option.getD_none,show(1:Int) > 0 by decide,if_true];by_cases h:i<0
   ·simp only[h,if_true]<;>lia
   ·simp only[h,if_false]<;>lia
 ·cases hi with
  |none=>simp[sliceBounds,HT.Oj]
  |some i =>
   simp only[sliceBounds,HT.Oj,Option.getD_none,show(1:Int) > 0 by decide,if_true];by_cases h:i<0
   ·simp only[h,if_true]<;>lia
   ·simp only[h,if_false]<;>lia
def uV(LC:yad)(lo hi:yaq):slicePick LC.toArray lo hi none=((LC.drop (HT.Oj LC.length 0 lo)).take (HT.Oj LC.length LC.length hi - HT.Oj LC.length 0 lo)).toArray:=by obtain⟨h1,h2,h3⟩:=xN lo hi LC.toArray.size;unfold slicePick;rw[h1,h2,h3];simp only[sliceRange_one,pick_run,Ot]<;>rfl
def vV:j1 X (.builtin "len") (λxs H Q=>∃p ys,xs=[.ref p]/\(SqL X.K H p ys∨M6 X.K H p ys)/\Q (.int ys.length) H):=by
 intro pins s σ H xs us Q I r h;obtain⟨p,ys,rfl,hq,q⟩:=h;obtain⟨u,rfl,rx⟩:=vals1 r;cases rx;have hn:=rh;rcases hq with hq|hq
 ·obtain⟨LC,r',pl,hz⟩:=I.list hq;have hlen:=r'.length;exact Calls.call_len_list pl.isList (by simp only[Ot]<;>lia) ⟨.int ys.length,H,I.tok _,⟨s.toks+1,by rw[Ot,hlen]⟩,q⟩
 ·obtain⟨LC,r',pl,hz⟩:=I.tuple hq;have hlen:=r'.length;exact len_tuple pl (by simp only[Ot]<;>lia) ⟨.int ys.length,H,I.tok _,⟨s.toks+1,by rw[Ot,hlen]⟩,q⟩
def vW:j1 X (.type "list") (λxs H Q=>∃p ys,xs=[.ref p]/\(SqL X.K H p ys∨M6 X.K H p ys)/\∀l,H l=none->Q (.ref l) (upd H l (.lst ys))):=by
 intro pins s σ H xs us Q I r h;obtain⟨p,ys,rfl,hq,q⟩:=h;obtain⟨u,rfl,rx⟩:=vals1 r;cases rx;have fin:∀(LC:yad),Vals ys LC->ys.length<=sizeLine->∀(h':Heap) (c':Nat),(∀b o',s.heap.get? b=some o'->h'.get? b=some o') →
   h'.get? s.heap.objs.size=some {cls:=.type "list", dict:=none,data:=.seq LC.toArray c',slots:=#[]}->EP X pins σ Q (.ref s.heap.objs.size) {s with heap:=h'}:=λLC r' hz h' c' kp e =>
  ⟨.ref s.heap.objs.size,_,I.laid (t':=s.toks) kp (Mw _) (show bG X.prog X.w _ h' _ (.lst ys)from⟨hz,LC,c',r',e⟩),rfl,q _ (I.Mh.fresh (Mw _))⟩
 rcases hq with hq|hq
 ·obtain⟨LC,r',pl,hz⟩:=I.list hq;have hlen:=r'.length;obtain⟨o,ho,hc,n,hd⟩:=pl.isList;exact call_list_seq p (.inl rfl) ho hc hd (λh' c' kp e=>fin LC r' hz h' c' kp e) (by simp only[Ot]<;>lia)
 ·obtain⟨LC,r',pl,hz⟩:=I.tuple hq;have hlen:=r'.length;obtain⟨o,ho,hc,n,hd⟩:=pl;exact call_list_seq p (.inr rfl) ho hc hd (λh' c' kp e=>fin LC r' hz h' c' kp e) (by simp only[Ot]<;>lia)
def TV(K:yac)(T:String)(x:V)(H:Hp):Prop:=match x with
 |.str _=>T = "str"
 |.int _=>T = "int"
 |.ref p=>(T = "list" /\∃xs,SqL K H p xs)∨(T = "tuple" /\∃o,K.lookup p=some o/\o.cls=.type "tuple" /\ o.dict=none) ∨
   (T = "dict" /\ ((∃kvs,H p=some (.dK kvs))∨∃ kvs,H p=some (.dT kvs)))∨(T = "set" /\∃S n,H p=some (.set S n))
 |_=>False
def Dl(I:Inv X pins σ H s)(r:RelV x v)(ty:TV X.K T x H) :
  s.TypeIs v T/\∀a,v=.ref a->∃ob,s.heap.get? a=some ob/\ob.dict=none:=by
 cases x with
 |str z =>
  obtain⟨t,rfl⟩:=r;cases(show T = "str" from ty);exact⟨typeIs_str s z t,λ_ e=>nomatch e⟩
 |int i =>
  obtain⟨t,rfl⟩:=r;cases(show T = "int" from ty);exact⟨typeIs_int s i t,λ_ e=>nomatch e⟩
 |ref p =>
  cases r;rcases ty with⟨rfl,xs,hq⟩| ⟨rfl,o,hk,hc,hd⟩| ⟨rfl,hk⟩| ⟨rfl,S,n,hk⟩
  ·obtain⟨LC,_,pl,_⟩:=I.list hq;refine⟨pl.isList.typeIs,λa e=>?_⟩;cases e;obtain⟨o,n,e,c,hd,_⟩:=pl;exact⟨o,e,hd⟩
  ·refine⟨⟨o,I.Qa p o hk,hc⟩,λa e=>?_⟩;cases e;exact⟨o,I.Qa _ o hk,hd⟩
  ·have z:∃o,s.heap.get? p=some o/\o.ExactDict:=by
    rcases hk with⟨kvs,hk⟩| ⟨kvs,hk⟩
    ·obtain⟨_,_,_,_,o,_,_,e,ex,_⟩:=I.Mh p _ hk;exact⟨o,e,ex⟩
    ·obtain⟨_,_,_,_,o,_,_,e,ex,_⟩:=I.Mh p _ hk;exact⟨o,e,ex⟩
   obtain⟨o,e,ex⟩:=z;refine⟨⟨o,e,ex.1⟩,λa e2=>?_⟩;cases e2;exact⟨o,e,ex.2.1⟩
  ·obtain⟨o,_,_,_,e,ex,_⟩:=I.Mh p _ hk;refine⟨⟨o,e,ex.1⟩,λa e2=>?_⟩;cases e2;exact⟨o,e,ex.2.1⟩
 |_=>exact False.elim ty
def Lo(K:yac)(T:String)(r:V->yar->Hp->VK->Prop)(to:TE):TE:=λσ H Q=>to σ H λx H1=>TV K T x H1/\r x [] H1 Q
def tBM(K:yac)(T:String)(r:V->yar->Hp->VK->Prop)(to:TE)(t:TA):TE:=λσ H Q=>to σ H λx H1=>TV K T x H1/\t σ H1 λxs H2=>r x xs H2 Q
variable{o e:Expr}{es:yai}{to:TE}{t:TA}{name:Str}{apos Me:Pos}{T id:String}{r:V->yar->Hp->VK->Prop}
def JH (pa:PlainAttrs T) (slot:Slot T name id) (Yi:typeOf (.builtin id)=pure (.type "method_descriptor")) (hm:MtR X id r) (ho:PE X o to)
  (N7:attributeBase o name X.env (eval o X.env)=eval o X.env:=by rfl) (N8:(apos.endLine==Me.line)=true:=by rfl):PE X (.Call (.Attribute o name apos) [] [] Me) (Lo X.K T r to):=by
 intro pins s σ H Q I h;refine wpAny_Call_method0_late N7 N8 (LK (ho pins s σ H _ I h) λv s1 LO=>?_);obtain⟨x,H1,I1,r1,ty,q1⟩:=LO;obtain⟨h1,h2⟩:=Dl I1 r1 ty;exact⟨T,id,pa,slot,Yi,h1,h2,Calls.callWith_builtin rfl (PySem.evalArgs_none (hm pins s1 σ H1 x [] v [] Q I1 r1 .nil q1))⟩
def FC (pa:PlainAttrs T) (slot:Slot T name id) (Yi:typeOf (.builtin id)=pure (.type "method_descriptor")) (hm:MtR X id r) (ho:PE X o to) (ha:PA X (e::es) t)
  (N7:attributeBase o name X.env (eval o X.env)=eval o X.env:=by rfl)
  (Tb:((backTo Me (starEach (e::es) X.env)).all (λx=>!x.1) && (backToKw Me (keywordEach [] X.env)).all (λx=>x.1.isSome)
   && decide ((e::es).length+([]:List Keyword).length+(if([]:List Keyword).isEmpty then 0 else 1)<30))=true:=by rfl)
  (N8:(apos.endLine==Me.line)=true:=by rfl) (hs:starEach (e::es) X.env=(false,eval e X.env)::starEach es X.env:=by rfl) (Py:(backTo Me (starEach es X.env)).any (·.1)=false:=by rfl) :
  PE X (.Call (.Attribute o name apos) (e::es) [] Me) (tBM X.K T r to t):=by
 intro pins s σ H Q I h;refine wpAny_Call_method_late N7 Tb N8 rfl (LK (ho pins s σ H _ I h) λv s1 LO=>?_);obtain⟨x,H1,I1,r1,ty,q1⟩:=LO;obtain⟨h1,h2⟩:=Dl I1 r1 ty;refine⟨T,id,pa,slot,Yi,h1,h2,?_⟩;have hA:=ha Me pins s1 σ H1 _ I1 q1;rw[hs]at hA ⊢;refine Calls.callWith_builtin (by show(false || (backTo Me (starEach es X.env)).any (·.1))=false;rw[Py]<;>rfl) (Calls.evalArgs_plain ?_);exact LK hA λus s2 MP=>(by obtain⟨vs,H2,I2,r2,q2⟩:=MP;exact hm pins s2 σ H2 x vs v us Q I2 r1 r2 q2)
end
def MtM(X:Cx)(id:String)(r:V->yar->Hp->VK->Prop):Prop :=
 ∀ (pins:yab) (s:Shared) (σ:St) (H:Hp) (x:V) (xs:yar) (v:Value) (us:yad) (Q:VK),Inv X pins σ H s->RelV x v->Vals xs us->r x xs H Q →
  wpAny (model X.prog X.w) X.A (call (.builtin id) (v::us)) (EP X pins σ Q) X.xe s
def Vals.one:∀{x:V} {us:yad},Vals [x] us->∃u,us=[u]/\RelV x u
 |_,_,.cons r .nil=>⟨_,rfl,r⟩
def Vals.zero:∀{us:yad},Vals [] us->us=[]
 |_,.nil=>rfl
theorem Vals.dropLast(h:Vals xs us):Vals xs.dropLast us.dropLast:=by
 induction h with
 |nil=>exact .nil
 |cons r t ih =>
  cases t with
  |nil=>exact .nil
  |cons q t'=>exact .cons r ih
def Aq{α:Type}(l:List α):l.eraseIdx (l.length - 1)=l.dropLast:=by
 induction l with
 |nil=>rfl
 |cons a r ih =>
  cases r with
  |nil=>rfl
  |cons b r =>
   have e:(a::b::r).length - 1=((b::r).length - 1)+1:=by
    have h1:(a::b::r).length=r.length+2:=rfl;have h2:(b::r).length=r.length+1:=rfl
    lia
   rw[e,List.eraseIdx_cons_succ,ih]
   all_goals rfl
section
variable{X:Cx}{pins:yab}{σ:St}{H:Hp}{s:Shared}{l b:Addr}{xs ys zs:yar}
def Inv.V1{LC its':yad}{f:yao->yao}{t':Nat}(I:Inv X pins σ H s)(hH:H l=some (.lst xs))
  (e:s.heap.get? l=some {cls:=.type "list", data:=.seq LC.toArray n}) (hf:f LC.toArray=its'.toArray) (hv:Vals ys its') (hz:ys.length<=sizeLine) :
  Inv X pins σ (upd H l (.lst ys)) {s with heap:=s.heap.update l (Obj.mapSeq f),toks:=t'}:=by
 have q:=PySem.IsL.update e f;rw[hf]at q;refine I.write (x:=l) (e:=l) (by rw[hH];exact trivial) (.inl rfl) (λb' u hb hu=>(VD s.heap (Obj.mapSeq f) (Ne.symm hb)).trans hu) ⟨_,q⟩ ?_;exact⟨hz,its',_,hv,q⟩
def Inv.Um (I:Inv X pins σ H s) (hH:H l=some (.lst xs)):xs.length<=sizeLine/\∃(LC:yad) (n:Nat),Vals xs LC/\xs.length=LC.length/\s.heap.get? l=some {cls:=.type "list", data:=.seq LC.toArray n}:=by obtain⟨z,LC,n,r,e⟩:=I.Mh l _ hH;exact⟨z,LC,n,r,r.length,e⟩
def Es{n:Nat}(h:n<=sizeLine):Builtin.List.listTooLong n=false:=by unfold Builtin.List.listTooLong;exact R5 (by lia)
end
section
variable{X:Cx}
def Hi:V->yar->Hp->VK->Prop:=λx vs H Q=>∃l xs y,x=.ref l/\vs=[y]/\H l=some (.lst xs)/\xs.length<sizeLine/\Q .Mj (upd H l (.lst (xs++[y])))
def uw:MtM X "list.append" Hi:=by
 intro pins s σ H x vs v us Q I rx rv h;obtain⟨l,xs,y,rfl,rfl,hH,hz,q⟩:=h;cases rx;obtain⟨u,rfl,ru⟩:=rv.one;obtain⟨z,LC,n,r,hl,e⟩:=I.Um hH;refine call_meets F.slot_list_append ⟨_,e,rfl⟩ F.entry_list_append (F.args_list_append_2 _ _) (PySem.list_append l LC.toArray n u (by rw[Ot];lia)) ⟨e,?_⟩;refine⟨.Mj,_,I.V1 (its':=LC++[u]) hH e (by simp) (r.append (.cons ru .nil)) ?_,rfl,q⟩;rw[Nz,ZS]
 lia
def Hj:V->yar->Hp->VK->Prop:=λx vs H Q=>∃l b xs zs,x=.ref l/\vs=[.ref b]/\H l=some (.lst xs)/\H b=some (.lst zs)/\xs.length+zs.length<=sizeLine/\Q .Mj (upd H l (.lst (xs++zs)))
def CA:MtM X "list.extend" Hj:=by
 intro pins s σ H x vs v us Q I rx rv h;obtain⟨l,b,xs,zs,rfl,rfl,hH,hB,hz,q⟩:=h;cases rx;obtain⟨u,rfl,ru⟩:=rv.one;cases ru;obtain⟨z,LC,n,r,hl,e⟩:=I.Um hH;obtain⟨z2,Uo,n2,r2,hl2,e2⟩:=I.Um hB;have hsz:LC.toArray.size+Uo.toArray.size<=sizeLine:=by rw[Ot,Ot];lia
 have Yj:¬(!LC.toArray.isEmpty && Builtin.List.listTooLong (LC.toArray.size+Uo.toArray.size))=true:=by rw[Es hsz,Bool.and_false];exact Qv
 refine call_meets F.slot_list_extend ⟨_,e,rfl⟩ F.entry_list_extend (F.args_list_extend_2 _ _)
  (AutoSeq1.list_extend_list_list_0 l LC.toArray n b Uo.toArray n2 Yj (by rw[Ot];lia) (by lia)) ⟨e,e2,?_⟩
 refine⟨.Mj,_,I.V1 (its':=LC++Uo) hH e (by simp) (r.append r2) ?_,rfl,q⟩;rw[Nz]
 lia
def Lk:V->yar->Hp->VK->Prop:=λx vs H Q=>∃l xs y,x=.ref l/\vs=[]/\H l=some (.lst xs)/\xs[xs.length - 1]?=some y/\Q y (upd H l (.lst xs.dropLast))
def Jt:MtM X "list.pop" Lk:=by
 intro pins s σ H x vs v us Q I rx rv h;obtain⟨l,xs,y,rfl,rfl,hH,hy,q⟩:=h;cases rx;have hus:=rv.zero;subst hus;obtain⟨z,LC,n,r,hl,e⟩:=I.Um hH;obtain⟨u,hu,ru⟩:=r.get hy;have Sa:LC.toArray[LC.toArray.size - 1]?=some u:=by show LC.toArray[LC.length - 1]?=some u;rw[<- NH,<- hl];exact hu
 refine call_meets F.slot_list_pop ⟨_,e,rfl⟩ F.entry_list_pop (F.args_list_pop_1 _) (MeetsSeq.list_pop_last l LC.toArray n u Sa (by rw[Ot];lia)) ⟨e,?_⟩;refine⟨y,_,I.V1 (its':=LC.dropLast) hH e ?_ r.dropLast ?_,ru,q⟩
 ·show LC.toArray.eraseIdxIfInBounds (LC.toArray.size - 1)=LC.dropLast.toArray;rw[Ot,List.eraseIdxIfInBounds_toArray,Aq]
 ·rw[Ue]
  lia
end
section
variable{prog:Program}{w:World}{A:Around}{E:yaa}{s:Shared}
set_option maxRecDepth 100000 in
end
end L2
namespace Att
open PySem PySem.W PySem.Calls PyProof.Rows
def q0:∀(ns:yaf) (vs:yad),WellAll P h vs (ns.map WData.int)->IntsAre vs ns:=by
 intro ns
 induction ns with
 |nil =>
  intro vs w;rw[R7]at w;cases w;exact .nil
 |cons n ns ih =>
  intro vs w;rw[MR]at w;cases w with
  |cons a b =>
   cases a;exact .cons _ _ (ih _ b)
def C6{l:OpenLaw}{n:Nat}(hn:l.most=some n)
  (Up:l.row.toRowW.claim.pre args=true) (hwl:WellAll P h vals args) :
  ∃ a vs ns,vals=[Value.ref a]/\args=[WData.list (ns.map WData.int)]/\h.get? a=some {cls:=.type "list", data:=.seq vs.toArray}/\IntsAre vs ns/\ns.length<=n:=by
 have hsh:WShape.hasAll [] args [.list .int]=true:=(pre_splitW Up).1;have hc:l.pre.holds [] {args:=args}=true:=(pre_splitW Up).2;obtain⟨d,r,rfl,h1,h2⟩:=hasAllW_cons hsh;obtain rfl:=hasAllW_nil h2;obtain⟨xs,rfl,h3⟩:=hasW_list h1;obtain⟨ns,rfl⟩:=items_int h3;have hlen:ns.length<=n:=by
  unfold OpenLaw.pre at hc;have h4:(WTm.not (.lt (.lit (.int (n:Int))) (.len (.arg 0)))).holds [] {args:=[.list (ns.map .int)]}=true:=by have h4:=(holds_andW hc).1;rw[hn]at h4;exact h4
  have h5:=condW_of h4 (w_not (w_lt w_lit (w_len_list (w_arg rfl))));rw[LJ]at h5;refine Nat.le_of_not_lt λq=>?_
  have q':(n:Int)<((ns.length:Nat):Int):=by lia
  first
   |(rw[NL q']at h5;exact absurd h5 (by decide))
   |(simp at h5;lia)
 cases hwl with
 |cons w1 w2 =>
  cases w2;cases w1 with
  |list ho NA=>exact⟨_,_,ns,rfl,rfl,ho,q0 ns _ NA,hlen⟩
def CV(l:OpenLaw)(args:List WData):l.row.toRowW.claim.post args (.bool true) args=true :=
 postW_of (r:=l.row.toRowW) (X:=(true==true))
  (show WShape.has [] (.bool true) .bool=true by first|rfl|decide|simp[WShape.has,WShape.arms,WShape.armsAll])
  (show(WTm.eq .res (.lit (.bool true))).value [] {args:=args,res:=some (.bool true),after:=args}=some (.bool (true==true))from w_eq_bool (w_res rfl) w_lit) rfl
def xZ{l:OpenLaw}{n:Nat}{YP:World->Heap->Prop}{d:DefRec}
  (hn:l.most=some n) (Yk:d.params.defaults=[])
  (call:∀(w:World) (LU LM:Shared) (mg mb:yam) (fa:Addr) (o:Obj) (pm cd doc:Value) (a:Addr) (vs:yad) (ns:yaf),
   Ground q loose [] XP w LU mg mb LM.heap->YP w LM.heap →
   LM.heap.get? fa=some o->o.data=.func (docDef d.name d.params d.body d.scope pm cd doc)->LM.heap.CodeRec cd d.name->mg d.name=some (.ref fa) →
   LM.heap.get? a=some {cls:=.type "list", data:=.seq vs.toArray}->IntsAre vs ns->ns.length<=n->LM.gens=#[] →
   codeAny (model l.prog w) callerA (.call (.ref fa) ⟨[.ref a],[]⟩) (λr s'=>r=.ok (.ret (.bool true))/\OldK LM.heap s'.heap/\s'.os=LM.os/\AllBare s'.gens) LM) :
  WalkO q loose XP YP l.row.toRowW d [] (λf vs=>PySem.call f vs):=by
 intro w LU LM mg mb G Y fa o pm cd doc dV kV ho hd O4 hD Yl hg args vals as Up hlay hrd hwl Q3;obtain rfl:dV=.none:=Dflts.none hD Yk;obtain rfl:kV=.none:=Dflts.noKw hD;obtain⟨a,vs,ns,rfl,rfl,V2,hints,hlen⟩:=C6 hn Up hwl;refine enter_call (codeAny_mono (call w LU LM mg mb fa o pm cd doc a vs ns G Y ho (fd_plain hd) O4 Yl V2 hints hlen hg) λr s' hq=>?_);obtain⟨rfl,h2,h3,h4⟩:=hq;exact⟨.inl ⟨.bool true,.bool true,[],rfl,λ_=>rfl,.bool true,CV l _,λ_=>⟨List.Pairwise.nil,λ_ hm=>(nomatch hm)⟩⟩,h2,h3,h4⟩
section
variable{prog:Program}{w:World}{A:Around}{E:yaa}{s:Shared}{K:Frag}
def ledger(h:Heap)(L d:Addr):yab:=(List.range h.objs.size).filterMap λa=>if a=L∨a=d then none else(h.get? a).map λo=>(a,o)
end
end Att
namespace L2
open PySem PySem.Spec PyProof.Rows
theorem kh:∀{vs:yad} {ns:yaf},IntsAre vs ns->Vals (ns.map V.int) vs
 |_,_,.nil=>.nil
 |_,_,.cons n t h=>.cons ⟨t,rfl⟩ (kh h)
def Dz(H:Hp):Prop:=∀b,H b=none∨∃ o xs,H b=some (.frz o (.lst xs))
def Ei{K:yac}{x:Str}{LM:Shared}{vs:yad}
  (KX:K.In LM.heap) (Va:LM.heap.Ns mainGlobals mg) (hb:LM.heap.Ns builtinsNs mb) (hbb:∀x:Str,x ≠ "__name__" -> mb x=bootBuiltins x) (hlim:LM.heap.NoLimit) (hg:LM.gens=#[])
  (ha:LM.heap.get? a=some {cls:=.type "list", data:=.seq vs.toArray}) (hi:IntsAre vs ns) (hl:ns.length<=sizeLine) (hr:bN k callerA)
  (F:∀base:Heap,K.In base->base.Ns mainGlobals mg->aJ P w K mg base CX k fa fd [x] sp) (Ym:∀(s:Shared) (u:Value),BindsTo s fd ⟨[u],[]⟩ [(x,u)])
  (Ta:∀H:Hp,Dz H->SqL K H a (ns.map V.int)->sp [.ref a] H (λv _=>v=.bl true) λ_ _ _=>False)
  (hCX:∀H e s',CX [] H LM (λ_ _ _=>False) e s'->False) :
  codeAny (model P w) callerA (.call (.ref fa) ⟨[.ref a],[]⟩) (λr s'=>r=.ok (.ret (.bool true))/\OldK LM.heap s'.heap/\s'.os=LM.os/\AllBare s'.gens) LM:=by
 have rv:=kh hi;have lenV:=hi.length;have core:∀H:Hp,Dz H->SqL K H a (ns.map V.int)->N1 P w H LM.heap->(∀b,H b≠none->b=a)->(H a≠none->K.lookup a=none) →
   codeAny (model P w) callerA (.call (.ref fa) ⟨[.ref a],[]⟩) (λr s'=>r=.ok (.ret (.bool true))/\OldK LM.heap s'.heap/\s'.os=LM.os/\AllBare s'.gens) LM:=by
  intro H hO hS Mh hA hK;have RQ:∀{b:Addr} {o:Obj},LM.heap.get? b=some o->H b=none->(lT LM.heap H).get? b=some o:=λe n=>D8 e n
  have Yg:∀{b:Addr} {o:Obj} {es:Array DictEntry} {ep:Nat},LM.heap.get? b=some o->o.data=.dict es ep->H b=none:=fun {b o es ep} e d=>by
   cases q:H b with
   |none=>rfl
   |some u =>
    have e':b=a:=hA b (by rw[q];simp);subst e';rw[ha]at e;cases e;have d':Data.seq vs.toArray _=Data.dict es ep:=d;cases d'
  have Z4:∀{b:Addr} {m:yam},LM.heap.Ns b m->(lT LM.heap H).Ns b m:=fun {b m} MP=>(by obtain⟨o,es,ep,e,d,r⟩:=MP;exact⟨o,es,ep,RQ e (Yg e d),d,r⟩)
  have hKb:K.In (lT LM.heap H):=λb o e=>RQ (KX b o e) (by
   cases q:H b with
   |none=>rfl
   |some u =>
    have e':b=a:=hA b (by rw[q];simp);subst e';rw[hK (by rw[q];simp)]at e;cases e)
  have hM:Mod K mg (lT LM.heap H):=⟨hKb,Z4 Va,⟨mb,Z4 hb,hbb⟩,let ⟨mc,h1,h2⟩:=hlim;⟨mc,Z4 h1,h2⟩⟩;have e0:zV P w K mg (lT LM.heap H) callerA [] LM H:=⟨rfl,hM,λb o e=>GV e,Uj (Cc _ _),trivial,λb hb=>absurd (show b∈([]:yae)from hb) (by simp),Mh,.of_eq hg⟩;refine codeAny_mono ((F _ hKb (Z4 Va)).run callerA [] LM H ⟨[.ref a],[]⟩ [.ref a] [.ref a] _ _ hr e0 (Ym LM (.ref a)) (.cons rfl .nil) (Ta H hO hS)) λr s' h=>?_
  cases r with
  |error e=>exact(hCX H e s' h).elim
  |ok fl =>
   cases fl with
   |next=>exact False.elim h
   |brk=>exact False.elim h
   |cont=>exact False.elim h
   |ret u =>
    obtain⟨v,H',os,bare,un,hok',r',q⟩:=h;have q':v=.bl true:=q;subst q';obtain rfl:u=Value.bool true:=r';refine⟨rfl,OldK.of_keep λb o e=>?_,os,bare⟩;cases q:H b with
    |none=>exact un.keep b o e q (by intro z;exact absurd (show b∈([]:yae)from z) (by simp)) (by simp)
    |some u =>
     rcases hO b with z|⟨ob,xs,z⟩
     ·rw[q]at z;cases z
     ·have z2:=un.O8 b ob _ z;obtain⟨e1,_⟩:=Mh b _ z;obtain⟨e2,_⟩:=hok' b _ z2;rw[e]at e1;cases e1;exact e2
 cases hk:K.lookup a with
 |some o =>
  have e:=KX a o hk;rw[ha]at e;cases e;refine core (λ_=>none) (λ_=>.inl rfl) (.inr ⟨_,vs.toArray,_,hk,rfl,rfl,rfl,by rw[Ot,lenV];exact hl,by simpa using rv⟩) (λb u z=>by have z':(none:Option HO)=some u:=z;cases z') (λb z=>absurd rfl z) λz=>absurd rfl z
 |none =>
  refine core (λb=>if b=a then some (.frz {cls:=.type "list", data:=.seq vs.toArray} (.lst (ns.map V.int)))else none) (λb=>?_) (.inl (.inr ⟨{cls:=.type "list", data:=.seq vs.toArray},Lx rfl⟩)) (λb u z=>?_) (λb z=>?_) λ_=>hk
  ·by_cases hb:b=a
   ·exact .inr ⟨_,_,Lx hb⟩
   ·exact .inl (Lw hb)
  ·by_cases hb:b=a
   ·have z':=(Lx hb).symm.trans z;cases z';subst hb;exact⟨ha,by rw[LJ];exact hl,vs,_,rv,ha⟩
   ·have z':=(Lw hb).symm.trans z;cases z'
  ·by_cases hb:b=a
   ·exact hb
   ·exact absurd (Lw hb) z
def HH{l:PySem.W.OpenLaw}{n:Nat}{YP:World->Heap->Prop}{d:DefRec}{K:Params->yac}{CX:World->CXT}{sp:World->Sp}{x:Str}
  (hn:l.most=some n) (hn2:n<=sizeLine) (Yk:d.params.defaults=[]) (hr:bN k callerA)
  (hY:∀(w:World) (h:Heap),YP w h->(K w.params).In h)
  (F:∀(w:World) (mg:yam) (fa:Addr) (h:Heap),(K w.params).In h->h.Ns mainGlobals mg->mg d.name=some (.ref fa) →
   ∃ fd:FuncData,(∀(s:Shared) (u:Value),BindsTo s fd ⟨[u],[]⟩ [(x,u)]) ∧
    ∀ base:Heap,(K w.params).In base->base.Ns mainGlobals mg->aJ l.prog w (K w.params) mg base (CX w) k fa fd [x] (sp w))
  (Ta:∀(w:World) (H:Hp) (a:Addr) (ns:yaf),ns.length<=n->Dz H->SqL (K w.params) H a (ns.map V.int)->sp w [.ref a] H (λv _=>v=.bl true) λ_ _ _=>False)
  (hCX:∀(w:World) (H:Hp) (s:Shared) (e:Value) (s':Shared),CX w [] H s (λ_ _ _=>False) e s'->False) :
  PySem.W.WalkO q loose XP YP l.row.toRowW d [] (λf vs=>PySem.call f vs):=by
 refine Att.xZ hn Yk λw LU LM mg mb fa o pm cd doc a vs ns G Y ho hd O4 Yl V2 hints hlen hg=>?_
 have KX:=hY w _ Y;obtain⟨fd,hb,hF⟩:=F w mg fa _ KX G.T.g Yl;exact Ei KX G.T.g G.T.b G.T.builtins G.T.nolimit hg V2 hints (NM hlen hn2) hr hF hb (λH hO hS=>Ta w H a ns hlen hO hS) λH e s'=>hCX w H LM e s'
def cT(s:Stmt):Arguments:=match s with
 |.FunctionDef _ a _ _ _ _ _ _ _ _=>a
 |_=>{posonlyargs:=[],args:=[],vararg:=none,kwonlyargs:=[],kw_defaults:=[],kwarg:=none,defaults:=[]}
def bZ(s:Stmt):yal:=match s with
 |.FunctionDef _ _ b _ _ _ _ _ _ _=>b
 |_=>[]
def ao(s:Stmt):Scope:=match s with
 |.FunctionDef _ _ _ _ _ _ sc _ _ _=>sc
 |_=>{kind:=.function,names:=[],isGenerator:=false,isCoroutine:=false}
abbrev E0:XK:=λ_ _ _=>False
structure Fun(K:yac)(x qual:Str)(st:Stmt)(f:Addr)(fd:FuncData):Prop where
 ex:∃(oc:Value) (od:Option Addr) (kV doc pm:Value) (an:Option Addr) (NJ ct:Value) (Ul:Array (yan)),
  fd=PySem.W.fnOf x qual (cT st) (bZ st) (ao st) .none kV doc pm an NJ ct/\K.lookup f=some ⟨oc,od,.func fd,Ul⟩/\PySem.W.codeIn K NJ qual=true
 kp:PySem.W.keepIn K (.ref f)=true
def vh(hr:bN k A):A.units+1<cLine:=VH (Nat.add_le_add_left (by decide:1<=64) _) hr.units
section
variable{X:Cx}
def pv (i:Nat) {x:Str} (hN:X.N[i]?=some x:=by rfl) (hv:S6 X.env.scope x:=by first|exact Or.inl rfl|exact Or.inr (Or.inl rfl)|exact Or.inr (Or.inr rfl)) (hd:(x==("__debug__" : Str))=false:=by decide)
  (O4:(x==("__classdict__" : Str))=false:=by decide):PE X (.Name x pos) (JZ i):=iJ hN hv hd O4
end
def au(H H':Hp):Prop:=∀b o,H b=some o->H' b=some o
def au.refl(H:Hp):au H H:=λ_ _ h=>h
def au.trans(a:au H H1)(b:au H1 H2):au H H2:=λc o h=>b c o (a c o h)
def au.free(e:au H H')(h:H' l=Option.none):H l=Option.none:=by
 cases q:H l with
 |none=>rfl
 |some o =>
  rw[e l o q]at h;cases h
def au.seq{K:yac}{H H':Hp}{a:Addr}{xs:yar}(e:au H H')(h:SqL K H a xs):SqL K H' a xs:=by
 rcases h with(h|⟨o,h⟩)|h
 ·exact .inl (.inl (e _ _ h))
 ·exact .inl (.inr ⟨o,e _ _ h⟩)
 ·exact .inr h
end L2
set_option maxHeartbeats 4000000
namespace L2
open PySem PySem.Spec PyProof.Rows
section
variable{κ:Type} [DecidableEq κ]
def dq(kvs:List (κ×V))(k:κ):Option V:=(kvs.find? λkv=>decide (kv.1=k)).map (·.2)
noncomputable def putK(kvs:List (κ×V))(k:κ)(v:V):List (κ×V) :=
 if(kvs.any λkv=>decide (kv.1=k))=true then kvs.map (λkv=>if kv.1=k then(kv.1,v)else kv)else kvs++[(k,v)]
theorem E8:dq ([]:List (κ×V)) k=none:=rfl
def mH{p:κ×V}{r:List (κ×V)}{k:κ}(e:p.1=k):dq (p::r) k=some p.2:=by simp[dq,U1,e]
def mG{p:κ×V}{r:List (κ×V)}{k:κ}(e:¬p.1=k):dq (p::r) k=dq r k:=by simp[dq,U1,e]
theorem jZ(k:κ):∀kvs:List (κ×V),(kvs.any λkv=>decide (kv.1=k))=(dq kvs k).isSome
 |[]=>rfl
 |p::r=>by
  rw[List.any_cons];by_cases e:p.1=k
  ·simp only[mH e,NL e,Bool.true_or,Option.isSome_some]
  ·rw[mG e,R5 e,Bool.false_or];exact jZ k r
def o8(kvs:List (κ×V))(k:κ)(v:V):(putK kvs k v).length<=kvs.length+1:=by
 unfold putK;split
 ·rw[LJ];lia
 ·rw[Nz,Qx,List.length_nil];lia
def EK{kvs:List (κ×V)}{k:κ}(v:V)(h:dq kvs k=none):putK kvs k v=kvs++[(k,v)]:=by unfold putK;rw[jZ,h];exact Lw (by decide)
def kr.Sb(r:kr o u):o.isSome=u.isSome:=by
 cases o with
 |none=>cases u with
  |none=>rfl
  |some _=>exact(show False from r).elim
 |some _=>cases u with
  |none=>exact(show False from r).elim
  |some _=>rfl
def KV.val(r:KV kvs vs)(k:κ):kr (dq kvs k) (valueAt vs k):=by
 unfold KV at r
 induction r with
 |nil=>exact True.intro
 |@cons p q ps qs h t ih =>
  obtain⟨h1,h2⟩:=h;by_cases e:p.1=k
  ·have e':q.1=k:=h1.symm.trans e;have b:valueAt (q::qs) k=some q.2:=by simp[valueAt,U1,e']
   rw[mH e,b];exact h2
  ·have e':¬q.1=k:=λz=>e (h1.trans z)
   have b:valueAt (q::qs) k=valueAt qs k:=by simp[valueAt,U1,e']
   rw[mG e,b];exact ih
theorem KV.any(r:KV kvs vs)(k:κ):(kvs.any λkv=>decide (kv.1=k))=vs.any λkv=>decide (kv.1=k):=by
 unfold KV at r
 induction r with
 |nil=>rfl
 |cons h t ih=>rw[List.any_cons,List.any_cons,ih,h.1]
def KV.V3(r:KV kvs vs)(k:κ)(ry:RelV y u) :
  KV (kvs.map λkv=>if kv.1=k then(kv.1,y)else kv) (vs.map λkv=>if kv.1=k then(kv.1,u)else kv):=by
 unfold KV at r ⊢
 induction r with
 |nil=>exact .nil
 |@cons p q ps qs h t ih =>
  rw[MR,MR];refine .cons ?_ ih;obtain⟨h1,h2⟩:=h;by_cases e:p.1=k
  ·rw[Lx e,Lx (h1.symm.trans e)];exact⟨h1,ry⟩
  ·rw[Lw e,Lw (λz=>e (h1.trans z))];exact⟨h1,h2⟩
def KV.put(r:KV kvs vs)(k:κ)(ry:RelV y u):KV (putK kvs k y) (stored vs k u):=by
 unfold putK stored;rw[r.any k];by_cases e:(vs.any λkv=>decide (kv.1=k))=true
 ·rw[Lx e,Lx e];exact r.V3 k ry
 ·rw[Lw e,Lw e];exact Paired.snoc r ⟨rfl,ry⟩
theorem KV.length(r:KV kvs vs):kvs.length=vs.length:=Paired.length r
end
def vi(r:RelV (kV k) u):(bV P w).is k u=true:=by
 cases k with
 |inl i=>obtain⟨t,e⟩:=(show∃t,u=Value.int i t from r);subst e;exact yt P w i t
 |inr x=>obtain⟨t,e⟩:=(show∃t,u=Value.str x t from r);subst e;exact yu P w x t
theorem uq:∀{ks:List Key} {us:yad},Vals (ks.map kV) us->ItemsAre (bV P w) ks us
 |[],_,r=>by rw[R7]at r;cases r;exact .nil
 |k::ks,_,r=>by
  rw[MR]at r;cases r with
  |cons h t=>exact .cons (vi h) (uq t)
abbrev KT(H:Hp):List (List Key×V)->List (List Key×Addr×Value)->Prop:=Paired λp q=>p.1=q.1/\H q.2.1=some (.tup (p.1.map kV))/\RelV p.2 q.2.2
def KT.val(r:KT H kvs xs)(k:List Key):kr (dq kvs k) ((atKey xs k).map (·.2)):=by
 induction r with
 |nil=>exact True.intro
 |@cons p q ps qs h t ih =>
  obtain⟨h1,_,h2⟩:=h;by_cases e:p.1=k
  ·have e':q.1=k:=h1.symm.trans e;have b:atKey (q::qs) k=some q.2:=by simp[atKey,U1,e']
   rw[mH e,b];exact h2
  ·have e':¬q.1=k:=λz=>e (h1.trans z)
   have b:atKey (q::qs) k=atKey qs k:=by simp[atKey,U1,e']
   rw[mG e,b];exact ih
def KT.V3(r:KT H kvs xs)(k:List Key)(ry:RelV y u) :
  KT H (kvs.map λkv=>if kv.1=k then(kv.1,y)else kv) (xs.map (putAt k u)):=by
 induction r with
 |nil=>exact .nil
 |@cons p q ps qs h t ih =>
  rw[MR,MR];refine .cons ?_ ih;obtain⟨h1,h2,h3⟩:=h;unfold putAt;by_cases e:p.1=k
  ·rw[Lx e,Lx (h1.symm.trans e)];exact⟨h1,h2,ry⟩
  ·rw[Lw e,Lw (λz=>e (h1.trans z))];exact⟨h1,h2,h3⟩
def KT.put(r:KT H kvs xs)(k:List Key)(hb:H b=some (.tup (k.map kV)))(ry:RelV y u) :
  KT H (putK kvs k y) (storedH xs k b u):=by
 have e:(kvs.any λkv=>decide (kv.1=k))=(atKey xs k).isSome:=by rw[jZ,(r.val k).Sb,Option.isSome_map]
 unfold putK storedH;rw[e];by_cases q:(atKey xs k).isSome=true
 ·rw[Lx q,Lx q];exact r.V3 k ry
 ·rw[Lw q,Lw q];exact Paired.snoc r ⟨rfl,hb,ry⟩
def KT.keeps{H':Hp}(r:KT H kvs xs)(ht:∀b ys,H b=some (.tup ys)->H' b=some (.tup ys)):KT H' kvs xs :=
 Paired.VW r λ_ _ z=>⟨z.1,ht _ _ z.2.1,z.2.2⟩
section
variable{P:Program}{w:World}{H:Hp}{h:Heap}{a:Addr}
def FE(ok:N1 P w H h)(e:Rd H a u):bG P w H h a u:=e.ok ok
def An(ok:N1 P w H h)(e:Rd H a (.dK kvs)):kvs.length<=sizeLine/\(a==sysModules)=false/\∃vs,KV kvs vs/\h.DictOf (bV P w) a vs :=
 show bG P w H h a (.dK kvs)from FE ok e
def Fu(ok:N1 P w H h)(e:H a=some (.dK kvs)):kvs.length<=sizeLine/\(a==sysModules)=false/\∃vs,KV kvs vs/\h.DictOf (bV P w) a vs:=An ok (.inl e)
def wX{ks:List Key}(ok:N1 P w H h)(e:H a=some (.tup (ks.map kV))):(tupleKind (bV P w)).is h ks a:=by obtain⟨_,LC,r,o,h1,h2,n,h3⟩:=(show bG P w H h a (.tup (ks.map kV))from ok a _ e);exact⟨o,LC.toArray,n,h1,h2,h3,by simpa using uq r⟩
def Ao(ok:N1 P w H h)(e:Rd H a (.dT kvs)):kvs.length<=sizeLine/\(a==sysModules)=false ∧
  ∃ xs,KT H kvs xs/\h.DictOfH (tupleKind (bV P w)) a xs:=by
 obtain⟨z,y,xs,r,o,es,ep,h1,h2,h3,h4,h5⟩:=(show bG P w H h a (.dT kvs)from FE ok e);refine⟨z,y,xs,r,o,es,ep,h1,h2,h3,h4,λx hx=>?_,h5⟩;have all:∀{l:List (List Key×V)} {m:List (List Key×Addr×Value)},KT H l m->∀x∈m,(tupleKind (bV P w)).is h x.1 x.2.1:=by
  intro l m q
  induction q with
  |nil=>intro x hx;exact nomatch hx
  |@cons p q ps qs hq t ih =>
   intro x hx;rcases L9.mp hx with e|hx
   ·subst e;exact wX ok (by rw[<- hq.1];exact hq.2.1)
   ·exact ih x hx
 exact all r x hx
def Kd(ok:N1 P w H h)(e:H a=some (.dT kvs)):kvs.length<=sizeLine/\(a==sysModules)=false ∧
  ∃ xs,KT H kvs xs/\h.DictOfH (tupleKind (bV P w)) a xs:=Ao ok (.inl e)
end
def mZ(H:Hp)(a:Addr)(y:V)(r:Option V):Prop :=
 (∃kvs k,Rd H a (.dK kvs)/\y=kV k/\r=dq kvs k)∨∃ kvs k b,Rd H a (.dT kvs)/\y=.ref b/\H b=some (.tup (k.map kV))/\r=dq kvs k
def vE(H:Hp)(a:Addr)(y v:V)(H':Hp):Prop :=
 (∃kvs k,H a=some (.dK kvs)/\y=kV k/\kvs.length<sizeLine/\H'=upd H a (.dK (putK kvs k v))) ∨
 ∃ kvs k b,H a=some (.dT kvs)/\y=.ref b/\H b=some (.tup (k.map kV))/\kvs.length<sizeLine/\H'=upd H a (.dT (putK kvs k v))
theorem mZ.k{H:Hp}{a:Addr}{kvs:List (Key×V)}{k:Key}(e:H a=some (.dK kvs)):mZ H a (kV k) (dq kvs k):=.inl ⟨kvs,k,.inl e,rfl,rfl⟩
theorem vE.k{H:Hp}{a:Addr}{kvs:List (Key×V)}{k:Key}{v:V}(e:H a=some (.dK kvs))(hl:kvs.length<sizeLine):vE H a (kV k) v (upd H a (.dK (putK kvs k v))):=.inl ⟨kvs,k,e,rfl,hl,rfl⟩
section
variable{X:Cx}{pins:yab}{σ:St}{H:Hp}{s:Shared}{a:Addr}{y v:V}{u r:Value}{o:Option V}{A:Around}{E:yaa}
def Inv.big(I:Inv X pins σ H s):sysModules<s.heap.objs.size:=by have h:mainGlobals<s.heap.objs.size:=(I.mod.glob.keeps I.bk).lt;exact Nat.lt_trans (by decide) h
def ub{Q:yaa}(hu:A.units+1<cLine)(I:Inv X pins σ H s)(g:mZ H a y (some v))(ry:RelV y u)(h:∀w' s',Inv X pins σ H s'->RelV v w'->Q w' s') :
  wpAny (model X.prog X.w) A (getItem (.ref a) u) Q E s:=by
 rcases g with⟨kvs,k,e,ey,l⟩| ⟨kvs,k,b,e,ey,eb,l⟩
 ·subst ey;obtain⟨z,hd,vs,rel,dd⟩:=An I.Mh e;obtain⟨w',hw,RP⟩:=kr.some_of (v:=v) (o:=valueAt vs k) (by rw[l];exact rel.val k);exact wpAny_getItem_of (vi ry) dd.mapOf hw (h w' _ (I.tok _) RP)
 ·subst ey;cases(show u=Value.ref b from ry);obtain⟨z,hd,xs,rel,dd⟩:=Ao I.Mh e;obtain⟨w',hw,RP⟩:=kr.some_of (v:=v) (o:=(atKey xs k).map (·.2)) (by rw[l];exact rel.val k);obtain⟨p,hp,Z5⟩:=Ud.mp hw;refine wpAny_getItem_heap (tupleKind_room_in1 hu) (wX I.Mh eb) dd hp ?_;rw[Z5];exact h w' _ (I.tok _) RP
def sF{t':Nat}(I:Inv X pins σ H s)(mu:X7 (H a))(hs:Heap.SameBut a s.heap h')(he:∃q,h'.get? a=some q)(new:bG X.prog X.w (upd H a ob) h' a ob) :
  Inv X pins σ (upd H a ob) {s with heap:=h',toks:=t'} :=
 I.write (x:=a) (e:=a) mu (.inl rfl) (λb q hb z=>(hs.2 b hb).trans z) he new
def BU{h':Heap}{kvs:List (Key×V)}(z:kvs.length<=sizeLine)(hd:(a==sysModules)=false)(rel:KV kvs vs)(dd:h'.DictOf (bV P w) a vs) :
  bG P w H' h' a (.dK kvs):=⟨z,hd,vs,rel,dd⟩
def BP{Q:Unit->Shared->Prop}(hu:A.units+1<cLine)(I:Inv X pins σ H s)(g:vE H a y v H')(ry:RelV y u)(rv:RelV v r)(h:∀s',Inv X pins σ H' s'->Q () s') :
  wpAny (model X.prog X.w) A (setItem (.ref a) u r) Q E s:=by
 rcases g with⟨kvs,k,e,ey,l,eH⟩| ⟨kvs,k,b,e,ey,eb,l,eH⟩
 ·subst ey eH;obtain⟨z,hd,vs,rel,dd⟩:=Fu I.Mh e;have hz:vs.length<=sizeLine:=by rw[<- rel.length];exact z
  have hl:(putK kvs k v).length<=sizeLine:=by have:=o8 kvs k v;lia
  refine wpAny_setItem_pairs (hsz:=hz) (vi ry) dd λh' V4 hs=>h _ ?_
  have he:∃q,h'.get? a=some q:=let ⟨q,_,_,hq,_⟩:=V4;⟨q,hq⟩;exact sF I (by rw[e];exact True.intro) hs he (BU hl hd (rel.put k rv) V4)
 ·subst ey eH;cases(show u=Value.ref b from ry);obtain⟨z,hd,xs,rel,dd⟩:=Kd I.Mh e;have hz:xs.length<=sizeLine:=by rw[<- Paired.length rel];exact z
  have hl:(putK kvs k v).length<=sizeLine:=by have:=o8 kvs k v;lia
  refine wpAny_setItem_heap (hsz:=hz) (tupleKind_room_in1 hu) (wX I.Mh eb) dd λh' V4 hs=>h _ ?_
  obtain⟨q,es,ep,hq,h2,h3,h4,_,h5⟩:=V4;refine sF I (by rw[e];exact True.intro) hs ⟨q,hq⟩ ⟨hl,hd,_,(rel.put k eb rv).keeps λc ys ec=>?_,q,es,ep,hq,h2,h3,h4,h5⟩;rw[aD (lW ec e (λz=>nomatch z))];exact ec
end
def Dx(i:Expr):Prop:=∀ov iv,subscripted i false ov iv=operate [ov,iv] (getItem ov iv)
def Hz{prog:Program}{w:World}{A:Around}{E:yaa}{s:Shared}{env:Env}{value slice:Expr}{pos:Pos}{T id:String}{Q:yaa}
  (hl:typeLookup (.type T) "__getitem__" = pure (some (.builtin id))) (hs:Dx slice)
  (h:wpAny (model prog w) A (eval value env) (λo LM=>wpAny (model prog w) A (eval slice env) (λi LN=>LN.TypeIs o T/\wpAny (model prog w) A (getItem o i) Q E LN) E LM) E s) :
  wpAny (model prog w) A (eval (.Subscript value slice pos) env) Q E s:=by
 refine Subscript_ (PU h (λo LM Pa=>PU Pa (λi LN Rn=>?_) λ_ _ x=>x) λ_ _ x=>x);obtain⟨hT,Rn⟩:=Rn;unfold subscriptTail;refine LA ?_;rw[getitemInPython_of_ne hT.not_modules];refine LA (wpAny_specialOf hT hl ?_);have fin:wpAny (model prog w) A (subscripted slice false o i) (λr OT=>wpAny (model prog w) A (letTemporaryGo value o r >>= λ_=>pure r) Q E OT) E LN:=by rw[hs o i];exact wpAny_operating (PU Rn (λr OT h₃=>LA (wpAny_letTemporaryGo (Ma h₃))) λ_ _ x=>x)
 first
  |exact Ma (LA fin)
  |exact LA (Ma (LA fin))
  |exact LA fin
def yj (I:Inv X pins σ H s) (g:mZ H a y o):s.TypeIs (.ref a) "dict" := by
 rcases g with⟨kvs,k,e,_,_⟩| ⟨kvs,k,b,e,_,_,_⟩
 ·obtain⟨_,_,vs,_,dd⟩:=An I.Mh e;exact dd.typeIs
 ·obtain⟨_,_,xs,_,dd⟩:=Ao I.Mh e;exact dd.typeIs
def KD(td ty:TE):TE:=λσ H Q=>td σ H λx H1=>ty σ H1 λy H2=>∃a v,x=.ref a/\mZ H2 a y (some v)/\Q v H2
def Kz(td ty tv:TE)(rd:V->V->Hp->VK->Prop):TS:=λD σ H=>td σ H λx H1=>ty σ H1 λy H2=>∃a v,x=.ref a/\mZ H2 a y (some v) ∧
 tv σ H2 λy2 H3=>rd v y2 H3 λz H4=>∃H5,vE H4 a y z H5/\D.nx σ H5
section
variable{X:Cx}{o i e value:Expr}{pos pos' tpos:Pos}{td ty tv:TE}
def Hb(hu:X.A.units+1<cLine)(ho:PE X o td)(hi:PE X i ty)(hs:Dx i):PE X (.Subscript o i pos) (KD td ty):=by intro pins s σ H Q I h;refine Hz PySem.F.slot_dict_getitem.lookup hs (LK (ho pins s σ H _ I h) λu s1 ⟨x,H1,I1,rx,q1⟩=>LK (hi pins s1 σ H1 _ I1 q1) λiv s2 LO=>?_);obtain⟨y,H2,I2,ry,a,v,ex,g,q2⟩:=LO;subst ex;obtain rfl:u=Value.ref a:=rx;exact⟨yj I2 g,ub hu I2 g ry λw' s3 I3 RP=>⟨v,H2,I3,RP,q2⟩⟩
def Hg(hu:X.A.units+1<cLine)(ho:PE X o td)(hi:PE X i ty)(hv:PE X value tv)(hop:HS X op rd)
  (ha:∀ov iv new,augStore i ov iv new=(do holding [new,ov,iv] (setItem ov iv new);release [new,ov,iv] [];pure .next)):PS X (.AugAssign (.Subscript o i tpos) op value pos) (Kz td ty tv rd):=by
 intro pins s σ H D I h;refine wpAny_AugAssign_SubscriptAny (LK (ho pins s σ H _ I h) λu s1 ⟨x,H1,I1,rx,q1⟩=>LK (hi pins s1 σ H1 _ I1 q1) λiv s2 LO=>?_) ha;obtain⟨y,H2,I2,ry,a,v,ex,g,q2⟩:=LO;subst ex;obtain rfl:u=Value.ref a:=rx;refine ub hu I2 g ry λw' s3 I3 RP=>LK (hv pins s3 σ H2 _ I3 q2) λw2 s4 ⟨y2,H3,I4,ry2,q3⟩=>LK (hop pins s4 σ H3 v y2 w' w2 _ I4 RP ry2 q3) λw3 s5 LO=>?_
 obtain⟨z,H4,I5,rz,H5,g5,q4⟩:=LO;exact BP hu I5 g5 ry rz λs6 I6=>⟨σ,H5,I6,q4⟩
end
def D0 (h:Heap) (hb:sysModules<h.objs.size):bG P w H (h.push {cls:=.type "dict", data:=.dict #[]}) h.objs.size (.dK []) :=
 ⟨OE _,beq_eq_false_iff_ne.mpr (Ne.symm (O6 hb)),[],.nil,Heap.DictOf.new h⟩
abbrev VV:List (V×V)->List (Value×Value)->Prop:=Paired λp q=>RelV p.1 q.1/\RelV p.2 q.2
def rj(kvs more:List (Key×V)):List (Key×V):=more.foldl (λacc kv=>putK acc kv.1 kv.2) kvs
def KV.merge:∀{more:List (Key×V)} {rs:List (Key×Value)} {kvs:List (Key×V)} {vs:List (Key×Value)},KV more rs->KV kvs vs->KV (rj kvs more) (merged vs rs):=by
 intro more rs kvs vs r;unfold KV at r
 induction r generalizing kvs vs with
 |nil=>intro q;exact q
 |@cons p q ps qs h t ih =>
  intro r0;have e:KV (putK kvs p.1 p.2) (stored vs q.1 q.2):=by have:=r0.put p.1 h.2;rw[<- h.1];exact this
  exact ih e
theorem qH:∀{kvs:List (Key×V)} {ws:List (Value×Value)},VV (kvs.map λkv=>(kV kv.1,kv.2)) ws->∃rs,Carries (bV P w) ws rs/\KV kvs rs
 |[],_,r=>by rw[R7]at r;cases r;exact⟨[],True.intro,.nil⟩
 |p::kvs,_,r=>by
  rw[MR]at r;cases r with
  |@cons a b as bs h t =>
   obtain⟨rs,c,q⟩:=qH (P:=P) (w:=w) t;obtain⟨b1,b2⟩:=b;exact⟨(p.1,b2)::rs,⟨vi h.1,rfl,c⟩,.cons ⟨rfl,h.2⟩ q⟩
structure M1(X:Cx)(o:Expr)(m:Str)(apos:Pos)(e:Expr)(Me:Pos):Prop where
 base:attributeBase o m X.env (eval o X.env)=eval o X.env
 few:((backTo Me (starEach [e] X.env)).all (λx=>!x.1) && (backToKw Me (keywordEach [] X.env)).all (λx=>x.1.isSome)
  && decide (([e]:yai).length+([]:List Keyword).length+(if([]:List Keyword).isEmpty then 0 else 1)<30))=true
 line:(apos.endLine==Me.line)=true
 trees:backTo Me (starEach [e] X.env)=[(false,eval e X.env)]
structure M2(X:Cx)(o:Expr)(m:Str)(apos:Pos)(e f:Expr)(Me:Pos):Prop where
 base:attributeBase o m X.env (eval o X.env)=eval o X.env
 few:((backTo Me (starEach [e,f] X.env)).all (λx=>!x.1) && (backToKw Me (keywordEach [] X.env)).all (λx=>x.1.isSome)
  && decide (([e,f]:yai).length+([]:List Keyword).length+(if([]:List Keyword).isEmpty then 0 else 1)<30))=true
 line:(apos.endLine==Me.line)=true
 trees:backTo Me (starEach [e,f] X.env)=[(false,eval e X.env),(false,eval f X.env)]
end L2
namespace PM
def wQ(a b:Int):Int.gcd b (a.fmod b)=Int.gcd a b:=by
 have h:=Int.fmod_add_mul_fdiv a b;have h':a=a.fmod b+a.fdiv b*b:=by rw[M4];exact h.symm
 rw[Int.gcd_comm a b]
 conv=>rhs;rw[h']
 rw[Int.gcd_add_mul_right_right]
def ui(a:Int){b:Int}(hb:b≠0):(a.fmod b).natAbs<b.natAbs:=by
 by_cases h:0<b
 ·have h1:=Int.fmod_lt_of_pos a h;have h2:=ZP a h;omega
 ·have h1:b<0:=by omega
  have e:a.fmod b=-((-a).fmod (-b)):=by have:=Int.neg_fmod_neg (a:=a) (b:=b);omega
  have h2:=Int.fmod_lt_of_pos (-a) (b:=-b) (by omega);have h3:=ZP (-a) (b:=-b) (by omega);omega
noncomputable def g3(x y z:Int):Nat:=Int.gcd (Int.gcd x y:Int) z
def gn(x y z:Int):(g3 x y z:Int)∣x:=Xa (Int.gcd_dvd_left _ _) (Int.gcd_dvd_left _ _)
def iS(x y z:Int):(g3 x y z:Int)∣y:=Xa (Int.gcd_dvd_left _ _) (Int.gcd_dvd_right _ _)
def iT(x y z:Int):(g3 x y z:Int)∣z:=Int.gcd_dvd_right _ _
def IM{x y z d:Int}(h1:d∣x)(h2:d∣y)(h3:d∣z):d∣(g3 x y z:Int):=WZ (WZ h1 h2) h3
def sO:g3 x y z=0↔x=0/\y=0/\z=0:=by
 unfold g3;rw[Int.gcd_eq_zero_iff];constructor
 ·rintro⟨h,h3⟩;have h':Int.gcd x y=0:=by lia
  obtain⟨h1,h2⟩:=Int.gcd_eq_zero_iff.mp h';exact⟨h1,h2,h3⟩
 ·rintro⟨h1,h2,h3⟩;subst h1 h2 h3;simp
def ML(x y z l:Int):Int:=if l<0 then -(g3 x y z:Int)else(g3 x y z:Int)
def cX{x y z:Int}(h:¬(x=0/\y=0/\z=0)):ML x y z l≠0:=by
 have:g3 x y z≠0:=λe=>h (sO.mp e)
 unfold ML;split<;>omega
def sN(x y z l:Int):(ML x y z l).natAbs=g3 x y z:=by unfold ML;split<;>lia
def cW{x y z t:Int}(h:(g3 x y z:Int)∣t):ML x y z l∣t:=by
 unfold ML;split
 ·exact Int.neg_dvd.mpr h
 ·exact h
def bR{x y z t:Int}(h:(g3 x y z:Int)∣t):t.fdiv (ML x y z l)*ML x y z l=t:=by have h':=cW (l:=l) h;rw[Int.fdiv_eq_ediv_of_dvd h'];exact Int.ediv_mul_cancel h'
def xx{x y z:Int}(h:¬(x=0/\y=0/\z=0)):g3 (x.fdiv (ML x y z l)) (y.fdiv (ML x y z l)) (z.fdiv (ML x y z l))=1:=by
 have e1:=bR (l:=l) (gn x y z);have e2:=bR (l:=l) (iS x y z);have e3:=bR (l:=l) (iT x y z);have hn:=cX (l:=l) h;have Yn:=sN x y z l;generalize x.fdiv (ML x y z l)=a at e1 ⊢;generalize y.fdiv (ML x y z l)=b at e2 ⊢;generalize z.fdiv (ML x y z l)=c at e3 ⊢;generalize ML x y z l=g at *;have hd:(g3 a b c:Int)*g∣(g3 x y z:Int):=by
  refine IM ?_ ?_ ?_
  ·rw[<- e1];exact X1 (gn a b c) (Ui _)
  ·rw[<- e2];exact X1 (iS a b c) (Ui _)
  ·rw[<- e3];exact X1 (iT a b c) (Ui _)
 have hd2:g3 a b c*g.natAbs∣g.natAbs:=by rw[Yn];have:=UT.mpr hd;rw[Int.natAbs_mul]at this;simpa [Yn]using this
 have hp:0<g.natAbs:=by lia
 have:=U4 hp hd2;have h0:g3 a b c≠0:=by
  intro e;rw[e]at hd2;simp at hd2
  lia
 rcases Nat.lt_or_ge (g3 a b c) 2 with h2|h2
 ·lia
 ·have:2*g.natAbs<=g3 a b c*g.natAbs:=Nat.mul_le_mul_right _ h2
  lia
def oH{x y z l:Int}(hl:l≠0)(hd:(g3 x y z:Int)∣l)(h:¬(x=0/\y=0/\z=0)):0<l.fdiv (ML x y z l):=by
 have e:=bR (l:=l) hd;have hg:g3 x y z≠0:=λe=>h (sO.mp e)
 have hs:(l<0/\ML x y z l<0)∨(0<l/\0<ML x y z l):=by
  unfold ML;split
  ·left;omega
  ·right;omega
 generalize l.fdiv (ML x y z l)=a at e ⊢;generalize ML x y z l=g at *;rcases UY a 0 with ha|ha|ha
 ·exfalso;rcases hs with⟨h1,h2⟩| ⟨h1,h2⟩
  ·have:=Ua ha h2;omega
  ·have:=RI ha h2;omega
 ·subst ha;simp at e;omega
 ·exact ha
def o7{t g:Int}(hg:g≠0)(h:g∣t):(t.fdiv g).natAbs<=t.natAbs:=by
 rw[Int.fdiv_eq_ediv_of_dvd h];have e:=Int.ediv_mul_cancel h;have:(t / g).natAbs*g.natAbs=t.natAbs:=by rw[<- Int.natAbs_mul,e]
 have hp:0<g.natAbs:=by lia
 rw[<- this];exact Nat.le_mul_of_pos_right _ hp
def uk(a:Int):Int.gcd a 0=a.natAbs:=by simp
def Gw(a b:Int):Int.gcd ((a.natAbs:Nat):Int) ((b.natAbs:Nat):Int)=Int.gcd a b:=by unfold Int.gcd;simp
end PM
namespace PX
open PySem PySem.W PySem.Spec PySem.Calls PyProof.Rows PySem.Builtin.ObjectAttr PySem.Builtin.Getset_descriptor
def ExcAt(e c:Addr)(h:Heap):Prop:=∃o vs,h.get? e=some o/\o.cls=.ref c/\o.data=.fields vs
def ExcAt.ty(p:ExcAt e c h):Looks M h (typeOf (.ref e)) (.ref c):=by obtain⟨o,vs,h1,h2,_⟩:=p;exact h2 ▸ (Looks.ld h1).andThen .now
noncomputable def D6(K:Frag)(c:Addr):Bool :=
 (clsIn K c).isSome && findIn K (.ref c) "__getattribute__" == some (some (.builtin "BaseException.__getattribute__"))
 && findIn K (.ref c) "__getattr__" == some none && findIn K (.ref c) "__class__" == some (some (.builtin "object.__class__"))
 && specialIn K (.builtin "object.__class__") "__get__" == some (some (.builtin "getset_descriptor.__get__"))
 && takesIn K (.builtin "object.__class__")==some true
 && mroIn K c (.type "object")==some true && mroIn K c (.type "BaseException")==some true
 && kitOne K (.ref c) (.type "int")==some false && kitOne K (.ref c) (.type "bool")==some false && kitOne K (.ref c) (.type "tuple")==some false
 && kitOne K (.ref c) (.type "list")==some false && kitOne K (.ref c) (.type "str")==some false
structure Aa(K:Frag)(c:Addr):Prop where
 pg:plainGet K c "__class__" = true
 hd:hasDictIn K c=true
 at_:findIn K (.ref c) "__class__" = some (some (.builtin "object.__class__"))
 get:specialIn K (.builtin "object.__class__") "__get__" = some (some (.builtin "getset_descriptor.__get__"))
 takes:takesIn K (.builtin "object.__class__")=some true
 obj:mroIn K c (.type "object")=some true
 not:∀T,(T = "int" ∨ T = "bool" ∨ T = "tuple" ∨ T = "list" ∨ T = "str")->kitOne K (.ref c) (.type T)=some false
structure fN(K:Frag)(c:Addr):Prop where
 cls:(clsIn K c).isSome=true
 ga:findIn K (.ref c) "__getattribute__" = some (some (.builtin "BaseException.__getattribute__"))
 hook:findIn K (.ref c) "__getattr__" = some none
 at_:findIn K (.ref c) "__class__" = some (some (.builtin "object.__class__"))
 get:specialIn K (.builtin "object.__class__") "__get__" = some (some (.builtin "getset_descriptor.__get__"))
 takes:takesIn K (.builtin "object.__class__")=some true
 obj:mroIn K c (.type "object")=some true
 exc:mroIn K c (.type "BaseException")=some true
 not:∀T,(T = "int" ∨ T = "bool" ∨ T = "tuple" ∨ T = "list" ∨ T = "str")->kitOne K (.ref c) (.type T)=some false
def fN.of{K:Frag}{c:Addr}(h:D6 K c=true):fN K c:=by
 unfold D6 at h;simp only[SU,beq_iff_eq]at h;obtain⟨⟨⟨⟨⟨⟨⟨⟨⟨⟨⟨⟨h1,h2⟩,h3⟩,h4⟩,h5⟩,h6⟩,h7⟩,h8⟩,h9⟩,h10⟩,h11⟩,h12⟩,h13⟩:=h;exact⟨h1,h2,h3,h4,h5,h6,h7,h8,λT hT=>by rcases hT with e|e|e|e|e<;>subst e<;>assumption⟩
section
variable{prog:Program}{w:World}{A:Around}{E:yaa}{s:Shared}{K:Frag}{e c:Addr}
def KN {R:Result->Shared->Prop} {tp:Value} (X:K.In s.heap) (p:ExcAt e c s.heap) (hm:mroIn K c (.type "object")=some true) (hq:R (.ok (.ret (.ref c))) s) :
  codeAny (model prog w) A (.call (.builtin "getset_descriptor.__get__") ⟨[.builtin "object.__class__", .ref e,tp],[]⟩) R s:=by
 obtain⟨h,g,dr,t,os⟩:=s;have La:=p.ty (M:=model prog w);have Lb:=looks_mroIn (M:=model prog w) X hm;refine codeAny_call_builtin (KF.slot_gs.plain) KF.entry_gs (KF.slot_gs.check _ _ _ _ _ _ _ _ KF.type_class (KF.args_gs _ _ _) ?_);unfold Builtin.«getset_descriptor.__get__» descrGet;rw[dga_obj];refine LA (Ma ?_);unfold descrGetter descrCheckInstance descrNameAndClass isInstance;simp only[KF.owner_class]
 repeat lk
 refine⟨Code.quiet_builtin _ (by decide +kernel),VQ KF.entry_class ?_⟩;unfold Builtin.«object.__class__» shownTypeOf
 repeat lk
 exact hq
def J3 (k:fN K c) (X:K.In h):Looks M h (find (.ref e) (.ref c) "__class__") (.bind (.builtin "getset_descriptor.__get__") (.builtin "object.__class__")):=by have La:=looks_findIn (M:=M) X k.at_;have Lb:Looks M h (getOf (some (.builtin "object.__class__"))) (some (.builtin "getset_descriptor.__get__")):=looks_specialIn X k.get;have Lc:=looks_takesIn (M:=M) X k.takes;refine La.andThen (Lb.andThen ?_);exact(show Looks M h (dataDescriptor? (some (.builtin "object.__class__")) (some (.builtin "getset_descriptor.__get__"))) (some (.builtin "getset_descriptor.__get__", .builtin "object.__class__"))from Lc.andThen .now).andThen (Looks.tag .now)
def HK{tk:Tok}{Q:Fin->Shared->Prop}(k:fN K c)(X:K.In s.heap)(p:ExcAt e c s.heap)(hq:Q (.done (.ret (.ref c))) s) :
  wpAny (model prog w) A (Builtin.«object.__getattribute__» ⟨[.ref e,.str "__class__" tk],[]⟩) Q E s:=by
 obtain⟨h,g,dr,t,os⟩:=s;have La:=p.ty (M:=model prog w);have Lb:=J3 (M:=model prog w) (e:=e) k X;refine LA (Ma ?_);refine LA (Ma ?_);refine LA (La.at (LA (Lb.at ?_)));show wpAny _ _ (bindTo _ _ _ _) _ _ _;unfold bindTo
 repeat (first|with_reducible refine LA ?_|with_reducible refine QN ?_)
 refine wpAny_call (KN X p k.obj ?_);exact Ma hq
def HJ{nv:Value}{Q:Unit->Shared->Prop}(k:fN K c)(X:K.In s.heap)(p:ExcAt e c s.heap)(hq:Q () s) :
  wpAny M A (checkBuiltinCall "BaseException.__getattribute__" ⟨[.ref e,nv],[]⟩) Q E s:=by
 obtain⟨h,g,dr,t,os⟩:=s;have hk:builtinKind "BaseException.__getattribute__" = some .slot:=by decide +kernel
 have Ta:splitId "BaseException.__getattribute__" = some ("BaseException", "__getattribute__"):=by decide +kernel
 have ha:=F.args_bexc_ga (.ref e) nv;have La:=p.ty (M:=M);have Lb:=looks_mroIn (M:=M) X k.exc;have Li:Looks M h (isInstance (.ref e) (.type "BaseException")) true:=La.andThen Lb;simp only[checkBuiltinCall,hk,Ta];refine LA (Li.at ?_)
 repeat (first|wp_step)
 exact hq
def x_call{tk:Tok}{R:Result->Shared->Prop}(k:fN K c)(X:K.In s.heap)(p:ExcAt e c s.heap)(hq:R (.ok (.ret (.ref c))) s) :
  codeAny (model prog w) A (.call (.builtin "BaseException.__getattribute__") ⟨[.ref e,.str "__class__" tk],[]⟩) R s :=
 codeAny_call_builtin F.excAttr_ValueError.ga.plain F.entry_bexc_ga (HJ k X p (HK k X p hq))
def J2{Q:yan->Shared->Prop}(k:fN K c)(X:K.In s.heap)(p:ExcAt e c s.heap)(hq:Q (some (.ref c)) {s with toks:=s.toks+1}) :
  wpAny (model prog w) A (getAttr? (.ref e) "__class__") Q E s:=by
 obtain⟨h,g,dr,t,os⟩:=s;have La:=p.ty (M:=model prog w);have Lb:=looks_findIn (M:=model prog w) X k.ga;have Lc:=looks_findIn (M:=model prog w) X k.hook;have f3:=F.excAttr_ValueError.ga.bind (.ref e);unfold getAttr? getAttrBy? getAttrBy;refine LA (wpAny_mkText (LA (wpAny_attempt (QN (LA (La.at (LA (Lb.at ?_))))))));have NK:(Value.builtin "BaseException.__getattribute__" == Value.builtin "object.__getattribute__")=false:=by decide +kernel
 simp only[onTheHeap,Bool.true_and,NK,QL,if_false];unfold getAttrByItsOwn hookBefore;simp only[onTheHeap,if_true];refine LA (Lc.at ?_);refine LA (wpAny_attempt (QN ?_));unfold callGetattribute boundAndCalled;simp only[Bool.false_and,QL,if_false];refine LA (wpAny_of_eq f3 ?_);refine wpAny_call (x_call k X p ?_);refine Ma (a:=Value.ref c) ?_;exact Ma hq
set_option tactic.hygienic true in
def Eh(k:fN K c):KitX K (.ref e) (.ref c) (ExcAt e c) where
 ty:=λ_ _ _ p=>p.ty
 it:=λ_ _ X _=>by
  have h:=k.cls;unfold clsIn at h;split at h
  ·rename_i c' d' cd' sl' ho;intro A' Q' E' s' kk q;unfold isType loadHead;exact LA (wpAny_loadPart (kk _ _ (X _ _ ho)) (Ma q))
  ·cases h
 ne:=λh tp dd LC n sl X htp=>by
  have h:=k.cls;refine Bool.eq_false_iff.mpr λq=>?_
  have z:c=tp:=Value.ref.inj (beq_iff_eq.mp q);subst z;unfold clsIn at h;split at h
  ·rename_i c' d' cd' sl' ho;cases(X _ _ ho).symm.trans htp
  ·cases h
 ca:=λX p kk=>J2 k X p kk
end
end PX
namespace PD
open PySem PySem.Spec PyProof.Rows L2 PX
abbrev St:=L2.St
def NT:HO->Prop
 |.Q0 _=>False
 |_=>True
def K6:Str := "lightest.<locals>.<lambda>"
def HL(c:Addr):Heap->Prop:=λh=>h.CodeRec (.ref c) K6
def fC(H:Hp):Prop:=∀P ps,H P=some (.Q0 ps)->TriplesOk ps.toList/\∀pos cv,codeAmong pos ps.toList=some cv->∃c,cv=.ref c/\H c=some (.ext (HL c))
noncomputable def tabOf(K:yac):Option Addr :=
 match PySem.W.nsIn K mainGlobals "lightest" with
 |some (some (.ref f))=>(match K.lookup f with
  |some ⟨_,_,.func fd,_⟩=>(match fd.code with
   |.ref c=>(match K.lookup c with
    |some ⟨_,_,.fields vs,_⟩=>(match(vs[11]?:yan)with
     |some (.ref P)=>if(K.lookup P).isNone=true then some P else none
     |_=>none)
    |_=>none)
   |_=>none)
  |_=>none)
 |_=>none
structure au(H H':Hp):Prop where
 kp:∀b o,H b=some o->NT o->H' b=some o
 tb:∀b ps,H b=some (.Q0 ps)->∃more,H' b=some (.Q0 (ps++more))
 ok:fC H->fC H'
def au.app(e:au H H')(b:Addr)(o:HO)(h:H b=some o)(nt:NT o:=by first|exact True.intro|assumption):H' b=some o:=e.kp b o h nt
instance {H H':Hp}:CoeFun (au H H') (λ_=>∀(b:Addr) (o:HO),H b=some o->(nt:NT o:=by first|exact True.intro|assumption)->H' b=some o):=⟨@au.app H H'⟩
def au.refl(H:Hp):au H H:=⟨λ_ _ h _=>h,λ_ ps h=>⟨#[],by rw[h];simp⟩,id⟩
def au.trans(a:au H H1)(b:au H1 H2):au H H2:=⟨λc o h n=>b.kp c o (a.kp c o h n) n,λc ps h=>by obtain⟨m1,e1⟩:=a.tb c ps h;obtain⟨m2,e2⟩:=b.tb c _ e1;exact⟨m1++m2,by rw[e2,ZY]⟩,λh=>b.ok (a.ok h)⟩
def au.ex(e:au H H'){o:HO}(h:H b=some o):∃o',H' b=some o':=by
 by_cases n:NT o
 ·exact⟨o,e.kp b o h n⟩
 ·cases o with
  |Q0 ps =>
   obtain⟨m,q⟩:=e.tb b ps h;exact⟨_,q⟩
  |_=>exact absurd True.intro n
def au.free(e:au H H')(h:H' l=Option.none):H l=Option.none:=by
 cases q:H l with
 |none=>rfl
 |some o =>
  obtain⟨o',z⟩:=e.ex q;rw[h]at z;cases z
def au.seq{K:yac}{H H':Hp}{a:Addr}{xs:yar}(e:au H H')(h:SqL K H a xs):SqL K H' a xs:=by
 rcases h with(h|⟨o,h⟩)|h
 ·exact .inl (.inl (e _ _ h))
 ·exact .inl (.inr ⟨o,e _ _ h⟩)
 ·exact .inr h
theorem fC.upd{H:Hp}(n:NT o)(hp:H p=none∨∃ u,H p=some u/\(∀φ,u ≠ .ext φ)/\NT u)(h:fC H):fC (upd H p o):=by
 intro P ps e;have NK:P≠p:=λz=>by subst z;rw[aV]at e;cases e;exact n
 rw[aD NK]at e;obtain⟨h1,h2⟩:=h P ps e;refine⟨h1,λpos cv q=>?_⟩;obtain⟨c,e1,e2⟩:=h2 pos cv q;refine⟨c,e1,?_⟩;rw[aD λz=>?_]
 ·exact e2
 ·subst z;rcases hp with hp|⟨u,hp,hu,_⟩
  ·rw[hp]at e2;cases e2
  ·rw[hp]at e2;cases e2;exact hu _ rfl
structure ku(K:yac)(H:Hp):Prop where
 ok:fC H
 at':∀P,tabOf K=some P->∃ps,H P=some (.Q0 ps)
def ku.same{K:yac}{H H':Hp}(h:ku K H)(e:au H H'):ku K H':=⟨e.ok h.ok,λP q=>by obtain⟨ps,z⟩:=h.at' P q;obtain⟨m,z⟩:=e.tb P ps z;exact⟨_,z⟩⟩
theorem ku.upd{K:yac}{H:Hp}{p:Addr}{o:HO}(h:ku K H)(n:NT o)(hp:H p=none∨∃ u,H p=some u/\(∀φ,u ≠ .ext φ)/\NT u):ku K (upd H p o):=⟨fC.upd n hp h.ok,λP q=>by
 obtain⟨ps,z⟩:=h.at' P q;refine⟨ps,?_⟩;rw[aD λe=>?_]
 ·exact z
 ·subst e;rcases hp with hp|⟨u,hp,_,hu⟩
  ·rw[hp]at z;cases z
  ·rw[hp]at z;cases z;exact hu⟩
inductive D where
 |Mj|bl (b:Bool)|int (i:Int)|str (x:Str)|tup (ds:List D)|lst (t:Bool) (ds:List D)|exc (c:Addr)|obj (C:Addr) (ns:yah) (ds:List D)|Qm|PW (ks:yaf) (ds:List D)
abbrev yas:=List D
def TX:HO->Prop
 |.ext _=>True|.ins _ _ _=>True|.frz _ (.dK _)=>True|_=>False
def TX.nt(h:TX o):NT o:=by cases o<;>first|exact True.intro|exact h.elim
def OI(K:yac)(H:Hp)(t:Bool)(a:Addr)(vs:yar):Prop:=SqL K H a vs/\(t=true->H a=some (.lst vs)/\K.lookup a=none)
def OI.same{K:yac}{H H':Hp}{t:Bool}{a:Addr}{vs:yar}(e:au H H')(q:OI K H t a vs):OI K H' t a vs:=⟨e.seq q.1,λz=>⟨e _ _ (q.2 z).1,(q.2 z).2⟩⟩
def OI.any{K:yac}{H:Hp}{a:Addr}{vs:yar}(q:SqL K H a vs):OI K H false a vs:=⟨q,λz=>by cases z⟩
def OI.new{K:yac}{H:Hp}(q:H a=some (.lst vs))(k:K.lookup a=none):OI K H t a vs:=⟨SqL.of q,λ_=>⟨q,k⟩⟩
def M6(_:yac)(H:Hp)(a:Addr)(xs:yar):Prop:=H a=some (.tup xs)
def M6.w{K:yac}{H:Hp}{a:Addr}{xs:yar}(h:M6 K H a xs):L2.M6 K H a xs:=.inl (.inl h)
def M6.of{K:yac}{H:Hp}{a:Addr}{xs:yar}(h:H a=some (.tup xs)):M6 K H a xs:=h
mutual
def Den(K:yac)(P:yak)(H:Hp):D->V->Prop
 |.Mj,v=>v=.Mj
 |.bl b,v=>v=.bl b
 |.int i,v=>v=.int i
 |.str x,v=>v=.str x
 |.tup ds,v=>∃a vs,v=.ref a/\M6 K H a vs/\ag K P H ds vs
 |.lst t ds,v=>∃a vs,v=.ref a/\¬P t a/\OI K H t a vs/\ag K P H ds vs
 |.exc c,v=>∃e,v=.ref e/\H e=some (.ext (ExcAt e c))/\fN K c
 |.Qm,v=>∃a,v=.ref a/\H a=some (.ext (PySem.W.KitAt a "dict"))
 |.obj C ns ds,v=>∃a dx vs,v=.ref a/\H a=some (.ins C dx (ns.zip vs))/\vs.length=ns.length/\Aa K C/\ag K P H ds vs
 |.PW ks ds,v=>∃a o Mx vs,v=.ref a/\H a=some (.frz o (.dK Mx))/\Mx=(ks.map Sum.inl).zip vs/\vs.length=ks.length/\ag K P H ds vs
def ag(K:yac)(P:yak)(H:Hp):yas->yar->Prop
 |[],vs=>vs=[]
 |d::ds,vs=>∃v r,vs=v::r/\Den K P H d v/\ag K P H ds r
end
section
variable{K:yac}{P P':yak}{H H':Hp}
mutual
theorem Den.map(hT:∀a vs,M6 K H a vs->M6 K H' a vs)(hL:∀t a vs,¬P t a->OI K H t a vs->¬P' t a/\OI K H' t a vs)(hX:∀a o,TX o->H a=some o->H' a=some o):∀(d:D) (v:V),Den K P H d v->Den K P' H' d v
 |.Mj,_,h=>by simpa only[Den]using h
 |.bl _,_,h=>by simpa only[Den]using h
 |.int _,_,h=>by simpa only[Den]using h
 |.str _,_,h=>by simpa only[Den]using h
 |.tup ds,_,h=>by simp only[Den]at h ⊢;obtain⟨a,vs,e,q,r⟩:=h;exact⟨a,vs,e,hT a vs q,ag.map hT hL hX ds vs r⟩
 |.lst t ds,_,h=>by simp only[Den]at h ⊢;obtain⟨a,vs,e,p,q,r⟩:=h;exact⟨a,vs,e,(hL t a vs p q).1,(hL t a vs p q).2,ag.map hT hL hX ds vs r⟩
 |.exc c,_,h=>by simp only[Den]at h ⊢;obtain⟨a,e,q,k⟩:=h;exact⟨a,e,hX a _ True.intro q,k⟩
 |.obj C ns ds,_,h=>by simp only[Den]at h ⊢;obtain⟨a,dx,vs,e,q,l,k,r⟩:=h;exact⟨a,dx,vs,e,hX a _ True.intro q,l,k,ag.map hT hL hX ds vs r⟩
 |.Qm,_,h=>by simp only[Den]at h ⊢;obtain⟨a,e,q⟩:=h;exact⟨a,e,hX a _ True.intro q⟩
 |.PW ks ds,_,h=>by simp only[Den]at h ⊢;obtain⟨a,o,Mx,vs,e,q,l,k,r⟩:=h;exact⟨a,o,Mx,vs,e,hX a _ True.intro q,l,k,ag.map hT hL hX ds vs r⟩
theorem ag.map(hT:∀a vs,M6 K H a vs->M6 K H' a vs)(hL:∀t a vs,¬P t a->OI K H t a vs->¬P' t a/\OI K H' t a vs)(hX:∀a o,TX o->H a=some o->H' a=some o):∀(ds:yas) (vs:yar),ag K P H ds vs->ag K P' H' ds vs
 |[],_,h=>by simpa only[ag]using h
 |d::ds,_,h=>by simp only[ag]at h ⊢;obtain⟨v,r,e,h1,h2⟩:=h;exact⟨v,r,e,Den.map hT hL hX d v h1,ag.map hT hL hX ds r h2⟩
end
end
def M6.same{K:yac}{H H':Hp}{a:Addr}{xs:yar}(e:au H H')(h:M6 K H a xs):M6 K H' a xs:=e _ _ h
section
variable{K:yac}{P:yak}{H H':Hp}
theorem Den.same(e:au H H')(h:Den K P H d v):Den K P H' d v:=Den.map (λ_ _ q=>M6.same e q) (λ_ _ _ p q=>⟨p,q.same e⟩) (λa _ n q=>e.kp a _ q n.nt) d v h
theorem ag.same(e:au H H')(h:ag K P H ds vs):ag K P H' ds vs:=ag.map (λ_ _ q=>M6.same e q) (λ_ _ _ p q=>⟨p,q.same e⟩) (λa _ n q=>e.kp a _ q n.nt) ds vs h
def Den.Ml{P':yak}(e:∀t a,P' t a->P t a)(h:Den K P H d v):Den K P' H d v:=Den.map (λ_ _ q=>q) (λ_ _ _ p q=>⟨λz=>p (e _ _ z),q⟩) (λ_ _ _ q=>q) d v h
def ag.Ml{P':yak}(e:∀t a,P' t a->P t a)(h:ag K P H ds vs):ag K P' H ds vs:=ag.map (λ_ _ q=>q) (λ_ _ _ p q=>⟨λz=>p (e _ _ z),q⟩) (λ_ _ _ q=>q) ds vs h
theorem ag.len:∀{ds:yas} {vs:yar},ag K P H ds vs->vs.length=ds.length
 |[],_,h=>by simp only[ag]at h;subst h;rfl
 |d::ds,_,h=>by simp only[ag]at h;obtain⟨v,r,rfl,_,h2⟩:=h;simp[ag.len h2]
theorem ag.get:∀{ds:yas} {vs:yar} {i:Nat} {d:D},ag K P H ds vs->ds[i]?=some d->∃v,vs[i]?=some v/\Den K P H d v
 |[],_,_,_,_,e=>by simp at e
 |d::ds,_,0,_,h,e=>by simp only[ag]at h;obtain⟨v,r,rfl,h1,_⟩:=h;simp at e;subst e;exact⟨v,rfl,h1⟩
 |d::ds,_,i+1,x,h,e=>by simp only[ag]at h;obtain⟨v,r,rfl,_,h2⟩:=h;obtain⟨u,e1,e2⟩:=ag.get (i:=i) (d:=x) h2 (by simpa using e);exact⟨u,by simpa using e1,e2⟩
theorem ag.b5:∀{ds:yas} {vs:yar} {i:Nat} {v:V},ag K P H ds vs->vs[i]?=some v->∃d,ds[i]?=some d/\Den K P H d v
 |[],_,_,_,h,e=>by simp only[ag]at h;subst h;simp at e
 |d::ds,_,0,_,h,e=>by simp only[ag]at h;obtain⟨v,r,rfl,h1,_⟩:=h;simp at e;subst e;exact⟨d,rfl,h1⟩
 |d::ds,_,i+1,x,h,e=>by simp only[ag]at h;obtain⟨v,r,rfl,_,h2⟩:=h;obtain⟨u,e1,e2⟩:=ag.b5 (i:=i) (v:=x) h2 (by simpa using e);exact⟨u,by simpa using e1,e2⟩
theorem ag.append:∀{ds es:yas} {vs us:yar},ag K P H ds vs->ag K P H es us->ag K P H (ds++es) (vs++us)
 |[],_,_,_,h,h'=>by simp only[ag]at h;subst h;exact h'
 |d::ds,_,_,_,h,h'=>by simp only[ag]at h;obtain⟨v,r,rfl,h1,h2⟩:=h;simp only[O5,ag];exact⟨v,_,rfl,h1,ag.append h2 h'⟩
def ag.one(h:Den K P H d v):ag K P H [d] [v]:=by simp only[ag];exact⟨v,[],rfl,h,rfl⟩
def ag.nil:ag K P H [] []:=by simp only[ag]
def ag.cons(h:Den K P H d v)(h':ag K P H ds vs):ag K P H (d::ds) (v::vs):=by simp only[ag];exact⟨v,vs,rfl,h,h'⟩
def Den.MN(h:Den K P H (.int i) v):v=.int i:=by simpa only[Den]using h
def Den.Tc(h:Den K P H (.bl b) v):v=.bl b:=by simpa only[Den]using h
def Den.Uq(h:Den K P H .Mj v):v=.Mj:=by simpa only[Den]using h
def Den.Ur(h:Den K P H (.str x) v):v=.str x:=by simpa only[Den]using h
theorem Den.int(i:Int):Den K P H (.int i) (.int i):=by simp only[Den]
theorem Den.bl(b:Bool):Den K P H (.bl b) (.bl b):=by simp only[Den]
theorem Den.Mj:Den K P H .Mj .Mj:=by simp only[Den]
theorem Den.str(x:Str):Den K P H (.str x) (.str x):=by simp only[Den]
def Den.Qc(h:Den K P H (.tup ds) v):∃a vs,v=.ref a/\M6 K H a vs/\ag K P H ds vs:=by simpa only[Den]using h
def Den.Td(h:Den K P H (.lst t ds) v):∃a vs,v=.ref a/\¬P t a/\OI K H t a vs/\ag K P H ds vs:=by simpa only[Den]using h
def Den.OJ(h:Den K P H (.lst t ds) v):∃a vs,v=.ref a/\¬P t a/\SqL K H a vs/\ag K P H ds vs:=by obtain⟨a,vs,h1,h2,h3,h4⟩:=h.Td;exact⟨a,vs,h1,h2,h3.1,h4⟩
def Den.Yo (h:Den K P H .Qm v):∃a,v=.ref a/\H a=some (.ext (PySem.W.KitAt a "dict")):=by simpa only[Den]using h
theorem Den.Qm (h:H a=some (.ext (PySem.W.KitAt a "dict"))):Den K P H .Qm (.ref a):=by simp only[Den];exact⟨a,rfl,h⟩
def Den.V5(h:Den K P H (.obj C ns ds) v):∃a dx vs,v=.ref a/\H a=some (.ins C dx (ns.zip vs))/\vs.length=ns.length/\Aa K C/\ag K P H ds vs:=by simpa only[Den]using h
theorem Den.obj{ns:yah}(h:H a=some (.ins C dx (ns.zip vs)))(l:vs.length=ns.length)(k:Aa K C)(d:ag K P H ds vs):Den K P H (.obj C ns ds) (.ref a):=by simp only[Den];exact⟨a,dx,vs,rfl,h,l,k,d⟩
def Den.Yp(h:Den K P H (.PW ks ds) v):∃a o Mx vs,v=.ref a/\H a=some (.frz o (.dK Mx))/\Mx=(ks.map Sum.inl).zip vs/\vs.length=ks.length/\ag K P H ds vs:=by simpa only[Den]using h
theorem Den.PW{ks:yaf}(h:H a=some (.frz o (.dK ((ks.map Sum.inl).zip vs))))(l:vs.length=ks.length)(d:ag K P H ds vs):Den K P H (.PW ks ds) (.ref a):=by simp only[Den];exact⟨a,o,_,vs,rfl,h,rfl,l,d⟩
def Den.V6(h:Den K P H (.exc c) v):∃e,v=.ref e/\H e=some (.ext (ExcAt e c))/\fN K c:=by simpa only[Den]using h
theorem Den.exc(h:H e=some (.ext (ExcAt e c)))(k:fN K c):Den K P H (.exc c) (.ref e):=by simp only[Den];exact⟨e,rfl,h,k⟩
theorem Den.tup(h:M6 K H a vs)(h':ag K P H ds vs):Den K P H (.tup ds) (.ref a):=by simp only[Den];exact⟨a,vs,rfl,h,h'⟩
theorem Den.lst(p:¬P t a)(h:OI K H t a vs)(h':ag K P H ds vs):Den K P H (.lst t ds) (.ref a):=by simp only[Den];exact⟨a,vs,rfl,p,h,h'⟩
end
inductive LI where
 |own (ds:yas)|val (d:D)
inductive OS where
 |lst (ds:yas)|dk (kvs:List (Key×D))|dt (kvs:List (List Key×D))|ll (xs:List LI)
inductive Sl where
 |val (d:D)
 |ob (x:OS)
abbrev Sl.own(ds:yas):Sl:=.ob (.lst ds)
def aN(K:yac)(P:yak)(H:Hp)(B:yaj):Nat->List LI->yar->Prop
 |_,[],vs=>vs=[]
 |k,.own ds::r,vs=>∃b us u,vs=.ref b::u/\B k=some b/\H b=some (.lst us)/\ag K P H ds us/\aN K P H B (k+1) r u
 |k,.val d::r,vs=>∃v u,vs=v::u/\Den K P H d v/\aN K P H B (k+1) r u
theorem aN.map{K:yac}{P P':yak}{H H':Hp}{B B':yaj}(hd:∀ds vs,ag K P H ds vs->ag K P' H' ds vs)(hB:∀k b,B k=some b->B' k=some b/\∀us,H b=some (.lst us)->H' b=some (.lst us)):∀{k:Nat} {xs:List LI} {vs:yar},aN K P H B k xs vs->aN K P' H' B' k xs vs
 |_,[],_,h=>by simpa only[aN]using h
 |k,.own ds::r,_,h=>by simp only[aN]at h ⊢;obtain⟨b,us,u,e,h1,h2,h3,h4⟩:=h;exact⟨b,us,u,e,(hB k b h1).1,(hB k b h1).2 us h2,hd ds us h3,aN.map hd hB h4⟩
 |k,.val d::r,_,h=>by simp only[aN]at h ⊢;obtain⟨v,u,e,h1,h2⟩:=h;have h3:=hd [d] [v] (ag.one h1);simp only[ag]at h3;obtain⟨v',r',e',h4,_⟩:=h3;cases e';exact⟨v,u,e,h4,aN.map hd hB h2⟩
theorem aN.len{K:yac}{P:yak}{H:Hp}{B:yaj}:∀{k:Nat} {xs:List LI} {vs:yar},aN K P H B k xs vs->vs.length=xs.length
 |_,[],_,h=>by simp only[aN]at h;subst h;rfl
 |k,.own ds::r,_,h=>by simp only[aN]at h;obtain⟨b,us,u,rfl,_,_,_,h4⟩:=h;simp[aN.len h4]
 |k,.val d::r,_,h=>by simp only[aN]at h;obtain⟨v,u,rfl,_,h2⟩:=h;simp[aN.len h2]
inductive cS (K:yac) (P:yak) (H:Hp) (B:yaj):OS->HO->Prop where
 |lst {ds:yas} {vs:yar} (h:ag K P H ds vs):cS K P H B (.lst ds) (.lst vs)
 |ll {xs:List LI} {vs:yar} (h:aN K P H B 0 xs vs):cS K P H B (.ll xs) (.lst vs)
 |dk {kvs:List (Key×D)} {Mx:List (Key×V)} (e:Mx.map (·.1)=kvs.map (·.1)) (h:ag K P H (kvs.map (·.2)) (Mx.map (·.2))):cS K P H B (.dk kvs) (.dK Mx)
 |dt {kvs:List (List Key×D)} {Mx:List (List Key×V)} (e:Mx.map (·.1)=kvs.map (·.1)) (h:ag K P H (kvs.map (·.2)) (Mx.map (·.2))):cS K P H B (.dt kvs) (.dT Mx)
def jA:HO->Prop
 |.lst _=>True|.dK _=>True|.dT _=>True|_=>False
def jA.nt(h:jA o):NT o:=by cases o<;>first|exact True.intro|exact h.elim
def jA.sol(h:jA o):¬TX o:=by cases o<;>first|exact h.elim|exact λz=>z
def jA.ne(h:jA o):∀φ,o ≠ .ext φ:=λ_ e=>by subst e;exact h
section
variable{K:yac}{P P':yak}{H H':Hp}{B B':yaj}{x:OS}{o:HO}
theorem cS.map(k:∀ds vs,ag K P H ds vs->ag K P' H' ds vs)(hB:∀k b,B k=some b->B' k=some b/\∀us,H b=some (.lst us)->H' b=some (.lst us))(h:cS K P H B x o):cS K P' H' B' x o:=by
 cases h with
 |lst h=>exact .lst (k _ _ h)
 |ll h=>exact .ll (h.map k hB)
 |dk e h=>exact .dk e (k _ _ h)
 |dt e h=>exact .dt e (k _ _ h)
theorem cS.same(e:au H H')(h:cS K P H B x o):cS K P H' B x o:=h.map (λ_ _ z=>z.same e) λ_ _ q=>⟨q,λ_ z=>e _ _ z⟩
theorem cS.Ml(e:∀t a,P' t a->P t a)(hB:∀k b,B k=some b->B' k=some b)(h:cS K P H B x o):cS K P' H B' x o:=h.map (λ_ _ z=>z.Ml e) λk b q=>⟨hB k b q,λ_ z=>z⟩
def cS.Sd(h:cS K P H B x o):jA o:=by cases h<;>exact True.intro
def cS.OJ(h:cS K P H B (.lst ds) o):∃vs,o=.lst vs/\ag K P H ds vs:=by
 cases h with
 |lst h=>exact⟨_,rfl,h⟩
end
abbrev Ro:=List (Option Sl)
structure Own where
 B:Addr->Prop
 O:yaj
 S:Addr->Prop
def Own.bad(W:Own)(t:Bool)(a:Addr):Prop:=W.B a∨(∃i,W.O i=some a)∨(t=true/\W.S a)
def Own.drop(W:Own)(i:Nat):Own:=⟨W.B,λj=>if j=i then none else W.O j,W.S⟩
def Own.put(W:Own)(i:Nat)(a:Addr):Own:=⟨W.B,λj=>if j=i then some a else W.O j,W.S⟩
def Own.MF{W:Own}(h:(W.drop i).bad t a):W.bad t a:=by
 rcases h with h|⟨j,h⟩| h
 ·exact .inl h
 ·have h':(if j=i then none else W.O j)=some a:=h;by_cases e:j=i
  ·rw[Lx e]at h';cases h'
  ·rw[Lw e]at h';exact .inr (.inl ⟨j,h'⟩)
 ·exact .inr (.inr h)
def Own.QB{W:Own}(h:W.bad false a):W.bad t a:=by
 rcases h with h|h|⟨h,_⟩
 ·exact .inl h
 ·exact .inr (.inl h)
 ·cases h
def V7(n i k:Nat):Nat:=n*(k+1)+i
def sj{n j:Nat}(h:j<n):V7 n i k≠j:=λe=>by
 unfold V7 at e;rw[Nat.mul_add]at e
 lia
abbrev Own.sub(W:Own)(n i:Nat)(k:Nat):Option Addr:=W.O (V7 n i k)
def Own.Pz{W:Own}{n i:Nat}(h:i<n)(k:Nat)(b:Addr)(e:W.sub n j k=some b):(W.drop i).sub n j k=some b:=by show(if V7 n j k=i then none else W.O (V7 n j k))=_;rw[Lw (sj h)];exact e
structure Rel(X:Cx)(W:Own)(H:Hp)(σ:St)(ρ:Ro):Prop where
 val:∀(i:Nat) (d:D),ρ[i]?=some (some (Sl.val d))->∃v,σ[i]?=some (some v)/\Den X.K W.bad H d v
 own:∀(i:Nat) (x:OS),ρ[i]?=some (some (Sl.ob x))->∃a o,W.O i=some a/\σ[i]?=some (some (.ref a))/\H a=some o/\cS X.K W.bad H (W.sub σ.length i) x o
 inj:∀i j a,W.O i=some a->W.O j=some a->i=j
 kn:∀i a,W.O i=some a->X.K.lookup a=none/\(¬W.B a/\¬W.S a)/\∃o,H a=some o/\jA o
 ke:∀i a,W.O i=some a->X.MK a=none
 bt:∀a,W.B a->∃o,H a=some o
 st:∀a,W.S a->∃o,H a=some o
 ent:au X.MK H
 tab:ku X.K H
theorem Rel.same(r:Rel X W H σ ρ)(e:au H H'):Rel X W H' σ ρ where
 val:=λi d h=>let ⟨v,h1,h2⟩:=r.val i d h;⟨v,h1,h2.same e⟩
 own:=λi ds h=>let ⟨a,vs,h1,h2,h3,h4⟩:=r.own i ds h;⟨a,vs,h1,h2,e.kp _ _ h3 h4.Sd.nt,h4.same e⟩
 inj:=r.inj
 kn:=λi a h=>let ⟨h1,h2,o,h3,h4⟩:=r.kn i a h;⟨h1,h2,o,e.kp _ _ h3 h4.nt,h4⟩
 ke:=r.ke
 bt:=λa h=>let ⟨_,q⟩:=r.bt a h;e.ex q
 st:=λa h=>let ⟨_,q⟩:=r.st a h;e.ex q
 ent:=r.ent.trans e
 tab:=r.tab.same e
def Rel.Rp(r:Rel X W H σ ρ)(i:Nat)(ds:yas)(h:ρ[i]?=some (some (Sl.own ds))):∃a vs,W.O i=some a/\σ[i]?=some (some (.ref a))/\H a=some (.lst vs)/\ag X.K W.bad H ds vs:=by obtain⟨a,o,h1,h2,h3,h4⟩:=r.own i _ h;obtain⟨vs,e,h5⟩:=h4.OJ;subst e;exact⟨a,vs,h1,h2,h3,h5⟩
def Rel.tracked(r:Rel X W H σ ρ)(t:Bool)(a:Addr)(h:W.bad t a):∃o,H a=some o:=by
 rcases h with h|⟨i,h⟩| ⟨_,h⟩
 ·exact r.bt a h
 ·obtain⟨_,_,o,q,_⟩:=r.kn i a h;exact⟨_,q⟩
 ·exact r.st a h
def Rel.fresh(r:Rel X W H σ ρ)(h:H p=none):¬W.bad t p:=λz=>by obtain⟨o,q⟩:=r.tracked t p z;rw[h]at q;cases q
structure Mt(W:Own)(H:Hp)(W':Own)(H':Hp):Prop where
 B:W'.B=W.B
 S:W'.S=W.S
 kp:∀b o,(∀i,W.O i≠some b)->H b=some o->NT o->H' b=some o
 new:∀i a,W'.O i=some a->(∃j,W.O j=some a)∨H a=none
 tb:∀b ps,H b=some (.Q0 ps)->∃more,H' b=some (.Q0 (ps++more))
 ok:fC H->fC H'
def Mt.keep(f:Mt W H W' H')(b:Addr)(o:HO)(h:∀i,W.O i≠some b)(q:H b=some o)(nt:NT o:=by first|exact True.intro|assumption):H' b=some o:=f.kp b o h q nt
def Mt.ex(f:Mt W H W' H'){b:Addr}{o:HO}(h:∀i,W.O i≠some b)(q:H b=some o):∃o',H' b=some o':=by
 by_cases n:NT o
 ·exact⟨o,f.kp b o h q n⟩
 ·cases o with
  |Q0 ps =>
   obtain⟨m,e⟩:=f.tb b ps q;exact⟨_,e⟩
  |_=>exact absurd True.intro n
def Mt.refl(W:Own)(H:Hp):Mt W H W H:=⟨rfl,rfl,λ_ _ _ h _=>h,λi _ h=>.inl ⟨i,h⟩,λ_ ps h=>⟨#[],by rw[h];simp⟩,id⟩
theorem Mt.trans(a:Mt W H W1 H1)(b:Mt W1 H1 W2 H2):Mt W H W2 H2:=by
 refine⟨b.B.trans a.B,b.S.trans a.S,λx o n h t=>b.kp x o (λi z=>?_) (a.kp x o n h t) t,λi x h=>?_,λc ps h=>?_,λh=>b.ok (a.ok h)⟩
 ·rcases a.new i x z with⟨j,q⟩| q
  ·exact n j q
  ·rw[h]at q;cases q
 ·rcases b.new i x h with⟨j,q⟩| q
  ·exact a.new j x q
  ·by_cases z:∃j,W.O j=some x
   ·exact .inl z
   ·refine .inr ?_;cases e:H x with
    |none=>rfl
    |some o =>
     obtain⟨o',this⟩:=a.ex (λi w=>z ⟨i,w⟩) e;rw[this]at q;cases q
 ·obtain⟨m1,e1⟩:=a.tb c ps h;obtain⟨m2,e2⟩:=b.tb c _ e1;exact⟨m1++m2,by rw[e2,ZY]⟩
def Mt.same(e:au H H'):Mt W H W H':=⟨rfl,rfl,λ_ _ _ h n=>e.kp _ _ h n,λi _ h=>.inl ⟨i,h⟩,e.tb,e.ok⟩
def au.ins(e:au MK H){o:HO}(h0:MK a=none)(ha:H a=some o)(hm:jA o)(hn:NT o'):au MK (upd H a o') :=
 ⟨λb u h n=>by rw[aD (bC h h0)];exact e.kp b u h n,λb ps h=>by rw[aD (bC h h0)];exact e.tb b ps h,λh=>fC.upd hn (.inr ⟨o,ha,hm.ne,hm.nt⟩) (e.ok h)⟩
theorem Mt.upd{W:Own}{H:Hp}{a:Addr}{o:HO}(oa:W.O i=some a)(ha:H a=some o)(hm:jA o)(hn:NT o'):Mt W H W (upd H a o') :=
 ⟨rfl,rfl,λb u n h _=>by rw[aD λe=>n i (by rw[e];exact oa)];exact h,λj _ h=>.inl ⟨j,h⟩,λb ps h=>⟨#[],by rw[aD (λe=>by subst e;rw[ha]at h;cases h;exact hm),h];simp⟩,fC.upd hn (.inr ⟨o,ha,hm.ne,hm.nt⟩)⟩
structure j3 where
 nx:Ro->Prop
 rt:D->Prop
 bk:Ro->Prop:=λ_=>False
 ct:Ro->Prop:=λ_=>False
abbrev DE:=Ro->(D->Prop)->Prop
abbrev DT:=Ro->(Bool->Prop)->Prop
abbrev DA:=Ro->(yas->Prop)->Prop
abbrev DS:=j3->Ro->Prop
def DP(X:Cx)(pins:yab)(σ:St)(W:Own)(H:Hp)(Q:D->Prop)(u:Value)(s':Shared):Prop :=
 ∃ v H' d,Inv X pins σ H' s'/\RelV v u/\au H H'/\Den X.K W.bad H' d v/\Q d
def DTP(X:Cx)(pins:yab)(σ:St)(H:Hp)(Q:Bool->Prop)(b:Bool)(s':Shared):Prop :=
 ∃ H',Inv X pins σ H' s'/\au H H'/\Q b
def DAP(X:Cx)(pins:yab)(σ:St)(W:Own)(H:Hp)(Q:yas->Prop)(us:yad)(s':Shared):Prop :=
 ∃ vs H' ds,Inv X pins σ H' s'/\Vals vs us/\au H H'/\ag X.K W.bad H' ds vs/\Q ds
def TY(X:Cx)(pins:yab)(W:Own)(H:Hp)(E:j3)(f:Flow)(s':Shared):Prop :=
 ∃ W' Mn H',Inv X pins Mn H' s'/\Mt W H W' H' ∧
 match f with
 |.next=>∃Ly,Rel X W' H' Mn Ly/\E.nx Ly
 |.brk=>∃Ly,Rel X W' H' Mn Ly/\E.bk Ly
 |.cont=>∃Ly,Rel X W' H' Mn Ly/\E.ct Ly
 |.ret u=>∃v d,RelV v u/\Den X.K W'.bad H' d v/\E.rt d
def Mf(X:Cx)(e:Expr)(t:DE):Prop :=
 ∀ (pins:yab) (s:Shared) (σ:St) (H:Hp) (W:Own) (ρ:Ro) (Q:D->Prop),Inv X pins σ H s->Rel X W H σ ρ->t ρ Q →
  wpAny (model X.prog X.w) X.A (eval e X.env) (DP X pins σ W H Q) X.xe s
def Q4(X:Cx)(e:Expr)(t:DT):Prop :=
 ∀ (pins:yab) (s:Shared) (σ:St) (H:Hp) (W:Own) (ρ:Ro) (Q:Bool->Prop),Inv X pins σ H s->Rel X W H σ ρ->t ρ Q →
  wpAny (model X.prog X.w) X.A (isTrue e X.env (eval e X.env)) (DTP X pins σ H Q) X.xe s
def Qe(X:Cx)(e:Expr)(t:DT):Prop :=
 ∀ (whole:Sem Value) (pins:yab) (s:Shared) (σ:St) (H:Hp) (W:Own) (ρ:Ro) (Q:Bool->Prop),Inv X pins σ H s->Rel X W H σ ρ->t ρ Q →
  wpAny (model X.prog X.w) X.A (isTrue e X.env whole) (DTP X pins σ H Q) X.xe s
def Qe.pt(h:Qe X e t):Q4 X e t:=h _
def Qn(X:Cx)(es:yai)(t:DA):Prop :=
 ∀ (pos:Pos) (pins:yab) (s:Shared) (σ:St) (H:Hp) (W:Own) (ρ:Ro) (Q:yas->Prop),Inv X pins σ H s->Rel X W H σ ρ->t ρ Q →
  wpAny (model X.prog X.w) X.A (spliced (backTo pos (starEach es X.env))) (DAP X pins σ W H Q) X.xe s
def OF(X:Cx)(st:Stmt)(t:DS):Prop :=
 ∀ (pins:yab) (s:Shared) (σ:St) (H:Hp) (W:Own) (ρ:Ro) (E:j3),Inv X pins σ H s->Rel X W H σ ρ->t E ρ →
  wpAny (model X.prog X.w) X.A (exec st X.env) (TY X pins W H E) X.xe s
def cO(X:Cx)(st:yal)(t:DS):Prop :=
 ∀ (pins:yab) (s:Shared) (σ:St) (H:Hp) (W:Own) (ρ:Ro) (E:j3),Inv X pins σ H s->Rel X W H σ ρ->t E ρ →
  wpAny (model X.prog X.w) X.A (execs st X.env) (TY X pins W H E) X.xe s
def Ax(X:Cx)(t:DE):TE:=λσ H Q=>∃W ρ Qd,Rel X W H σ ρ/\t ρ Qd/\∀v H' d,au H H'->Den X.K W.bad H' d v->Qd d->Q v H'
def Kl(X:Cx)(t:DS):TS:=λD σ H=>∃W ρ Ed,Rel X W H σ ρ/\t Ed ρ ∧
 (∀W' Mn H' Ly,Mt W H W' H'->Rel X W' H' Mn Ly->Ed.nx Ly->D.nx Mn H') ∧
 (∀W' H' v d,Mt W H W' H'->Den X.K W'.bad H' d v->Ed.rt d->D.rt v H') ∧
 (∀W' Mn H' Ly,Mt W H W' H'->Rel X W' H' Mn Ly->Ed.bk Ly->D.bk Mn H') ∧
 (∀W' Mn H' Ly,Mt W H W' H'->Rel X W' H' Mn Ly->Ed.ct Ly->D.ct Mn H')
section
variable{X:Cx}
def Mf.pe(h:Mf X e t):PE X e (Ax X t):=by intro pins s σ H Q I q;obtain⟨W,ρ,Qd,r,ht,k⟩:=q;exact LK (h pins s σ H W ρ Qd I r ht) λu s1 MP=>(by obtain⟨v,H',d,I1,rv,e1,hd,qd⟩:=MP;exact⟨v,H',I1,rv,k v H' d e1 hd qd⟩)
def cO.ps{st:yal}{t:DS}(h:cO X st t):PSs X st (Kl X t):=by
 intro pins s σ H D I q;obtain⟨W,ρ,Ed,r,ht,k1,k2,k3,k4⟩:=q;refine LK (h pins s σ H W ρ Ed I r ht) λf s1 LO=>?_
 obtain⟨W',Mn,H',I1,fw,q⟩:=LO;cases f with
 |next=>obtain⟨Ly,r',q'⟩:=q;exact⟨Mn,H',I1,k1 W' Mn H' Ly fw r' q'⟩
 |brk=>obtain⟨Ly,r',q'⟩:=q;exact⟨Mn,H',I1,k3 W' Mn H' Ly fw r' q'⟩
 |cont=>obtain⟨Ly,r',q'⟩:=q;exact⟨Mn,H',I1,k4 W' Mn H' Ly fw r' q'⟩
 |ret u=>obtain⟨v,d,rv,hd,q'⟩:=q;exact⟨v,Mn,H',I1,rv,k2 W' H' v d fw hd q'⟩
def Mf.of{t:DE}(h:PE X e te)(k:∀σ H W ρ Q,Rel X W H σ ρ->t ρ Q->te σ H λv H'=>au H H'/\∃d,Den X.K W.bad H' d v/\Q d):Mf X e t:=by intro pins s σ H W ρ Q I r ht;exact LK (h pins s σ H _ I (k σ H W ρ Q r ht)) λu s1 MP=>(by obtain⟨v,H',I1,rv,e1,d,hd,q⟩:=MP;exact⟨v,H',d,I1,rv,e1,hd,q⟩)
end
section
variable{X:Cx}{a b c:Expr}{ta tb:DE}{pos:Pos}
def ky(i:Nat):DE:=λρ Q=>match ρ[i]? with
 |some (some (.val d))=>Q d
 |_=>False
set_option tactic.hygienic true in
def F3(h:ky i ρ Q):∃d,ρ[i]?=some (some (.val d))/\Q d:=by
 unfold ky at h;split at h
 ·rename_i d e;exact⟨d,e,h⟩
 ·exact h.elim
def dC(d:D):DE:=λ_ Q=>Q d
def dv (i:Nat) {x:Str} {pos:Pos} (hN:X.N[i]?=some x:=by rfl) (hv:S6 X.env.scope x:=by first|exact Or.inl rfl|exact Or.inr (Or.inl rfl)|exact Or.inr (Or.inr rfl)) (hd:(x==("__debug__" : Str))=false:=by decide)
  (O4:(x==("__classdict__" : Str))=false:=by decide):Mf X (.Name x pos) (ky i) :=
 Mf.of (iJ hN hv hd O4) λσ H W ρ Q r ht=>by obtain⟨d,e,q⟩:=F3 ht;obtain⟨v,e1,e2⟩:=r.val i d e;exact⟨v,e1,au.refl H,d,e2,q⟩
def aa{i j pos}:Mf X (.Constant (.int i) j pos) (dC (.int i)):=Mf.of JI λ_ H _ _ _ _ q=>⟨au.refl H,_,Den.int i,q⟩
def cc{i j pos}:Mf X (.Constant (.bool i) j pos) (dC (.bl i)):=Mf.of Kt λ_ H _ _ _ _ q=>⟨au.refl H,_,Den.bl i,q⟩
def kR{j pos}:Mf X (.Constant .none j pos) (dC .Mj):=Mf.of JJ λ_ H _ _ _ _ q=>⟨au.refl H,_,Den.Mj,q⟩
def IF{x j pos}:Mf X (.Constant (.str x) j pos) (dC (.str x)):=Mf.of JK λ_ H _ _ _ _ q=>⟨au.refl H,_,Den.str x,q⟩
abbrev RD2:=D->D->(D->Prop)->Prop
def Nq(X:Cx)(f:Value->Value->Sem Value)(r:RD2):Prop :=
 ∀ (pins:yab) (s:Shared) (σ:St) (H:Hp) (W:Own) (x y:D) (v u:V) (vv uu:Value) (Q:D->Prop),Inv X pins σ H s->(∀t a,W.bad t a->∃o,H a=some o)->RelV v vv->RelV u uu->Den X.K W.bad H x v->Den X.K W.bad H y u->r x y Q →
  wpAny (model X.prog X.w) X.A (f vv uu) (DP X pins σ W H Q) X.xe s
def Xg(r:RD2)(ta tb:DE):DE:=λρ Q=>ta ρ λx=>tb ρ λy=>r x y Q
def Af(ha:Mf X a ta)(hb:Mf X b tb){pins:yab}{s:Shared}{σ:St}{H:Hp}{W:Own}{ρ:Ro}{R:D->D->Prop}(I:Inv X pins σ H s)(r:Rel X W H σ ρ)(h:ta ρ λx=>tb ρ λy=>R x y)
  {α:Type} {Q:α->Shared->Prop} {f:Value->Value->Sem α}
  (hf:∀vv uu s2 v u x y H2,Inv X pins σ H2 s2->au H H2->RelV v vv->RelV u uu->Den X.K W.bad H2 x v->Den X.K W.bad H2 y u->R x y->wpAny (model X.prog X.w) X.A (f vv uu) Q X.xe s2) :
  wpAny (model X.prog X.w) X.A (eval a X.env) (λv LM=>wpAny (model X.prog X.w) X.A (eval b X.env) (λu LN=>wpAny (model X.prog X.w) X.A (f v u) Q X.xe LN) X.xe LM) X.xe s:=by
 refine LK (ha pins s σ H W ρ _ I r h) λvv s1 LO=>?_
 obtain⟨v,H1,x,I1,rv,e1,hx,q1⟩:=LO;refine LK (hb pins s1 σ H1 W ρ _ I1 (r.same e1) q1) λuu s2 LO=>?_
 obtain⟨u,H2,y,I2,ru,e2,hy,q2⟩:=LO;exact hf vv uu s2 v u x y H2 I2 (e1.trans e2) rv ru (hx.same e2) hy q2
def DP.up(e:au H H1)(h:DP X pins σ W H1 Q u s'):DP X pins σ W H Q u s':=by obtain⟨v,H',d,I,r,e1,hd,q⟩:=h;exact⟨v,H',d,I,r,e.trans e1,hd,q⟩
def af{op:Operator}{r:RD2}(ho:Nq X (binaryOp op) r)(ha:Mf X a ta)(hb:Mf X b tb):Mf X (.BinOp a op b pos) (Xg r ta tb):=by intro pins s σ H W ρ Q I rr h;refine wpAny_BinOp (Af ha hb I rr h λvv uu s2 v u x y H2 I2 e rv ru hx hy q=>?_);exact LK (ho pins s2 σ H2 W x y v u vv uu Q I2 (rr.same e).tracked rv ru hx hy q) λ_ _ z=>z.up e
def Kc{rd:D->(D->Prop)->Prop}(ho:UnR X (unaryOp op) r)(ha:Mf X a ta)
  (k:∀P H d v Q,Den X.K P H d v->rd d Q->r v H λv' H'=>au H H'/\∃d',Den X.K P H' d' v'/\Q d'):Mf X (.UnaryOp op a pos) (λρ Q=>ta ρ λx=>rd x Q):=by
 intro pins s σ H W ρ Q I rr h;refine UnaryOp_ (LK (ha pins s σ H W ρ _ I rr h) λvv s1 LO=>?_);obtain⟨v,H1,x,I1,rv,e1,hx,q1⟩:=LO;exact LK (ho pins s1 σ H1 v vv _ I1 rv (k _ H1 x v Q hx q1)) λu s2 MP=>(by obtain⟨w',H2,I2,r2,e2,d,hd,q2⟩:=MP;exact⟨w',H2,d,I2,r2,e1.trans e2,hd,q2⟩)
def wB(ta:DE):DE:=λρ Q=>ta ρ λx=>∃i,x=.int i/\Q (.int (-i))
def cu(ha:Mf X a ta):Mf X (.UnaryOp .USub a pos) (wB ta) :=
 Kc (rd:=λx Q=>∃i,x=.int i/\Q (.int (-i))) J0 ha λP H d v Q hd ⟨i,e,q⟩=>by subst e;exact⟨i,hd.MN,au.refl H,_,Den.int _,q⟩
def Nq.of{rd:RD2}(h:Ql X f r)(k:∀P H x y v u Q,Den X.K P H x v->Den X.K P H y u->rd x y Q->r v u H λv' H'=>au H H'/\∃d',Den X.K P H' d' v'/\Q d'):Nq X f rd:=by intro pins s σ H W x y v u vv uu Q I _ rv ru hx hy q;exact LK (h pins s σ H v u vv uu _ I rv ru (k _ H x y v u Q hx hy q)) λ_ s2 MP=>(by obtain⟨w',H2,I2,r2,e2,d,hd,q2⟩:=MP;exact⟨w',H2,d,I2,r2,e2,hd,q2⟩)
def Vb(C:Int->Int->Prop)(g:Int->Int->D):RD2:=λx y Q=>match x,y with
 |.int i,.int j=>C i j/\Q (g i j)
 |_,_=>False
def gw(g:Int->Int->D):RD2:=λx y Q=>match x,y with
 |.int i,.int j=>Q (g i j)
 |_,_=>False
def JP(h:Vb C g x y Q):∃i j,x=.int i/\y=.int j/\C i j/\Q (g i j):=by
 unfold Vb at h;split at h
 ·exact⟨_,_,rfl,rfl,h⟩
 ·exact h.elim
def oG(h:gw g x y Q):∃i j,x=.int i/\y=.int j/\Q (g i j):=by
 unfold gw at h;split at h
 ·exact⟨_,_,rfl,rfl,h⟩
 ·exact h.elim
def Nq.Z6{g:Int->Int->Int}(h:Ql X f (rI C λi j=>.int (g i j))):Nq X f (Vb C λi j=>.int (g i j)) :=
 Nq.of h λP H x y v u Q hx hy z=>by obtain⟨i,j,e1,e2,hc,q⟩:=JP z;subst e1 e2;exact⟨i,j,hx.MN,hy.MN,hc,au.refl H,_,Den.int _,q⟩
def Nq.Yq{g:Int->Int->Int}(h:Ql X f (TU λi j=>.int (g i j))):Nq X f (gw λi j=>.int (g i j)) :=
 Nq.of h λP H x y v u Q hx hy z=>by obtain⟨i,j,e1,e2,q⟩:=oG z;subst e1 e2;exact⟨i,j,hx.MN,hy.MN,au.refl H,_,Den.int _,q⟩
def Nq.Us{g:Int->Int->Bool}(h:Ql X f (TU λi j=>.bl (g i j))):Nq X f (gw λi j=>.bl (g i j)) :=
 Nq.of h λP H x y v u Q hx hy z=>by obtain⟨i,j,e1,e2,q⟩:=oG z;subst e1 e2;exact⟨i,j,hx.MN,hy.MN,au.refl H,_,Den.bl _,q⟩
def Jw:Nq X (binaryOp .Add) (gw λi j=>.int (i+j)):=Nq.Yq JC
def aU:Nq X (binaryOp .Sub) (gw λi j=>.int (i - j)):=Nq.Yq JF
def cE:Nq X (compareOp .Lt) (gw λi j=>.bl (decide (i<j))):=Nq.Us Kr
def vq:Nq X (compareOp .LtE) (gw λi j=>.bl (decide (i<=j))):=Nq.Us Kq
def rA:Nq X (compareOp .Gt) (gw λi j=>.bl (decide (j<i))):=Nq.Us Kp
def FA:Nq X (compareOp .GtE) (gw λi j=>.bl (decide (j<=i))):=Nq.Us Ko
def Bd(n:Nat)(x:Int):Prop:=x.natAbs<2 ^ n
def Bd.mono{n:Nat}(h:Bd m x)(l:m<=n):Bd n x:=OM h (XM (by decide) l)
def Bd.mul(h:Bd m x)(h':Bd n y):Bd (m+n) (x*y):=by unfold Bd at *;rw[Int.natAbs_mul,Nat.pow_add];exact Nat.mul_lt_mul'' h h'
def Bd.add(h:Bd m x)(h':Bd m y):Bd (m+1) (x+y):=by
 unfold Bd at *;rw[Rm];have:=Int.natAbs_add_le x y
 lia
def Bd.sub(h:Bd m x)(h':Bd m y):Bd (m+1) (x - y):=by
 unfold Bd at *;rw[Rm];have:=Int.natAbs_sub_le x y
 lia
def Bd.neg(h:Bd m x):Bd m (-x):=by unfold Bd at *;rw[Int.natAbs_neg];exact h
def Bd.bits(h:Bd n x):Builtin.Int.intBits x<=n:=by
 unfold Bd at h;unfold Builtin.Int.intBits;split
 ·exact OE _
 ·rename_i hz;have hp:x.natAbs≠0:=by
   intro e;apply hz;have:x=0:=Int.natAbs_eq_zero.mp e;simp[this]
  have:=(Nat.log2_lt hp).mpr h
  lia
def CM(i j:Int):Prop:=Bd 64 i∨Bd 64 j∨(Bd 100000 i/\Bd 100000 j)
def CM.ok(h:CM i j):IntMulOk i j:=by
 rcases h with h|h|⟨h,h'⟩
 ·exact .of_left h.bits
 ·exact .of_right h.bits
 ·exact .of_bits (NM h.bits (by decide)) (NM h'.bits (by decide))
def G9:Ql X (binaryOp .Mult) (rI CM λi j=>.int (i*j)):=Z3 λ_ _ _ _ _ _ _ hc q=>mul_int q hc.ok
def ax:Nq X (binaryOp .Mult) (Vb CM λi j=>.int (i*j)):=Nq.Z6 G9
def CD(_:Int)(j:Int):Prop:=j≠0/\Bd 8000 j
def CD.noPy(h:CD i j):Builtin.divisionGoesByPylong i j=false:=by
 refine PyProof.noPylong_of_log2 ?_;have hz:j.natAbs≠0:=λe=>h.1 (Int.natAbs_eq_zero.mp e)
 have:=(Nat.log2_lt hz).mpr h.2
 lia
def EF:Ql X (binaryOp .FloorDiv) (rI CD λi j=>.int (i.fdiv j)):=Z3 λ_ _ _ _ _ _ _ hc q=>floordiv_int hc.1 q (.inl hc.noPy)
def bA:Nq X (binaryOp .FloorDiv) (Vb CD λi j=>.int (i.fdiv j)):=Nq.Z6 EF
def aO:Nq X (binaryOp .Mod) (Vb (λ_ j=>j≠0) λi j=>.int (i.fmod j)):=Nq.Z6 G8
def gr:Nq X (binaryOp .Pow) (Vb vD λi j=>.int (i ^ j.toNat)):=Nq.Z6 JE
def dB(t:DE):DT:=λρ Q=>t ρ λx=>∃k,x=.bl k/\Q k
def cH{op:CmpOp}{r:RD2}(ho:Nq X (compareOp op) r)(ha:Mf X a ta)(hb:Mf X b tb)(hm:behindInMarks op b=false:=by first|exact w7 _ (by decide) (by decide)|rfl):Mf X (.Compare a [op] [b] pos) (Xg r ta tb):=by intro pins s σ H W ρ Q I rr h;refine wpAny_Compare1 (Af ha hb I rr h λvv uu s2 v u x y H2 I2 e rv ru hx hy q=>?_) hm;exact LK (ho pins s2 σ H2 W x y v u vv uu Q I2 (rr.same e).tracked rv ru hx hy q) λ_ _ z=>z.up e
def aE(ho:Nq X (compareOp op) r)(ha:Mf X a ta)(hb:Mf X b tb)(hm:behindInMarks op b=false:=by first|exact w7 _ (by decide) (by decide)|rfl):Q4 X (.Compare a [op] [b] pos) (dB (Xg r ta tb)):=by
 intro pins s σ H W ρ Q I rr h;refine wpAny_isTrue_Compare1 (LK (ha pins s σ H W ρ _ I rr h) λvv s1 ⟨v,H1,x,I1,rv,e1,hx,q1⟩=>LK (hb pins s1 σ H1 W ρ _ I1 (rr.same e1) q1) λuu s2 ⟨u,H2,y,I2,ru,e2,hy,q2⟩=>
  LK (ho pins s2 σ H2 W x y v u vv uu _ I2 ((rr.same e1).same e2).tracked rv ru (hx.same e2) hy q2) λc s3 ⟨z,H3,d,I3,r3,e3,hd,k,ek,q3⟩=>?_) hm
 subst ek;have hz:=hd.Tc;subst hz;cases r3;exact WY ⟨H3,I3,e1.trans (e2.trans e3),q3⟩
def cw(h:Mf X e t)(he:∀whole,isTrue e X.env whole=(do let v←whole;standAt e.pos;holding [v] (truthy v)):=by intro _;rfl):Q4 X e (dB t):=by intro pins s σ H W ρ Q I rr hw;refine isTrue_plain (LK (h pins s σ H W ρ _ I rr hw) λvv s1 LO=>?_) (he _);obtain⟨v,H1,x,I1,rv,e1,hx,k,ek,q⟩:=LO;subst ek;have hz:=hx.Tc;subst hz;cases rv;exact WY ⟨H1,I1,e1,q⟩
variable{tA Yc:DT}{rest:yai}
def Il(t u:DT):DT:=λρ Q=>t ρ λc=>if c=true then u ρ Q else Q false
def dOr(t u:DT):DT:=λρ Q=>t ρ λc=>if c=true then Q true else u ρ Q
def Iu(t:DT):DT:=λρ Q=>t ρ λc=>Q (!c)
def og(ha:Q4 X a tA):Qe X (.BoolOp .And [a] pos) tA:=by
 intro wh pins s σ H W ρ Q I rr h;refine isTrue_and (LK (ha pins s σ H W ρ Q I rr h) λc s1 e=>?_);cases c with
 |true=>exact isTrue_and_nil e
 |false=>exact e
def iG(ha:Q4 X a tA):Qe X (.BoolOp .Or [a] pos) tA:=by
 intro wh pins s σ H W ρ Q I rr h;refine isTrue_or (LK (ha pins s σ H W ρ Q I rr h) λc s1 e=>?_);cases c with
 |false=>exact isTrue_or_nil e
 |true=>exact e
def qQ(ha:Q4 X a tA)(hb:Qe X (.BoolOp .And (b::rest) pos) Yc):Qe X (.BoolOp .And (a::b::rest) pos) (Il tA Yc):=by
 intro wh pins s σ H W ρ Q I rr h;refine isTrue_and (LK (ha pins s σ H W ρ _ I rr h) λc s1 LO=>?_);obtain⟨H1,I1,e1,q1⟩:=LO;cases c with
 |true=>exact LK (hb wh pins s1 σ H1 W ρ Q I1 (rr.same e1) q1) λ_ _ MP=>(by obtain⟨H2,I2,e2,q2⟩:=MP;exact⟨H2,I2,e1.trans e2,q2⟩)
 |false=>exact⟨H1,I1,e1,q1⟩
def gh(ha:Q4 X a tA)(hb:Qe X (.BoolOp .Or (b::rest) pos) Yc):Qe X (.BoolOp .Or (a::b::rest) pos) (dOr tA Yc):=by
 intro wh pins s σ H W ρ Q I rr h;refine isTrue_or (LK (ha pins s σ H W ρ _ I rr h) λc s1 LO=>?_);obtain⟨H1,I1,e1,q1⟩:=LO;cases c with
 |true=>exact⟨H1,I1,e1,q1⟩
 |false=>exact LK (hb wh pins s1 σ H1 W ρ Q I1 (rr.same e1) q1) λ_ _ MP=>(by obtain⟨H2,I2,e2,q2⟩:=MP;exact⟨H2,I2,e1.trans e2,q2⟩)
def cU(ha:Q4 X a tA):Q4 X (.UnaryOp .Not a pos) (Iu tA):=by intro pins s σ H W ρ Q I rr h;exact isTrue_not (ha pins s σ H W ρ (λc=>Q (!c)) I rr h)
def Fi(ta tb:DE):DE:=λρ Q=>ta ρ λx=>∃c,x=.bl c/\if c=true then tb ρ Q else Q (.bl false)
def Fo(ta:DE):DE:=λρ Q=>ta ρ λx=>∃c,x=.bl c/\Q (.bl (!c))
def nh{op}(h:Mf X a t):Mf X (.BoolOp op [a] pos) t:=λpins s σ H W ρ Q I rr hw=>BoolOp_one (h pins s σ H W ρ Q I rr hw)
def m9(ha:Mf X a ta)(hb:Mf X (.BoolOp .And (b::rest) pos) tb):Mf X (.BoolOp .And (a::b::rest) pos) (Fi ta tb):=by
 intro pins s σ H W ρ Q I rr h;refine BoolOp_and (LK (ha pins s σ H W ρ _ I rr h) λvv s1 LO=>?_);obtain⟨v,H1,x,I1,rv,e1,hx,c,ec,q1⟩:=LO;subst ec;have hz:=hx.Tc;subst hz;cases rv;refine WY ?_;cases c with
 |true=>exact LK (hb pins s1 σ H1 W ρ Q I1 (rr.same e1) q1) λ_ _ z=>z.up e1
 |false=>exact⟨.bl false,H1,_,I1,rfl,e1,Den.bl _,q1⟩
def ng(ha:Mf X a ta):Mf X (.UnaryOp .Not a pos) (Fo ta):=by intro pins s σ H W ρ Q I rr h;refine UnaryOp_ (LK (ha pins s σ H W ρ _ I rr h) λvv s1 LO=>?_);obtain⟨v,H1,x,I1,rv,e1,hx,c,ec,q1⟩:=LO;subst ec;have hz:=hx.Tc;subst hz;cases rv;exact not_of (WY ⟨.bl (!c),H1,_,I1,rfl,e1,Den.bl _,q1⟩)
def dIf(t:DT)(ta tb:DE):DE:=λρ Q=>t ρ λc=>if c=true then ta ρ Q else tb ρ Q
def wG(hc:Q4 X c tA)(ha:Mf X a ta)(hb:Mf X b tb):Mf X (.IfExp c a b pos) (dIf tA ta tb):=by
 intro pins s σ H W ρ Q I rr h;refine wpAny_IfExp (LK (hc pins s σ H W ρ _ I rr h) λd s1 LO=>?_);obtain⟨H1,I1,e1,q1⟩:=LO;cases d with
 |true=>exact LK (ha pins s1 σ H1 W ρ Q I1 (rr.same e1) q1) λ_ _ z=>z.up e1
 |false=>exact LK (hb pins s1 σ H1 W ρ Q I1 (rr.same e1) q1) λ_ _ z=>z.up e1
def tF:RD2:=λx y Q=>match x,y with
 |.tup ds,.int i=>∃d,NY ds i=some d/\Q d
 |.lst _ ds,.int i=>∃d,NY ds i=some d/\Q d
 |_,_=>False
def Hk(h:tF x y Q):∃ds i d,(x=.tup ds∨∃ t,x=.lst t ds)/\y=.int i/\NY ds i=some d/\Q d:=by
 unfold tF at h;split at h
 ·obtain⟨d,h⟩:=h;exact⟨_,_,d,.inl rfl,rfl,h⟩
 ·obtain⟨d,h⟩:=h;exact⟨_,_,d,.inr ⟨_,rfl⟩,rfl,h⟩
 ·exact h.elim
def vU{K:yac}{P:yak}{H:Hp}{ds:yas}{vs:yar}{i:Int}{d:D}(h:ag K P H ds vs)(e:NY ds i=some d):∃v,NY vs i=some v/\Den K P H d v:=by
 unfold NY at e ⊢;rw[h.len];cases q:ixN ds.length i with
 |none=>rw[q]at e;cases e
 |some j =>
  rw[q]at e;exact h.get e
def aj(ha:Mf X a ta)(hb:Mf X b tb)(hs:FW b:=by intro _ _;rfl):Mf X (.Subscript a b pos) (Xg tF ta tb):=by
 intro pins s σ H W ρ Q I rr h;refine Subscript_ (Af ha hb I rr h λvv uu s2 v u x y H2 I2 e rv ru hx hy q=>?_)
 replace q:=Hk q
 obtain⟨ds,i,d,ex,ey,ei,q⟩:=q;subst ey;have hu:=hy.MN;subst hu;have fin:∀(v':V),Den X.K W.bad H2 d v'->au H2 H2/\∃d',Den X.K W.bad H2 d' v'/\Q d':=λv' hd=>⟨au.refl _,d,hd,q⟩
 rcases ex with ex|⟨tg,ex⟩
 ·subst ex;obtain⟨p,vs,ev,hq,hd⟩:=hx.Qc;subst ev;obtain⟨v',e1,e2⟩:=vU hd ei;exact LK (Jj a b pins s2 σ H2 _ _ vv uu (λv' H'=>au H2 H'/\∃d',Den X.K W.bad H' d' v'/\Q d') I2 rv ru ⟨p,vs,i,v',rfl,rfl,hq.w,e1,fin v' e2⟩ (hs _ _))
   λ_ s3 MP=>(by obtain⟨w',H3,I3,r3,e3,d',Rf,q'⟩:=MP;exact⟨w',H3,d',I3,r3,e.trans e3,Rf,q'⟩)
 ·subst ex;obtain⟨p,vs,ev,_,hq,hd⟩:=hx.OJ;subst ev;obtain⟨v',e1,e2⟩:=vU hd ei;exact LK (GI a b pins s2 σ H2 _ _ vv uu (λv' H'=>au H2 H'/\∃d',Den X.K W.bad H' d' v'/\Q d') I2 rv ru ⟨p,vs,i,v',rfl,rfl,hq,e1,fin v' e2⟩ (hs _ _))
   λ_ s3 MP=>(by obtain⟨w',H3,I3,r3,e3,d',Rf,q'⟩:=MP;exact⟨w',H3,d',I3,r3,e.trans e3,Rf,q'⟩)
end
section
variable{X:Cx}{e:Expr}{es:yai}{te:DE}{t:DA}{pos:Pos}
def Ak:DA:=λ_ Q=>Q []
def qL(ta:DE)(tr:DA):DA:=λρ Q=>ta ρ λx=>tr ρ λxs=>Q (x::xs)
def ah:Qn X [] Ak:=λ_ _ _ _ H W ρ Q I _ h=>Calls.spliced_nil ⟨[],H,[],I,.nil,au.refl H,ag.nil,h⟩
def ae(ha:Mf X e te)(hr:Qn X es t)(hs:starEach (e::es) X.env=(false,eval e X.env)::starEach es X.env:=by rfl):Qn X (e::es) (qL te t):=by intro pos pins s σ H W ρ Q I rr h;rw[hs];show wpAny _ _ (spliced ((false,eval e X.env)::backTo pos (starEach es X.env))) _ _ s;refine Calls.spliced_cons (LK (ha pins s σ H W ρ _ I rr h) λu s1 LO=>?_);obtain⟨v,H1,x,I1,r1,e1,hx,q1⟩:=LO;exact LK (hr pos pins s1 σ H1 W ρ _ I1 (rr.same e1) q1) λus s2 MP=>(by obtain⟨vs,H2,xs,I2,r2,e2,Z7,q2⟩:=MP;exact⟨v::vs,H2,x::xs,I2,.cons r1 r2,e1.trans e2,ag.cons (hx.same e2) Z7,q2⟩)
theorem au.upd{H:Hp}(h:H p=none)(n:NT o:=by exact True.intro):au H (upd H p o):=⟨λb u e _=>by rw[aD (bC e h)];exact e,λb ps e=>⟨#[],by rw[aD (bC e h),e];simp⟩,fC.upd n (.inl h)⟩
def IB(t:DA):DE:=λρ Q=>t ρ λds=>ds.length<=sizeLine/\Q (.tup ds)
def DU(t:DA):DE:=λρ Q=>t ρ λds=>ds.length<=sizeLine/\Q (.lst true ds)
def bT{x1}(h:Qn X es t):Mf X (.Tuple es x1 pos) (IB t):=by intro pins s σ H W ρ Q I rr hq;refine wpAny_Tuple_spliced (LK (h pos pins s σ H W ρ _ I rr hq) λus s1 LO=>?_);obtain⟨vs,H1,ds,I1,r,e1,hd,z,q⟩:=LO;rw[<- hd.len]at z;refine⟨by rw[<- r.length];exact z,?_⟩;have hf:H1 s1.heap.objs.size=none:=I1.Mh.fresh (Mw _);refine⟨.ref s1.heap.objs.size,L2.upd H1 s1.heap.objs.size (.tup vs),_,I1.laid (t':=s1.toks) (λb u e=>Oi _ e) (Mw _) ⟨z,us,r,⟨_,Qu _ rfl,rfl,_,rfl⟩⟩,rfl,e1.trans (au.upd hf),Den.tup (M6.of aV) (hd.same (au.upd hf)),q⟩
def Inv.N9(I:Inv X pins σ H s):X.K.lookup s.heap.objs.size=none:=by
 cases e:X.K.lookup s.heap.objs.size with
 |none=>rfl
 |some o=>exact absurd (Nn (I.Qa _ _ e)) (Su _)
def iF(h:Qn X es t):Mf X (.List es pos) (DU t):=by
 intro pins s σ H W ρ Q I rr hq;refine wpAny_List_spliced (LK (h pos pins s σ H W ρ _ I rr hq) λus s1 LO=>?_);obtain⟨vs,H1,ds,I1,r,e1,hd,z,q⟩:=LO;rw[<- hd.len]at z;refine⟨by rw[<- r.length];exact z,?_⟩;have hf:H1 s1.heap.objs.size=none:=I1.Mh.fresh (Mw _);exact⟨.ref s1.heap.objs.size,L2.upd H1 s1.heap.objs.size (.lst vs),_,I1.laid (t':=s1.toks) (λb u e=>Oi _ e) (Mw _) ⟨z,us,0,r,Qu _ rfl⟩,rfl,e1.trans (au.upd hf),
  Den.lst ((rr.same e1).fresh hf) (.new aV (Inv.N9 I1)) (hd.same (au.upd hf)),q⟩
end
abbrev DSp:=yas->(D->Prop)->(Value->Prop)->Prop
def aM(K:yac)(sp:DSp):Sp:=λvs H Q E=>∃(P:Addr->Prop) (ds:yas) (Qd:D->Prop) (Ed:Value->Prop),ku K H/\(∀a,P a->∃o,H a=some o)/\ag K (λt a=>t=true∨P a) H ds vs/\sp ds Qd Ed ∧
 (∀d v H',au H H'->Den K (λt a=>P a∨(t=true/\∃o,H a=some o)) H' d v->Qd d->Q v H')/\∀c a H',au H H'->Ed c->E c a H'
mutual
def aX:D->D
 |.tup ds=>.tup (bq ds)
 |.lst _ ds=>.lst false (bq ds)
 |.obj C ns ds=>.obj C ns (bq ds)
 |.Qm=>.Qm
 |.PW ks ds=>.PW ks (bq ds)
 |.Mj=>.Mj|.bl b=>.bl b|.int i=>.int i|.str x=>.str x|.exc c=>.exc c
def bq:yas->yas
 |[]=>[]
 |d::ds=>aX d::bq ds
end
section
variable{K:yac}{P:yak}{P':Addr->Prop}{H:Hp}
mutual
theorem Den.aX(h:∀t a,P' a->P t a):∀(d:D) (v:V),Den K P H d v->Den K (λt a=>t=true∨P' a) H (PD.aX d) v
 |.Mj,_,q=>by simpa only[Den,PD.aX]using q
 |.bl _,_,q=>by simpa only[Den,PD.aX]using q
 |.int _,_,q=>by simpa only[Den,PD.aX]using q
 |.str _,_,q=>by simpa only[Den,PD.aX]using q
 |.exc _,_,q=>by simpa only[Den,PD.aX]using q
 |.tup ds,_,q=>by simp only[Den,PD.aX]at q ⊢;obtain⟨a,vs,e,q1,q2⟩:=q;exact⟨a,vs,e,q1,ag.aX h ds vs q2⟩
 |.obj C ns ds,_,q=>by simp only[Den,PD.aX]at q ⊢;obtain⟨a,dx,vs,e,q1,l,k,q2⟩:=q;exact⟨a,dx,vs,e,q1,l,k,ag.aX h ds vs q2⟩
 |.Qm,_,q=>by simpa only[Den,PD.aX]using q
 |.PW ks ds,_,q=>by simp only[Den,PD.aX]at q ⊢;obtain⟨a,o,Mx,vs,e,q1,l,k,q2⟩:=q;exact⟨a,o,Mx,vs,e,q1,l,k,ag.aX h ds vs q2⟩
 |.lst t ds,_,q=>by simp only[Den,PD.aX]at q ⊢;obtain⟨a,vs,e,p,q1,q2⟩:=q;exact⟨a,vs,e,λz=>z.elim (λz=>by cases z) λz=>p (h t a z),.any q1.1,ag.aX h ds vs q2⟩
theorem ag.aX(h:∀t a,P' a->P t a):∀(ds:yas) (vs:yar),ag K P H ds vs->ag K (λt a=>t=true∨P' a) H (PD.bq ds) vs
 |[],_,q=>by simpa only[ag,PD.bq]using q
 |d::ds,_,q=>by simp only[ag,PD.bq]at q ⊢;obtain⟨v,r,e,h1,h2⟩:=q;exact⟨v,r,e,Den.aX h d v h1,ag.aX h ds r h2⟩
end
end
def Den.back{K:yac}{W:Own}{H H':Hp}{d:D}{v:V}(tr:∀t a,W.bad t a->∃o,H a=some o)(h:Den K (λt a=>W.bad false a∨(t=true/\∃o,H a=some o)) H' d v):Den K W.bad H' d v :=
 h.Ml λt a z=>by
  cases t with
  |false=>exact .inl z
  |true=>exact .inr ⟨rfl,tr true a z⟩
section
variable{X:Cx}{CX:CXT}{k:Nat}{f:Addr}{fd:FuncData}{ps:yah}{sp:DSp}{x:Str}{p pos:Pos}{e:Expr}{es:yai}{t:DA}
def qK(sp:DSp)(dds:yas)(t:DA):DE:=λρ Q=>t ρ λds=>sp (bq ds++dds) Q λ_=>False
def pO:D->V
 |.Mj=>.Mj|.bl b=>.bl b|.int i=>.int i|.str x=>.str x|_=>.Mj
def vw:D->Prop
 |.tup _=>False|.lst _ _=>False|.exc _=>False|.obj _ _ _=>False|.Qm=>False|.PW _ _=>False|_=>True
theorem ag.tN{K:yac}{P:yak}{H:Hp}:∀{dds:yas},(∀d∈dds,vw d)->ag K P H dds (dds.map pO)
 |[],_=>ag.nil
 |d::r,h=>by
  refine ag.cons ?_ (ag.tN λx hx=>h x (MO _ hx));have:=h d O0;cases d with
  |Mj=>exact Den.Mj
  |bl b=>exact Den.bl b
  |int i=>exact Den.int i
  |str x=>exact Den.str x
  |tup _=>exact this.elim
  |lst _ _=>exact this.elim
  |exc _=>exact this.elim
  |obj _ _ _=>exact this.elim
  |Qm=>exact this.elim
  |PW _ _=>exact this.elim
def Ky{dds:yas}(F:aJ X.prog X.w X.K X.mg X.base CX k f fd ps (aM X.K sp))(hr:bN k X.A)(hb:Binds X.K fd ps dsv)(hd:Vals (dds.map pO) dsv)(hs:∀d∈dds,vw d)(hx:Passes CX X E0)
 (I:Inv X pins σ H s) (rr:Rel X W H σ ρ) (r:Vals vs us) (Ni:ag X.K W.bad H ds vs)
  (q:sp (bq ds++dds) Q λ_=>False):wpAny (model X.prog X.w) X.A (call (.ref f) us) (DP X pins σ W H Q) X.xe s:=by
 refine LK (C3 (Q:=λv H'=>au H H'/\∃d,Den X.K W.bad H' d v/\Q d) F hr hb hd hx I r ⟨W.bad false,bq ds++dds,Q,λ_=>False,rr.tab,rr.tracked false,(ag.aX (λ_ _=>Own.QB) ds vs Ni).append (ag.tN hs),q,λd v H' e h1 h2=>⟨e,d,Den.back rr.tracked h1,h2⟩,λ_ _ _ _ z=>z.elim⟩)
  λu s2 MP=>(by obtain⟨v,H2,I2,r2,e2,d,h1,h2⟩:=MP;exact⟨v,H2,d,I2,r2,e2,h1,h2⟩)
def wD{dds:yas}(F:aJ X.prog X.w X.K X.mg X.base CX k f fd ps (aM X.K sp))(hr:bN k X.A)(hg:Gl X x)(hm:X.mg x=some (.ref f))(hk:PySem.W.keepIn X.K (.ref f)=true)(hb:Binds X.K fd ps dsv)(hd:Vals (dds.map pO) dsv)(hs:∀d∈dds,vw d)(hx:Passes CX X E0)
  (ha:Qn X (e::es) t) (Px:(x==("__debug__" : Str))=false:=by decide) (he:starEach (e::es) X.env=(false,eval e X.env)::starEach es X.env:=by rfl) (M9:(backTo pos (starEach es X.env)).any (·.1)=false:=by rfl) :
  Mf X (.Call (.Name x p) (e::es) [] pos) (qK sp dds t):=by
 intro pins s σ H W ρ Q I rr h;refine TP (jw I hg hm ?_ Px);refine PySem.W.callWith_K (h₀:=X.base) I.ok.mod.O9 hk (LK (ha pos pins s σ H W ρ _ I rr h) λus s1 ⟨vs,H1,ds,I1,r,e1,Ni,q⟩=>⟨I1.Qa,?_⟩) he M9;exact LK (Ky F hr hb hd hs hx I1 (rr.same e1) r Ni q) λ_ _ z=>z.up e1
def dCB(r:yas->(D->Prop)->Prop)(t:DA):DE:=λρ Q=>t ρ λds=>r ds Q
def dE(X:Cx)(f:Value)(r:yas->(D->Prop)->Prop):Prop :=
 ∀ (pins:yab) (s:Shared) (σ:St) (H:Hp) (W:Own) (ds:yas) (vs:yar) (us:yad) (Q:D->Prop),Inv X pins σ H s->(∀t a,W.bad t a->∃o,H a=some o)->Vals vs us->ag X.K W.bad H ds vs->r ds Q →
  wpAny (model X.prog X.w) X.A (call f us) (DP X pins σ W H Q) X.xe s
def dE.of{f:Value}{rd:yas->(D->Prop)->Prop}(h:j1 X f r)(k:∀P H ds vs Q,(∀t a,P t a->∃o,H a=some o)->ag X.K P H ds vs->rd ds Q->r vs H λv' H'=>au H H'/\∃d',Den X.K P H' d' v'/\Q d'):dE X f rd:=by intro pins s σ H W ds vs us Q I tr r hd q;exact LK (h pins s σ H vs us _ I r (k _ H ds vs Q tr hd q)) λ_ s2 MP=>(by obtain⟨w',H2,I2,r2,e2,d,hd,q2⟩:=MP;exact⟨w',H2,d,I2,r2,e2,hd,q2⟩)
variable{id T:String}{r:yas->(D->Prop)->Prop}
def aP (hc:dE X (.builtin id) r) (hg:Gl X x) (hm:X.mg x=none) (hv:bootBuiltins x=some (.builtin id)) (ha:Qn X (e::es) t) (hn:x ≠ "__name__" := by decide) (Px:(x==("__debug__" : Str))=false:=by decide)
  (OK:starEach (e::es) X.env=(false,eval e X.env)::starEach es X.env:=by rfl) (M9:(backTo pos (starEach es X.env)).any (·.1)=false:=by rfl) :
  Mf X (.Call (.Name x p) (e::es) [] pos) (dCB r t):=by
 intro pins s σ H W ρ Q I rr h;refine TP (fx I hg hm hv ?_ hn Px);exact PyProof.Rows.callWith_builtin1 (LK (ha pos pins s σ H W ρ _ I rr h) λus s1 MP=>(by obtain⟨vs,H1,ds,I1,rv,e1,hd,q⟩:=MP;exact LK (hc pins s1 σ H1 W ds vs us Q I1 (rr.same e1).tracked rv hd q) λ_ _ z=>z.up e1)) OK M9
def iE (hc:dE X (.type T) r) (hg:Gl X x) (hm:X.mg x=none) (hv:bootBuiltins x=some (.type T)) (ha:Qn X (e::es) t) (hn:x ≠ "__name__" := by decide) (Px:(x==("__debug__" : Str))=false:=by decide)
  (OK:starEach (e::es) X.env=(false,eval e X.env)::starEach es X.env:=by rfl) (M9:(backTo pos (starEach es X.env)).any (·.1)=false:=by rfl) :
  Mf X (.Call (.Name x p) (e::es) [] pos) (dCB r t):=by
 intro pins s σ H W ρ Q I rr h;refine TP (fx I hg hm hv ?_ hn Px);exact PyProof.Rows.callWith_type1 (LK (ha pos pins s σ H W ρ _ I rr h) λus s1 MP=>(by obtain⟨vs,H1,ds,I1,rv,e1,hd,q⟩:=MP;exact LK (hc pins s1 σ H1 W ds vs us Q I1 (rr.same e1).tracked rv hd q) λ_ _ z=>z.up e1)) OK M9
end
mutual
def Nv:D->PyData
 |.Mj=>.none
 |.bl b=>.bool b
 |.int i=>.int i
 |.str x=>.str x
 |.tup ds=>.tuple (b7 ds)
 |.lst _ ds=>.list (b7 ds)
 |.exc _=>.none
 |.obj _ _ _=>.none
 |.PW _ _=>.none
 |.Qm=>.none
def b7:yas->List PyData
 |[]=>[]
 |d::ds=>Nv d::b7 ds
end
mutual
def Q5:D->Bool
 |.tup ds=>l4 ds
 |.lst _ ds=>l4 ds
 |.exc _=>false
 |.obj _ _ _=>false
 |.PW _ _=>false
 |.Qm=>false
 |_=>true
def l4:yas->Bool
 |[]=>true
 |d::ds=>Q5 d && l4 ds
end
def eqD(x y:D):Bool:=PyData.eqv (Nv x) (Nv y)
def okD(x:D):Prop:=Q5 x=true/\SeqAt.shaped (Nv x)=true
section
variable{X:Cx}{pins:yab}{σ:St}{H:Hp}{s:Shared}{P:yak}
mutual
theorem d9(I:Inv X pins σ H s):∀(d:D) (v:V) (u:Value),Den X.K P H d v->RelV v u->Q5 d=true->∃as,Reads s.heap u (Nv d) as
 |.Mj,_,_,h,r,_=>by have e:=h.Uq;subst e;cases r;rw[Nv];exact⟨_,.none⟩
 |.bl b,_,_,h,r,_=>by have e:=h.Tc;subst e;cases r;rw[Nv];exact⟨_,.bool b⟩
 |.int i,_,_,h,r,_=>by have e:=h.MN;subst e;obtain⟨t,rfl⟩:=r;rw[Nv];exact⟨_,.int i t⟩
 |.str x,_,_,h,r,_=>by have e:=h.Ur;subst e;obtain⟨t,rfl⟩:=r;rw[Nv];exact⟨_,.str x t⟩
 |.tup ds,_,_,h,r,pl=>by rw[Q5]at pl;obtain⟨a,vs,e,hq,hd⟩:=h.Qc;subst e;cases r;obtain⟨LC,rv,⟨o,h1,h2,n,h3⟩,_⟩:=I.tuple hq.w;obtain⟨as,q⟩:=lO I ds vs LC hd rv pl;rw[Nv];exact⟨as,reads_tuple_at h1 h2 h3 (by simpa using q)⟩
 |.lst _ ds,_,_,h,r,pl=>by rw[Q5]at pl;obtain⟨a,vs,e,_,hq,hd⟩:=h.OJ;subst e;cases r;obtain⟨LC,rv,⟨o,n,h1,h2,_,h3⟩,_⟩:=I.list hq;obtain⟨as,q⟩:=lO I ds vs LC hd rv pl;rw[Nv];exact⟨_,reads_list_at h1 h2 h3 (by simpa using q)⟩
 |.exc _,_,_,_,_,pl=>by rw[Q5]at pl;cases pl
 |.obj _ _ _,_,_,_,_,pl=>by rw[Q5]at pl;cases pl
 |.PW _ _,_,_,_,_,pl=>by rw[Q5]at pl;cases pl
 |.Qm,_,_,_,_,pl=>by rw[Q5]at pl;cases pl
theorem lO(I:Inv X pins σ H s):∀(ds:yas) (vs:yar) (us:yad),ag X.K P H ds vs->Vals vs us->l4 ds=true->∃as,ReadsAll s.heap us (b7 ds) as
 |[],_,_,h,r,_=>by simp only[ag]at h;subst h;cases r;rw[b7];exact⟨_,.nil⟩
 |d::ds,_,_,h,r,pl=>by
  rw[l4,SU]at pl;simp only[ag]at h;obtain⟨v,r',rfl,h1,h2⟩:=h;cases r with
  |cons ra rb =>
   obtain⟨as,q⟩:=d9 I d v _ h1 ra pl.1;obtain⟨bs,q'⟩:=lO I ds _ _ h2 rb pl.2;rw[b7];exact⟨_,.cons q q'⟩
end
def JO:RD2:=λx y Q=>okD x/\okD y/\Q (.bl (eqD x y))
def JQ:RD2:=λx y Q=>okD x/\okD y/\Q (.bl (!eqD x y))
def vo(hu:X.A.units+64<cLine):Nq X (compareOp .Eq) JO:=by intro pins s σ H W x y v u vv uu Q I _ rv ru hx hy q;obtain⟨h1,h2,q⟩:=q;obtain⟨as,ra⟩:=d9 I x v vv hx rv h1.1;obtain⟨bs,rb⟩:=d9 I y u uu hy ru h2.1;exact eq_dataH ra rb h1.2 h2.2 hu ⟨.bl _,H,_,I,rfl,au.refl H,Den.bl _,q⟩
def AD(hu:X.A.units+64<cLine):Nq X (compareOp .NotEq) JQ:=by intro pins s σ H W x y v u vv uu Q I _ rv ru hx hy q;obtain⟨h1,h2,q⟩:=q;obtain⟨as,ra⟩:=d9 I x v vv hx rv h1.1;obtain⟨bs,rb⟩:=d9 I y u uu hy ru h2.1;exact ne_dataH ra rb h1.2 h2.2 hu ⟨.bl _,H,_,I,rfl,au.refl H,Den.bl _,q⟩
def bD:Nq X (compareOp .Eq) (gw λi j=>.bl (decide (i=j))):=Nq.of Kn λP H x y v u Q hx hy z=>by obtain⟨i,j,e1,e2,q⟩:=oG z;subst e1 e2;have a:=hx.MN;have b:=hy.MN;subst a b;refine⟨rfl,au.refl H,_,Den.bl _,?_⟩;rw[show decide (V.int i=V.int j)=decide (i=j)from by rw[n6];rfl];exact q
def iH:Nq X (compareOp .NotEq) (gw λi j=>.bl (!decide (i=j))):=Nq.of Ks λP H x y v u Q hx hy z=>by obtain⟨i,j,e1,e2,q⟩:=oG z;subst e1 e2;have a:=hx.MN;have b:=hy.MN;subst a b;refine⟨rfl,au.refl H,_,Den.bl _,?_⟩;rw[show decide (V.int i=V.int j)=decide (i=j)from by rw[n6];rfl];exact q
def lV:D->Bool
 |.Mj=>true
 |_=>false
def BS{K:yac}{d:D}{v:V}(h:Den K P H d v):decide (v=.Mj)=lV d:=by
 cases d with
 |Mj=>have:=h.Uq;subst this;rfl
 |bl b=>have:=h.Tc;subst this;rfl
 |int b=>have:=h.MN;subst this;rfl
 |str b=>have:=h.Ur;subst this;rfl
 |tup ds=>obtain⟨a,vs,e,_⟩:=h.Qc;subst e;rfl
 |lst _ ds=>obtain⟨a,vs,e,_⟩:=h.OJ;subst e;rfl
 |exc c=>obtain⟨a,e,_⟩:=h.V6;subst e;rfl
 |obj C ns ds=>obtain⟨a,dx,vs,e,_⟩:=h.V5;subst e;rfl
 |Qm=>obtain⟨a,e,_⟩:=h.Yo;subst e;rfl
 |PW ks ds=>obtain⟨a,_,_,vs,e,_⟩:=h.Yp;subst e;rfl
def rB:Nq X (compareOp .Is) (λx y Q=>y=.Mj/\Q (.bl (lV x))):=Nq.of JD λP H x y v u Q hx hy ⟨e,q⟩=>by subst e;refine⟨hy.Uq,au.refl H,_,Den.bl _,?_⟩;rw[BS hx];exact q
end
section
variable{X:Cx}
def vX:dE X (.builtin "abs") (λds Q=>∃i:Int,ds=[.int i]/\Q (.int (i.natAbs:Int))):=dE.of DJ λP H ds vs Q _ hd ⟨i,e,q⟩=>by
 subst e;obtain⟨v,r,rfl,h1,h2⟩:∃v r,vs=v::r/\Den X.K P H (.int i) v/\ag X.K P H [] r:=by simpa only[ag]using hd
 have e1:=h1.MN;have e2:r=[]:=by simpa only[ag]using h2
 subst e1 e2;refine⟨i,rfl,au.refl H,_,Den.int _,?_⟩;have:(if i<0 then -i else i)=(i.natAbs:Int):=by split<;>omega
 rw[this];exact q
def ve{K:yac}{P:yak}{H:Hp}{x y:D}{vs:yar}(h:ag K P H [x,y] vs):∃v u,vs=[v,u]/\Den K P H x v/\Den K P H y u:=by simp only[ag]at h;obtain⟨v,r,e,h1,u,r',e',h2,e''⟩:=h;subst e' e'' e;exact⟨v,u,rfl,h1,h2⟩
def n9{K:yac}{P:yak}{H:Hp}{x:D}{vs:yar}(h:ag K P H [x] vs):∃v,vs=[v]/\Den K P H x v:=by simp only[ag]at h;obtain⟨v,r,e,h1,e'⟩:=h;subst e' e;exact⟨v,rfl,h1⟩
def vY (hc:X.calm=true):dE X (.builtin "min") (λds Q=>∃i j:Int,ds=[.int i,.int j]/\Q (.int (min i j))):=dE.of (BA hc) λP H ds vs Q _ hd ⟨i,j,e,q⟩=>by
 subst e;obtain⟨v,u,rfl,h1,h2⟩:=ve hd;have e1:=h1.MN;have e2:=h2.MN;subst e1 e2;refine⟨i,j,rfl,au.refl H,_,Den.int _,?_⟩;have:(if j<i then j else i)=min i j:=by split<;>lia
 rw[this];exact q
def Ib (hc:X.calm=true):dE X (.builtin "max") (λds Q=>∃i j:Int,ds=[.int i,.int j]/\Q (.int (max i j))):=dE.of (Bz hc) λP H ds vs Q _ hd ⟨i,j,e,q⟩=>by
 subst e;obtain⟨v,u,rfl,h1,h2⟩:=ve hd;have e1:=h1.MN;have e2:=h2.MN;subst e1 e2;refine⟨i,j,rfl,au.refl H,_,Den.int _,?_⟩;have:(if j > i then j else i)=max i j:=by split<;>lia
 rw[this];exact q
def bK:dE X (.builtin "len") (λds Q=>∃xs,((∃t,ds=[.lst t xs])∨ds=[.tup xs])/\Q (.int (xs.length:Int))):=dE.of vV λP H ds vs Q _ hd ⟨xs,e,q⟩=>by
 rcases e with⟨tg,e⟩| e
 ·subst e;obtain⟨v,rfl,h1⟩:=n9 hd;obtain⟨a,ws,e,_,hq,hw⟩:=h1.OJ;subst e;refine⟨a,ws,rfl,.inl hq,au.refl H,_,Den.int _,?_⟩;rw[hw.len];exact q
 ·subst e;obtain⟨v,rfl,h1⟩:=n9 hd;obtain⟨a,ws,e,hq,hw⟩:=h1.Qc;subst e;refine⟨a,ws,rfl,.inr hq.w,au.refl H,_,Den.int _,?_⟩;rw[hw.len];exact q
def m6:dE X (.type "int") (λds Q=>(∃i:Int,ds=[.int i]/\Q (.int i))∨∃ k:Bool,ds=[.bl k]/\Q (.int (if k then 1 else 0))):=dE.of By λP H ds vs Q _ hd h=>by
 rcases h with⟨i,e,q⟩| ⟨k,e,q⟩
 ·subst e;obtain⟨v,rfl,h1⟩:=n9 hd;have e1:=h1.MN;subst e1;exact .inl ⟨i,rfl,au.refl H,_,Den.int _,q⟩
 ·subst e;obtain⟨v,rfl,h1⟩:=n9 hd;have e1:=h1.Tc;subst e1;exact .inr ⟨k,rfl,au.refl H,_,Den.int _,q⟩
noncomputable def Se:D->String
 |.Mj => "NoneType" | .bl _ => "bool" | .int _ => "int" | .str _ => "str" | .tup _ => "tuple" | .lst _ _ => "list" | .exc _ => "object" | .obj _ _ _ => "object" | .Qm => "dict" | .PW _ _ => "dict"
def TV:D->Value
 |.exc c=>.ref c
 |.obj C _ _=>.ref C
 |d=>.type (Se d)
variable{e:Expr}{te:DE}{p p' pos:Pos}{T:String}{x:Str}
def GA(x:bG P w H h a (.ins C dx fs)):∃od,PySem.W.InstAt h a (PySem.W.instObj C dx) C (some od):=by obtain⟨d,z,ne,ob,mA,n,r,q⟩:=x;obtain⟨od,hI,_⟩:=Dy.look ⟨ob,n,ne⟩;exact⟨od,hI⟩
def wW{Q:yaa}{b:Bool}(I:Inv X pins σ H s)(h:Den X.K P H d v)(r:RelV v u)
  (e:PySem.W.kitOne X.K (TV d) c=some b) (q:∀tk,Q (.bool b) {s with toks:=tk}):wpAny (model X.prog X.w) A (call (.builtin "isinstance") [u,c]) Q E s:=by
 cases d with
 |Mj=>have z:=h.Uq;subst z;cases r;exact PySem.W.kia_one PySem.W.kitx_none I.Qa True.intro e (λz=>nomatch z) q
 |bl y=>have z:=h.Tc;subst z;cases r;exact PySem.W.kia_one PySem.W.kitx_bool I.Qa True.intro e (λz=>nomatch z) q
 |int i=>have z:=h.MN;subst z;obtain⟨t,rfl⟩:=r;exact PySem.W.kia_one PySem.W.kitx_int I.Qa True.intro e (λz=>nomatch z) q
 |str y=>have z:=h.Ur;subst z;obtain⟨t,rfl⟩:=r;exact PySem.W.kia_one PySem.W.kitx_str I.Qa True.intro e (λz=>nomatch z) q
 |tup ds =>
  obtain⟨a,vs,z,hq,_⟩:=h.Qc;subst z;cases r;obtain⟨LC,rv,⟨o,h1,h2,n,h3⟩,_⟩:=I.tuple hq.w;exact PySem.W.kia_one PySem.W.kitx_tuple I.Qa ⟨o,h1,h2⟩ e (λz=>nomatch z) q
 |lst _ ds =>
  obtain⟨a,vs,z,_,hq,_⟩:=h.OJ;subst z;cases r;obtain⟨LC,rv,⟨o,n,h1,h2,_,h3⟩,_⟩:=I.list hq;exact PySem.W.kia_one PySem.W.kitx_list I.Qa ⟨o,h1,h2⟩ e (λz=>nomatch z) q
 |exc c' =>
  obtain⟨a,z,hq,k⟩:=h.V6;subst z;cases r;exact PySem.W.kia_one (Eh k) I.Qa (I.Mh a _ hq).1 e (λz=>nomatch z) q
 |obj C ns ds =>
  obtain⟨a,dx,vs,z,hq,_,k,_⟩:=h.V5;subst z;cases r;obtain⟨od,hI⟩:=GA (I.Mh a _ hq);exact PySem.W.kia_one (PySem.W.kitx_own k.pg k.hd k.at_ k.get k.takes k.obj) I.Qa hI e (λz=>nomatch z) q
 |Qm =>
  obtain⟨a,z,hq⟩:=h.Yo;subst z;cases r;exact PySem.W.kia_one PySem.W.kitx_dict I.Qa (I.Mh a _ hq).1 e (λz=>nomatch z) q
 |PW ks ds =>
  obtain⟨a,o,Mx,vs,z,hq,_⟩:=h.Yp;subst z;cases r;obtain⟨_,_,_,_,_,q',_,_,Te,hx,_⟩:=I.Mh a _ hq;exact PySem.W.kia_one PySem.W.kitx_dict I.Qa ⟨q',Te,hx.1⟩ e (λz=>nomatch z) q
def yo(K:yac)(S T:String):PySem.W.kitOne K (.type S) (.type T)=if S=T then some true else if PySem.W.kitMeta T=true then(fastBuiltinMro S).map (·.contains (.type T))else none:=by
 unfold PySem.W.kitOne PySem.W.kitCls PySem.W.subIn;by_cases h:S=T
 ·subst h;simp
 ·have:(Value.type S==Value.type T)=false:=by
   rw[beq_eq_false_iff_ne];intro e;injection e with e;exact h e
  rw[this,Lw Qv,Lw h]
def Ut (T:String) (d:D):Bool:=Se d==T || (Se d == "bool" && T == "int")
def kit_ans (K:yac) (d:D) (hk:∀c,d=.exc c->fN K c) (ho:∀C ns ds,d=.obj C ns ds->Aa K C) (hT:T = "int" ∨ T = "bool" ∨ T = "tuple" ∨ T = "list" ∨ T = "str"):PySem.W.kitOne K (TV d) (.type T)=some (Ut T d):=by
 by_cases hx:∃c,d=.exc c
 ·obtain⟨c,rfl⟩:=hx;show PySem.W.kitOne K (.ref c) (.type T)=_;rw[(hk c rfl).not T hT];show _=some ("object" == T || ("object" == "bool" && T == "int"));rcases hT with e|e|e|e|e<;>subst e<;>decide +kernel
 by_cases hy:∃C ns ds,d=.obj C ns ds
 ·obtain⟨C,ns,ds,rfl⟩:=hy;show PySem.W.kitOne K (.ref C) (.type T)=_;rw[(ho C ns ds rfl).not T hT];show _=some ("object" == T || ("object" == "bool" && T == "int"));rcases hT with e|e|e|e|e<;>subst e<;>decide +kernel
 have hv:TV d=.type (Se d):=by cases d<;>first|rfl|exact absurd ⟨_,rfl⟩ hx|exact absurd ⟨_,_,_,rfl⟩ hy
 rw[hv,yo];unfold Ut;have hS:Se d = "NoneType" ∨ Se d = "bool" ∨ Se d = "int" ∨ Se d = "str" ∨ Se d = "tuple" ∨ Se d = "list" ∨ Se d = "dict" := by cases d<;>first|exact absurd ⟨_,rfl⟩ hx|exact absurd ⟨_,_,_,rfl⟩ hy|simp[Se]
 generalize Se d=S at hS ⊢;rcases hT with e|e|e|e|e<;>subst e<;>rcases hS with e|e|e|e|e|e|e<;>subst e<;>decide +kernel
def dIs(T:String)(te:DE):DE:=λρ Q=>te ρ λd=>Q (.bl (Ut T d))
def j5 (hg:Gl X "isinstance") (hm:X.mg "isinstance" = none) (hgT:Gl X x) (hmT:X.mg x=none) (hv:bootBuiltins x=some (.type T)) (hT:T = "int" ∨ T = "bool" ∨ T = "tuple" ∨ T = "list" ∨ T = "str") (he:Mf X e te)
  (hn:x ≠ "__name__" := by decide) (Px:(x==("__debug__" : Str))=false:=by decide)
  (OK:starEach [e,.Name x p'] X.env=(false,eval e X.env)::starEach [.Name x p'] X.env:=by rfl) (Sf:starEach [.Name x p'] X.env=(false,eval (.Name x p') X.env)::starEach [] X.env:=by rfl) (V8:(backTo pos (starEach [.Name x p'] X.env)).any (·.1)=false:=by rfl) :
  Mf X (.Call (.Name "isinstance" p) [e,.Name x p'] [] pos) (dIs T te):=by
 intro pins s σ H W ρ Q I rr h;have Yr:PA X [e,.Name x p'] (rY (Ax X te) (rY (tC (.ty T)) E3)):=gT he.pe (gT (zD hgT hmT hv rfl hn Px) nG Sf) OK;refine TP (fx I hg hm boot_isinstance ?_ (by decide) (by decide));refine PyProof.Rows.callWith_builtin1 (LK (Yr pos pins s σ H (λvs H1=>∃v d,vs=[v,.ty T]/\au H H1/\Den X.K W.bad H1 d v/\Q (.bl (Ut T d))) I ⟨W,ρ,_,rr,h,λv H1 d e1 hd q1=>⟨v,d,rfl,e1,hd,q1⟩⟩) λus s1 LO=>?_) OK V8;obtain⟨vs,H1,I1,rv,v,d,ev,e1,hd,q1⟩:=LO;subst ev;cases rv with
 |cons r1 rr =>
  cases rr with
  |cons r2 rr =>
   cases rr;cases(show _=Value.type T from r2);exact wW I1 hd r1 (kit_ans X.K d (λc z=>by subst z;exact hd.V6.choose_spec.2.2) (λC ns ds z=>by subst z;obtain⟨_,_,_,_,_,_,k,_⟩:=hd.V5;exact k) hT) λtk=>⟨.bl _,H1,_,I1.tok tk,rfl,e1,Den.bl _,q1⟩
end
section
variable{X:Cx}{pos:Pos}
def TY.up(g:Mt W0 H0 W H)(h:TY X pins W H E f s'):TY X pins W0 H0 E f s':=by obtain⟨W',Mn,H',I,fw,q⟩:=h;exact⟨W',Mn,H',I,g.trans fw,q⟩
variable{st:Stmt}{rest:yal}{t u:DS}{e:Expr}{te:DE}
def Fn:DS:=λE ρ=>E.nx ρ
def kx(t u:DS):DS:=λE ρ=>t {E with nx:=u E} ρ
def aF:cO X [] Fn:=λ_ _ σ H W ρ E I r h=>W5 ⟨W,σ,H,I,Mt.refl W H,ρ,r,h⟩
def ai(h1:OF X st t)(h2:cO X rest u):cO X (st::rest) (kx t u):=by
 intro pins s σ H W ρ E I r h;refine wpAny_execs_cons (LK (h1 pins s σ H W ρ {E with nx:=u E} I r h) λf s1 LO=>?_);obtain⟨W',Mn,H',I',fw,q⟩:=LO;cases f with
 |next =>
  obtain⟨Ly,r',q⟩:=q;exact LK (h2 pins s1 Mn H' W' Ly E I' r' q) λ_ _ z=>z.up fw
 |ret v=>exact⟨W',Mn,H',I',fw,q⟩
 |brk=>exact⟨W',Mn,H',I',fw,q⟩
 |cont=>exact⟨W',Mn,H',I',fw,q⟩
def ak(h1:OF X st t):cO X [st] t:=by
 intro pins s σ H W ρ E I r h;refine wpAny_execs_cons (LK (h1 pins s σ H W ρ E I r h) λf s1 q=>?_);cases f with
 |next=>exact W5 q
 |ret v=>exact q
 |brk=>exact q
 |cont=>exact q
def Iy(te:DE):DS:=λE ρ=>te ρ E.rt
def av(he:Mf X e te):OF X (.Return (some e) pos) (Iy te):=by intro pins s σ H W ρ E I r h;exact wpAny_Return_some (LK (he pins s σ H W ρ _ I r h) λu s1 MP=>(by obtain⟨v,H1,d,I1,r1,e1,hd,q1⟩:=MP;exact⟨W,σ,H1,I1,Mt.same e1,v,d,r1,hd,q1⟩))
def Ip(c:DT)(t u:DS):DS:=λE ρ=>c ρ λb=>if b=true then t E ρ else u E ρ
def aQ(hc:Q4 X c tc)(ha:cO X a t)(hb:cO X b u):OF X (.If c a b pos) (Ip tc t u):=by
 intro pins s σ H W ρ E I r h;refine wpAny_If (LK (hc pins s σ H W ρ _ I r h) λd s1 LO=>?_);obtain⟨H1,I1,e1,q1⟩:=LO;cases d with
 |true=>exact LK (ha pins s1 σ H1 W ρ E I1 (r.same e1) q1) λ_ _ z=>z.up (Mt.same e1)
 |false=>exact LK (hb pins s1 σ H1 W ρ E I1 (r.same e1) q1) λ_ _ z=>z.up (Mt.same e1)
def Rel.put{X:Cx}{i:Nat}(r:Rel X W H σ ρ)(hi:i<σ.length)(hd:Den X.K W.bad H d v):Rel X (W.drop i) H (σ.set i (some v)) (ρ.set i (some (.val d))) where
 val:=λj x h=>by
  by_cases hj:j=i
  ·subst hj;refine⟨v,by simp[hi],?_⟩;by_cases hl:j<ρ.length
   ·rw[TL hl]at h;cases h;exact hd.Ml λ_ _=>Own.MF
   ·rw[List.getElem?_eq_none (by simpa using hl)]at h;cases h
  ·rw[Qi (Ne.symm hj)]at h;obtain⟨w,h1,h2⟩:=r.val j x h;exact⟨w,by rw[Qi (Ne.symm hj)];exact h1,h2.Ml λ_ _=>Own.MF⟩
 own:=λj x h=>by
  by_cases hj:j=i
  ·subst hj;by_cases hl:j<ρ.length
   ·rw[TL hl]at h;cases h
   ·rw[List.getElem?_eq_none (by simpa using hl)]at h;cases h
  ·rw[Qi (Ne.symm hj)]at h;obtain⟨a,vs,h1,h2,h3,h4⟩:=r.own j x h;exact⟨a,vs,by show(if j=i then none else W.O j)=_;rw[Lw hj];exact h1,by rw[Qi (Ne.symm hj)];exact h2,h3,by rw[W4];exact h4.Ml (λ_ _=>Own.MF) (Own.Pz hi)⟩
 inj:=λj k a h1 h2=>by
  have Nc:(if j=i then none else W.O j)=some a:=h1;have OO:(if k=i then none else W.O k)=some a:=h2;by_cases e1:j=i
  ·rw[Lx e1]at Nc;cases Nc
  ·by_cases e2:k=i
   ·rw[Lx e2]at OO;cases OO
   ·rw[Lw e1]at Nc;rw[Lw e2]at OO;exact r.inj j k a Nc OO
 kn:=λj a h1=>by
  have Nc:(if j=i then none else W.O j)=some a:=h1;by_cases e1:j=i
  ·rw[Lx e1]at Nc;cases Nc
  ·rw[Lw e1]at Nc;exact r.kn j a Nc
 ke:=λj a h1=>by
  have Nc:(if j=i then none else W.O j)=some a:=h1;by_cases e1:j=i
  ·rw[Lx e1]at Nc;cases Nc
  ·rw[Lw e1]at Nc;exact r.ke j a Nc
 bt:=r.bt
 st:=r.st
 ent:=r.ent
 tab:=r.tab
theorem Mt.drop(W:Own)(H:Hp)(i:Nat):Mt W H (W.drop i) H:=⟨rfl,rfl,λ_ _ _ h _=>h,λj a h=>by
 have h':(if j=i then none else W.O j)=some a:=h;by_cases e1:j=i
 ·rw[Lx e1]at h';cases h'
 ·rw[Lw e1]at h';exact .inl ⟨j,h'⟩,λ_ ps h=>⟨#[],by rw[h];simp⟩,id⟩
def Inv.Sy{i:Nat}{x:Str}(I:Inv X pins σ H s)(hi:X.N[i]?=some x):i<σ.length:=by rw[I.len];exact(OC.mp hi).1
def DV(i:Nat)(te:DE):DS:=λE ρ=>te ρ λd=>E.nx (ρ.set i (some (.val d)))
def ay{x:Str}(i:Nat)(hN:X.N.Nodup)(he:Mf X e te)(hi:X.N[i]?=some x:=by rfl)(hx:Loc X.env.scope x:=by first|exact Or.inl rfl|exact Or.inr rfl)(hs:swapsWith e (some (.Name x pos')) pos.line X.env=pure false:=by rfl)
  (hf:X.fn x=true∨X.env.scope.names.lookup x=some .local:=by first|exact .inl rfl|exact .inr rfl|assumption):OF X (.Assign [.Name x pos'] e pos) (DV i te):=by
 intro pins s σ H W ρ E I r h;refine wpAny_Assign_Name (LK (he pins s σ H W ρ _ I r h) λu s1 LO=>?_) hs;obtain⟨v,H1,d,I1,r1,e1,hd,q1⟩:=LO;exact eO I1 hN hi hx r1 (λs2 I2=>⟨W.drop i,_,H1,I2,(Mt.same e1).trans (Mt.drop W H1 i),_,(r.same e1).put (Inv.Sy I1 hi) hd,q1⟩) hf
def OF.of{t:DS}(h:PS X st ts)(k:∀σ H W ρ E,Rel X W H σ ρ->σ.length=X.N.length->t E ρ->ts ⟨(λMn H'=>∃W' Ly,Mt W H W' H'/\Rel X W' H' Mn Ly/\E.nx Ly),(λv H'=>∃W' d,Mt W H W' H'/\Den X.K W'.bad H' d v/\E.rt d),
   (λMn H'=>∃W' Ly,Mt W H W' H'/\Rel X W' H' Mn Ly/\E.bk Ly),(λMn H'=>∃W' Ly,Mt W H W' H'/\Rel X W' H' Mn Ly/\E.ct Ly)⟩ σ H):OF X st t:=by
 intro pins s σ H W ρ E I r ht;refine LK (h pins s σ H _ I (k σ H W ρ E r I.len ht)) λf s1 q=>?_
 cases f with
 |next=>obtain⟨Mn,H',I',W',Ly,fw,r',q⟩:=q;exact⟨W',Mn,H',I',fw,Ly,r',q⟩
 |brk=>obtain⟨Mn,H',I',W',Ly,fw,r',q⟩:=q;exact⟨W',Mn,H',I',fw,Ly,r',q⟩
 |cont=>obtain⟨Mn,H',I',W',Ly,fw,r',q⟩:=q;exact⟨W',Mn,H',I',fw,Ly,r',q⟩
 |ret u=>obtain⟨v,Mn,H',I',rv,W',d,fw,hd,q⟩:=q;exact⟨W',Mn,H',I',fw,v,d,rv,hd,q⟩
def IE(c:DT)(tb:DS):DS:=λE ρ=>∃W:Nat->Ro->Prop,(∃m,W m ρ)/\∀m ρ,W m ρ->c ρ λb=>if b=true then tb {E with nx:=λLy=>∃m',m'<m/\W m' Ly,ct:=λLy=>∃m',m'<m/\W m' Ly,bk:=E.nx} ρ else E.nx ρ
def pN(hp:PassesOwn (model X.prog X.w) X.A X.env X.xe)(hc:Q4 X c tc)(hb:cO X body tb):OF X (.While c body [] pos) (IE tc tb):=by
 intro pins s σ H W ρ E I r h;obtain⟨Wd,⟨m0,w0⟩,turn⟩:=h;refine wpAny_While (codeAny_whileLoop (λn s'=>∃W' Mn H' Ly,Inv X pins Mn H' s'/\Mt W H W' H'/\Rel X W' H' Mn Ly/\Wd n Ly) ?_ m0 ⟨W,σ,H,ρ,I,Mt.refl W H,r,w0⟩);rintro n s1 ⟨W1,Ys,H1,Ph,I1,fw1,r1,w1⟩;refine VR hp (LK (hc pins s1 Ys H1 W1 Ph _ I1 r1 (turn n Ph w1)) λb s2 LO=>?_);obtain⟨H2,I2,e2,q2⟩:=LO;have Yt:=fw1.trans (Mt.same (W:=W1) e2);cases b with
 |true =>
  rw[Lx rfl]at q2;rw[Lx rfl];refine VR hp (LK (hb pins s2 Ys H2 W1 Ph _ I2 (r1.same e2) q2) λf s3 q3=>?_);obtain⟨W3,Sz,H3,I3,TZ,q3⟩:=q3;cases f with
  |next =>
   obtain⟨Sg,r3,m',hm,w3⟩:=q3;exact⟨m',hm,W3,Sz,H3,Sg,I3,Yt.trans TZ,r3,w3⟩
  |cont =>
   obtain⟨Sg,r3,m',hm,w3⟩:=q3;exact⟨m',hm,W3,Sz,H3,Sg,I3,Yt.trans TZ,r3,w3⟩
  |brk=>exact⟨W3,Sz,H3,I3,Yt.trans TZ,q3⟩
  |ret v=>exact⟨W3,Sz,H3,I3,Yt.trans TZ,q3⟩
 |false =>
  rw[Lw Qv]at q2;rw[Lw Qv];exact W5 ⟨W1,Ys,H2,I2,Yt,Ph,r1.same e2,q2⟩
def IZ{X:Cx}(r:Rel X W H σ ρ)(f:Mt W H W' H')(a:Addr)(o:HO)(n:TX o)(q:H a=some o):H' a=some o :=
 f.kp a _ (λi z=>by obtain⟨_,_,o',q',m⟩:=r.kn i a z;rw[q]at q';cases q';exact m.sol n) q n.nt
def IY{X:Cx}(r:Rel X W H σ ρ)(f:Mt W H W' H')(a:Addr)(vs:yar)(q:M6 X.K H a vs):M6 X.K H' a vs:=by
 exact f.keep a _ (λi e=>by obtain⟨_,_,o',q',m⟩:=r.kn i a e;have q2:H a=some (.tup vs):=q;rw[q']at q2;cases q2;exact m) q
def IX{X:Cx}(r':Rel X W' H' Mn Ly)(f:Mt W H W' H')(t:Bool)(a:Addr)(vs:yar)(p:¬W.bad t a)(q:OI X.K H t a vs):¬W'.bad t a/\OI X.K H' t a vs:=by
 have no:∀i,W.O i≠some a:=λi e=>p (.inr (.inl ⟨i,e⟩))
 refine⟨λb=>?_,?_,λz=>⟨f.keep a _ no (q.2 z).1,(q.2 z).2⟩⟩
 ·rcases b with b|⟨i,b⟩| ⟨e,b⟩
  ·rw[f.B]at b;exact p (.inl b)
  ·rcases f.new i a b with⟨j,z⟩| z
   ·exact no j z
   ·rcases q.1 with(q|⟨o,q⟩)|⟨o,LC,n,q,_⟩
    ·rw[z]at q;cases q
    ·rw[z]at q;cases q
    ·rw[(r'.kn i a b).1]at q;cases q
  ·rw[f.S]at b;exact p (.inr (.inr ⟨e,b⟩))
 ·rcases q.1 with(q|⟨o,q⟩)|q
  ·exact .inl (.inl (f.keep a _ no q))
  ·exact .inl (.inr ⟨o,f.keep a _ no q⟩)
  ·exact .inr q
def Den.fwd{X:Cx}(r:Rel X W H σ ρ)(r':Rel X W' H' Mn Ly)(f:Mt W H W' H')(h:Den X.K W.bad H d v):Den X.K W'.bad H' d v :=
 Den.map (IY r f) (IX r' f) (IZ r f) d v h
abbrev DG:=D->Ro->(Ro->Prop)->Prop
def Vd(X:Cx)(target:Expr)(g:DG):Prop :=
 ∀ (pins:yab) (s:Shared) (σ:St) (H:Hp) (W:Own) (ρ:Ro) (d:D) (v:V) (u:Value) (Q:Ro->Prop),Inv X pins σ H s->Rel X W H σ ρ->RelV v u->Den X.K W.bad H d v->g d ρ Q →
  wpAny (model X.prog X.w) X.A (assign target X.env u) (λ_ s'=>∃W' Mn H' Ly,Inv X pins Mn H' s'/\Mt W H W' H'/\Rel X W' H' Mn Ly/\Q Ly) X.xe s
abbrev Uu:=yas->Ro->(Ro->Prop)->Prop
def vL(X:Cx)(ts:yai)(t:Uu):Prop :=
 ∀ (pins:yab) (s:Shared) (σ:St) (H:Hp) (W:Own) (ρ:Ro) (ds:yas) (vs:yar) (us:yad) (Q:Ro->Prop),Inv X pins σ H s->Rel X W H σ ρ->Vals vs us->ag X.K W.bad H ds vs->t ds ρ Q →
  wpAny (model X.prog X.w) X.A (assignInOrder ((assignEach ts X.env).map (·.2)) us) (λ_ s'=>∃W' Mn H' Ly,Inv X pins Mn H' s'/\Mt W H W' H'/\Rel X W' H' Mn Ly/\Q Ly) X.xe s
theorem ag.fwd{X:Cx}(r:Rel X W H σ ρ)(r':Rel X W' H' Mn Ly)(f:Mt W H W' H'):∀{ds:yas} {vs:yar},ag X.K W.bad H ds vs->ag X.K W'.bad H' ds vs
 |[],_,h=>by simpa only[ag]using h
 |d::ds,_,h=>by simp only[ag]at h ⊢;obtain⟨v,q,e,h1,h2⟩:=h;exact⟨v,q,e,Den.fwd r r' f h1,ag.fwd r r' f h2⟩
def qU(i:Nat):DG:=λd ρ Q=>Q (ρ.set i (some (.val d)))
def bf{x:Str}(i:Nat)(hN:X.N.Nodup)(hi:X.N[i]?=some x:=by rfl)(hx:Loc X.env.scope x:=by first|exact Or.inl rfl|exact Or.inr rfl)
  (hf:X.fn x=true∨X.env.scope.names.lookup x=some .local:=by first|exact .inl rfl|exact .inr rfl|assumption):Vd X (.Name x pos) (qU i):=by
 intro pins s σ H W ρ d v u Q I r rv hd h;exact wpAny_assign_Name (eO I hN hi hx rv (λs' I'=>⟨W.drop i,_,H,_,I',Mt.drop W H i,r.put (Inv.Sy I hi) hd,h⟩) hf)
def ow:Uu:=λds ρ Q=>ds=[]/\Q ρ
def cY(g:DG)(u:Uu):Uu:=λds ρ Q=>∃d r,ds=d::r/\g d ρ λLy=>u r Ly Q
def zh:vL X [] ow:=by intro pins s σ H W ρ ds vs us Q I r rv hd h;obtain⟨e,h⟩:=h;subst e;simp only[ag]at hd;subst hd;cases rv;exact assignInOrder_nil ⟨W,σ,H,ρ,I,Mt.refl W H,r,h⟩
def fT{e:Expr}{u:Uu}(h1:Vd X e g)(h2:vL X es u)(hs:(assignEach (e::es) X.env).map (·.2)=assign e X.env::(assignEach es X.env).map (·.2):=by rfl):vL X (e::es) (cY g u):=by
 intro pins s σ H W ρ ds vs us Q I r rv hd h;obtain⟨d,dr,e1,h⟩:=h;subst e1;simp only[ag]at hd;obtain⟨v,vr,e2,Uv,hd2⟩:=hd;subst e2;cases rv with
 |cons ra rb =>
  rw[hs];refine assignInOrder_cons (LK (h1 pins s σ H W ρ d v _ _ I r ra Uv h) λ_ s1 LO=>?_);obtain⟨W1,Ys,H1,Ph,I1,f1,r1,q1⟩:=LO;exact LK (h2 pins s1 Ys H1 W1 Ph dr vr _ Q I1 r1 rb (ag.fwd r r1 f1 hd2) q1) λ_ s2 MP=>(by obtain⟨W2,Xh,H2,NP,I2,f2,r2,q2⟩:=MP;exact⟨W2,Xh,H2,NP,I2,f1.trans f2,r2,q2⟩)
def wV{h:Heap}(hl:h.IsList l items)(hs:Heap.SameBut it h h')(NK:l≠it):h'.IsList l items:=by obtain⟨o,ho,r⟩:=hl;exact⟨o,(hs.2 l NK).trans ho,r⟩
theorem uf{it l:Addr}(NK:l≠it):∀(n i:Nat) (s:Shared) (Q:yad->Shared->Prop),s.heap.IsListIter it l i->s.heap.IsList l items->i+n<=items.size →
  (∀h',h'.IsListIter it l (i+n)->Heap.SameBut it s.heap h'->Q ((items.toList.drop i).take n) {s with heap:=h'})->wpAny (model prog w) A (draw (.ref it) n) Q E s
 |0,i,s,Q,hit,_,_,hQ=>by show wpAny _ _ (pure []) Q E s;exact Ma (by simpa using hQ s.heap hit (Heap.SameBut.refl ..))
 |n+1,i,s,Q,hit,hl,hle,hQ=>by
  have NZ:i<items.size:=by omega
  show wpAny _ _ (pyNext (.ref it) >>= _) Q E s;refine LA (wpAny_pyNext_list_item hit hl (x:=items[i]) (by simp[NZ]) λPa Rq Q6=>?_);refine LA (QN (uf NK n (i+1) _ _ Rq (wV hl Q6 NK) (by omega) λRn V9 Yu=>Ma ?_));have hd:items.toList.drop i=items[i]::items.toList.drop (i+1):=by simp[Ub,NZ]
  have:=hQ Rn (by rw[show i+(n+1)=i+1+n by omega];exact V9) (Q6.trans Yu);rw[hd,List.take_succ_cons]at this;exact this
def qq{A:Around}{s:Shared}{Q:yad->Shared->Prop}(hh:A.handled=none)(hl:s.heap.IsList l items)
  (hQ:∀h',Heap.ExtBut s.heap.objs.size s.heap h'->Q items.toList {s with heap:=h'}):wpAny (model prog w) A (unpackItems (.ref l) items.size none) Q E s:=by
 have NZ:l≠s.heap.objs.size:=by obtain⟨o,ho,_⟩:=hl;exact O6 (Nn ho)
 unfold unpackItems;refine LA ?_
 ·unfold notIterableAtAll;refine LA (wpAny_specialOf hl.typeIs F.slot_list_iter.lookup ?_);refine Ma ?_;simp only[QL,if_false];refine LA (QN (wpAny_pyIter_list hl ?_));have hl0:(s.heap.push {cls:=.type "list_iterator", data:=.fields #[.ref l,rawInt 0]}).IsList l items:=by
   obtain⟨o,ho,r⟩:=hl;exact⟨o,Oi _ ho,r⟩
  refine LA (QN (uf NZ items.size 0 _ _ ⟨_,Qu _ rfl,rfl,rfl⟩ hl0 (by lia) λPa Rq Q6=>?_));have NA:List.take items.size (List.drop 0 items.toList)=items.toList:=by rw[X3];exact Rk (by simp)
  rw[NA];rw[Lw (by simp)];have Yv:Pa.IsList l items:=wV hl0 Q6 NZ;refine LA (QN (wpAny_pyNext_list_end hh Rq Yv (by simp) λRn Yw=>?_));simp only[Option.isSome_none,QL,if_false];refine Ma (hQ Rn λb o hb e=>Yw b o hb (Q6.extBut b o hb (Oi _ e)))
def oz(n:Nat)(t:Uu):DG:=λd ρ Q=>∃ds,(d=.tup ds∨∃ t,d=.lst t ds)/\ds.length=n/\t ds ρ Q
def Ca{t:Uu}{n:Nat}(hc:X.calm=true)(h:vL X es t)(hn:(assignEach es X.env).length=n:=by rfl)(OK:(assignEach es X.env).findIdx? (·.1)=none:=by rfl):Vd X (.Tuple es k pos) (oz n t):=by
 intro pins s σ H W ρ d v u Q I r rv hd hw;obtain⟨ds,ed,hl,hw⟩:=hw;rcases ed with ed|⟨tg,ed⟩
 ·subst ed;obtain⟨a,vs,e1,hq,Ni⟩:=hd.Qc;subst e1;cases rv;obtain⟨LC,Yx,ht,hz⟩:=I.tuple hq.w;refine assign_Tuple_tuple (I.ok.hd hc) ht (by simp[hn,<- hl,<- Yx.length,Ni.len]) OK λh' hx=>?_
  have I1:Inv X pins σ H {s with heap:=h'}:=I.kept (t':=s.toks) λb o e=>hx b o (O6 (Nn e)) e
  exact h pins _ σ H W ρ ds vs _ Q I1 r (by simpa using Yx) Ni hw
 ·subst ed;obtain⟨a,vs,e1,_,hq,Ni⟩:=hd.OJ;subst e1;cases rv;obtain⟨LC,Yx,ht,hz⟩:=I.list hq;rw[assign_Tuple];refine LA (wpAny_standAt ?_);unfold unpack;rw[OK,show(assignEach es X.env).length=LC.toArray.size by simp[hn,<- hl,<- Yx.length,Ni.len]];refine LA (QN (qq (I.ok.hd hc) ht.isList λh' hx=>?_));have I1:Inv X pins σ H {s with heap:=h'}:=I.kept (t':=s.toks) λb o e=>hx b o (O6 (Nn e)) e
  exact h pins _ σ H W ρ ds vs _ Q I1 r (by simpa using Yx) Ni hw
def YD(K:yac)(W:Own)(H:Hp)(J:It)(ds:yas):Prop:=∀(P':yak) (H':Hp),(∀a vs,M6 K H a vs->M6 K H' a vs)->(∀t a vs,¬W.bad t a->OI K H t a vs->¬P' t a/\OI K H' t a vs)->(∀a o,TX o->H a=some o->H' a=some o)->∀i,(i<ds.length->J.go i H')/\(∀x H3,J.yld i H' x H3->i<ds.length->au H' H3/\∃d,ds[i]?=some d/\Den K P' H3 d x)/\(ds.length<=i->J.stop i H')
def T1(X:Cx)(tg iter:Expr)(wi:DA):Prop :=
 ∀ (pins:yab) (s:Shared) (σ:St) (H:Hp) (W:Own) (ρ:Ro) (R:yas->Prop),Inv X pins σ H s->Rel X W H σ ρ->wi ρ R →
  wpAny (model X.prog X.w) X.A (eval iter X.env) (λv s1=>wpAny (model X.prog X.w) X.A (pyIter v) (λS9 s2=>∃(it:Addr) (fp:yae) (tn:Nat->Heap->Prop) (J:It) (H':Hp) (ds:yas),S9=.ref it/\Inv X pins σ H' s2/\au H H' ∧
   Turn X.prog X.w X.K tg J fp it tn/\tn 0 s2.heap/\(∀b∈fp,fO X pins H' b)/\YD X.K W H' J ds/\R ds) X.xe s1) X.xe s
def T1.of{wd:DA}(h:PI X tg iter wi)(k:∀σ H W ρ R,Rel X W H σ ρ->wd ρ R->wi σ H λJ H'=>au H H'/\∃ds,YD X.K W H' J ds/\R ds):T1 X tg iter wd:=by
 intro pins s σ H W ρ R I r hw;refine LK (h pins s σ H _ I (k σ H W ρ R r hw)) λv s1 h1=>LK h1 λS9 s2 h2=>?_
 obtain⟨it,fp,tn,J,H',e,I2,T,st,f2,e2,ds,y,q⟩:=h2;exact⟨it,fp,tn,J,H',ds,e,I2,e2,T,st,f2,y,q⟩
def Fm(ti:DE):DA:=λρ R=>ti ρ λd=>∃t ds,d=.lst t ds/\R ds
def aY(h:Mf X iter ti):T1 X tg iter (Fm ti):=by
 refine T1.of (Hc h.pe) λσ H W ρ R r hw=>⟨W,ρ,_,r,hw,λv H1 d e1 hd q=>?_⟩
 obtain⟨tg',ds,rfl,q⟩:=q;obtain⟨a,vs,rfl,na,hq,Ni⟩:=hd.Td;refine⟨a,rfl,⟨vs,hq.1⟩,e1,ds,?_,q⟩;intro P' H' hT hL hX i;have Te:SqL X.K H' a vs:=(hL _ a vs na hq).2.1;have hl:=Ni.len;refine⟨λhi=>?_,λx H3 y hi=>?_,λhi=>⟨vs,Te,by lia⟩⟩
 ·obtain⟨v,hv,_⟩:=Ni.get (i:=i) (d:=ds[i]) (by simp[hi]);exact⟨vs,v,Te,hv⟩
 ·obtain⟨e3,y⟩:=y;subst e3;obtain⟨d,h1,h2⟩:=Ni.b5 (y vs Te);exact⟨au.refl _,d,h1,Den.map hT hL hX d _ h2⟩
noncomputable def iU(lo step:Int)(n:Nat):yas:=(List.range n).map λ(i:Nat)=>D.int (lo+i*step)
def ET(lo step:Int)(n:Nat):(iU lo step n).length=n:=by simp[iU]
def ES{lo step:Int}{n i:Nat}(h:i<n):(iU lo step n)[i]?=some (D.int (lo+i*step)):=by simp[iU,h]
def HU(lo c:Int)(n:Nat):It:=⟨λi _=>i<n,λi H x H'=>H'=H/\x=.int (lo+i*c),λi _=>n<=i⟩
def Fc(K:yac)(W:Own)(H:Hp)(lo c:Int)(n:Nat):YD K W H (HU lo c n) (iU lo c n):=λP' H' _ _ _ i=>by rw[ET];refine⟨λh=>h,λx H3 y hi=>?_,λh=>h⟩;obtain⟨e,ex⟩:=y;subst e ex;exact⟨au.refl _,_,ES hi,Den.int _⟩
def yO{P:Program}{w:World}{K:yac}{tg:Expr}(it:Addr)(lo c:Int)(n:Nat):Turn P w K tg (HU lo c n) [it] it (λi h=>IsRangeIter h it (lo+(i:Nat)*c) ((n:Int) - (i:Nat)) c) where
 mem:=by simp
 obj:=λi h st b hb=>by
  have e:b=it:=by simpa using hb
  subst e;exact⟨_,st,λv z=>by have z':Data.fields _=Data.cell v:=z;cases z'⟩
 keep:=λi h h' st k=>k it (by simp) _ st
 item:=by
  intro X hP hw hK hc i pins s σ H E I hf st hg;subst hP hw hK;obtain⟨f0,f1,f2,f3,f4,f5⟩:=hf it (by simp);have W:=Walks.range (prog:=X.prog) (w:=X.w) (I.ok.hd hc) it lo c n;refine W.item i s _ _ hg st λv h' tk hv st' kk=>?_
  obtain⟨t,rfl⟩:=hv;have I1:Inv X pins σ H {s with heap:=h',toks:=tk}:=I.turned (λb o hb e=>kk b o (by simpa using hb) e) f0 f1 f3 f4 f5;exact⟨_,rfl,Fx (s:={s with heap:=h',toks:=tk}) (n := "range_iterator") st' rfl rfl (by decide) ⟨.int (lo+i*c),H,I1,⟨t,rfl⟩,⟨rfl,rfl⟩,st',λb hb=>(hf b hb).1⟩⟩
 done:=by intro X hP hw hK hc i pins s σ H E I hf st hg;subst hP hw hK;obtain⟨f0,f1,f2,f3,f4,f5⟩:=hf it (by simp);exact wpAny_pyNext_range_end (I.ok.hd hc) st (by have:n<=i:=hg;lia) λh' eb=>⟨rfl,I.turned (t':=s.toks) (λb o hb e=>eb b o hb e) f0 f1 f3 f4 f5⟩
 self:=λ_ _ _ _ _ st h=>wpAny_pyIter_rangeiter st h
def jK(lo hi c:Int):Nat:=(Builtin.Range.rangeSize lo hi c).toNat
def C7{a b c:Int}(ha:-(2 ^ 40)<=a)(SA:a<2 ^ 40)(hb:-(2 ^ 40)<=b)(T4:b<2 ^ 40)(hc:0<c)(RO:c<2 ^ 20):Builtin.Range.small a b c=true/\0<=Builtin.Range.rangeSize a b c:=by
 have hd:a<b->0<=(b - a - 1) / c/\(b - a - 1) / c<=b - a - 1:=λh=>⟨Int.ediv_nonneg (by lia) (by lia),Int.ediv_le_self _ (by lia)⟩
 have hm:a<b->(b - a - 1) / c*c<=b - a - 1:=λh=>Int.ediv_mul_le _ (by lia)
 unfold Builtin.Range.small Builtin.Range.rangeSize;rw[Lx (show c > 0 from hc)];by_cases h:a<b
 ·obtain⟨h1,h2⟩:=hd h;have h3:=hm h;rw[Lx h];generalize (b - a - 1) / c=q at h1 h2 h3 ⊢;have h4:0<=q*c:=M3 h1 (by lia);simp only[Builtin.Range.rangeFitsLong,SU,Bool.or_eq_true,decide_eq_true_eq,beq_iff_eq];have e:(q+1 - 1)*c=q*c:=by rw[Int.add_sub_cancel]
  have e':(q+1)*c=q*c+c:=by rw[Int.add_mul,RM]
  constructor
  ·rw[Lx (show c > 0 from hc)];simp only[SU,decide_eq_true_eq]
   lia
  ·lia
 ·rw[Lw h];simp only[Builtin.Range.rangeFitsLong,SU,Bool.or_eq_true,decide_eq_true_eq,beq_iff_eq];constructor
  ·simp;lia
  ·exact Np _
def uy{R:yas->Prop}{lo hi c:Int}{t u:Tok}{tk:Nat}(I:Inv X pins σ H s)(h1:-(2 ^ 40)<=lo)(h2:lo<2 ^ 40)(h3:-(2 ^ 40)<=hi)(h4:hi<2 ^ 40)(h5:0<c)(h6:c<2 ^ 20)
  (q:R (iU lo c (jK lo hi c))):wpAny (model X.prog X.w) X.A (pyIter (.ref s.heap.objs.size)) (λS9 s2=>∃(it:Addr) (fp:yae) (tn:Nat->Heap->Prop) (J:It) (H':Hp) (ds:yas),S9=.ref it/\Inv X pins σ H' s2/\au H H' ∧
   Turn X.prog X.w X.K tg J fp it tn/\tn 0 s2.heap/\(∀b∈fp,fO X pins H' b)/\YD X.K W H' J ds/\R ds) E {s with heap:=s.heap.push {cls:=.type "range", data:=.fields #[.int lo t,.int hi u,.int c v]},toks:=tk}:=by
 obtain⟨sm,nn⟩:=C7 h1 h2 h3 h4 h5 h6;refine wpAny_pyIter_range (IsRange.new ..) sm ?_;have I1:Inv X pins σ H {s with heap:=s.heap.push {cls:=.type "range", data:=.fields #[.int lo t,.int hi u,.int c v]},toks:=tk}:=I.kept λb o e=>Oi _ e
 refine⟨(s.heap.push {cls:=.type "range", data:=.fields #[.int lo t,.int hi u,.int c v]}).objs.size,[(s.heap.push {cls:=.type "range", data:=.fields #[.int lo t,.int hi u,.int c v]}).objs.size],_,_,H,_,rfl,
  I1.kept (t':=tk) λb o e=>Oi _ e,au.refl H,yO _ lo c (jK lo hi c),?_,λb hb=>?_,Fc _ _ _ _ _ _,q⟩
 ·have e1:lo+((0:Nat):Int)*c=lo:=by simp
  have e2:((jK lo hi c:Nat):Int) - ((0:Nat):Int)=Builtin.Range.rangeSize lo hi c:=by unfold jK;lia
  show IsRangeIter _ _ (lo+((0:Nat):Int)*c) (((jK lo hi c:Nat):Int) - ((0:Nat):Int)) c;rw[e1,e2];exact Qu _ rfl
 ·have e:b=(s.heap.push {cls:=.type "range", data:=.fields #[.int lo t,.int hi u,.int c v]}).objs.size:=by simpa using hb
  subst e;exact I1.Yd (Mw _) (I1.Mh.fresh (Mw _))
def CR3(i:Int):Prop:=-(2 ^ 40)<=i/\i<2 ^ 40
def Am(ta:DA):DA:=λρ R=>ta ρ λds=>∃i j:Int,ds=[.int i,.int j]/\CR3 i/\CR3 j/\R (iU i 1 (jK i j 1))
def Fq(ta:DA):DA:=λρ R=>ta ρ λds=>∃j:Int,ds=[.int j]/\CR3 j/\R (iU 0 1 (jK 0 j 1))
def um {a b:Expr} {p pos:Pos} (hg:Gl X "range") (hm:X.mg "range" = none) (ha:Qn X [a,b] ta) (hs:starEach [a,b] X.env=(false,eval a X.env)::starEach [b] X.env:=by rfl) (hs2:(backTo pos (starEach [b] X.env)).any (·.1)=false:=by rfl) :
  T1 X tg (.Call (.Name "range" p) [a,b] [] pos) (Am ta):=by
 intro pins s σ H W ρ R I r h;refine Call_ (fx I hg hm boot_range (PyProof.Rows.callWith_type1 (LK (ha pos pins s σ H W ρ _ I r h) λus s1 LO=>?_) hs hs2));obtain⟨vs,H1,ds,I1,r1,e1,hd,q1⟩:=LO;obtain⟨i,j,e,⟨a1,a2⟩,⟨b1,b2⟩,q⟩:=q1;subst e;obtain⟨v1,u1,rfl,d1,d2⟩:=ve hd;have z1:=d1.MN;have z2:=d2.MN;subst z1 z2;cases r1 with
 |cons ra rr =>
  cases rr with
  |cons rb rr =>
   cases rr;obtain⟨t,rfl⟩:=ra;obtain⟨t',rfl⟩:=rb;refine call_range_2 ?_;exact LK (uy (W:=W) (R:=R) I1 a1 a2 b1 b2 (by decide) (by decide) q) λS9 s2 MP=>(by obtain⟨it,fp,tn,J,H',ds,x1,x2,x3,x4,x5,x6,x7,x8⟩:=MP;exact⟨it,fp,tn,J,H',ds,x1,x2,e1.trans x3,x4,x5,x6,x7,x8⟩)
def eE {a:Expr} {p pos:Pos} (hg:Gl X "range") (hm:X.mg "range" = none) (ha:Qn X [a] ta) (hs:starEach [a] X.env=(false,eval a X.env)::starEach [] X.env:=by rfl) (hs2:(backTo pos (starEach [] X.env)).any (·.1)=false:=by rfl) :
  T1 X tg (.Call (.Name "range" p) [a] [] pos) (Fq ta):=by
 intro pins s σ H W ρ R I r h;refine Call_ (fx I hg hm boot_range (PyProof.Rows.callWith_type1 (LK (ha pos pins s σ H W ρ _ I r h) λus s1 LO=>?_) hs hs2));obtain⟨vs,H1,ds,I1,r1,e1,hd,q1⟩:=LO;obtain⟨j,e,⟨b1,b2⟩,q⟩:=q1;subst e;obtain⟨v1,rfl,d1⟩:=n9 hd;have z1:=d1.MN;subst z1;cases r1 with
 |cons ra rr =>
  cases rr;obtain⟨t,rfl⟩:=ra;refine call_range_1 ?_;exact LK (uy (W:=W) (R:=R) I1 (by decide) (by decide) b1 b2 (by decide) (by decide) q) λS9 s2 MP=>(by obtain⟨it,fp,tn,J,H',ds,x1,x2,x3,x4,x5,x6,x7,x8⟩:=MP;exact⟨it,fp,tn,J,H',ds,x1,x2,e1.trans x3,x4,x5,x6,x7,x8⟩)
def pM(wi:DA)(g:DG)(tb:DS):DS:=λE ρ=>wi ρ λds=>∃Pv:Nat->Ro->Prop,Pv 0 ρ ∧
 (∀j x Ly,ds[j]?=some x->Pv j Ly->g x Ly λNP=>tb {E with nx:=Pv (j+1),ct:=Pv (j+1),bk:=E.nx} NP)/\∀Ly,Pv ds.length Ly->E.nx Ly
def bL(hp:PassesOwn (model X.prog X.w) X.A X.env X.xe)(hc:X.calm=true)(hi:T1 X tg iter wi)(hg:Vd X tg g)(hb:cO X body tb)
  (hs:∀x,foldedSetIterable iter X.env x=pure x:=by intro _;rfl):OF X (.For tg iter body [] pos) (pM wi g tb):=by
 intro pins s σ H W ρ E I r h;refine wpAny_For (LK (hi pins s σ H W ρ _ I r h) λv s1 h1=>LK h1 λS9 s2 h2=>?_) hs;obtain⟨it,fp,tn,J,H2,ds,e,I2,e2,T,LX,f2,yd,Pv,p0,turn,pd⟩:=h2;subst e;have r2:=r.same e2;have Wa:∀{H':Hp},(∀b∈fp,H' b=none)->∀b∈fp,fO X pins H' b:=λhn b hb=>⟨hn b hb,(f2 b hb).2⟩
 refine codeAny_forLoop_any (λn s'=>∃i W' Mn H' Ly,n=ds.length - i/\i<=ds.length/\Inv X pins Mn H' s'/\tn i s'.heap/\(∀b∈fp,H' b=none)/\Mt W H2 W' H'/\Rel X W' H' Mn Ly/\Pv i Ly) ?_ ds.length ⟨0,W,σ,H2,ρ,by simp,OE _,I2,LX,λb hb=>(f2 b hb).1,Mt.refl W H2,r2,p0⟩;rintro n s3 ⟨i,W3,Sz,H3,Sg,en,hle,I3,OU,Yy,TZ,r3,p3⟩;obtain⟨yg,yy,ys⟩:=yd W3.bad H3 (IY r2 TZ) (IX r3 TZ) (IZ r2 TZ) i;by_cases NZ:i<ds.length
 ·refine VR hp (LK (T.item X rfl rfl rfl hc i pins s3 Sz H3 X.xe I3 (Wa Yy) OU (yg NZ)) λrr s4 ⟨u,hr,h4⟩=>?_);subst hr;refine VR hp (LK h4 λ_ s5 LO=>?_);obtain⟨x,H5,I5,r5,y5,Ve,fr5⟩:=LO;obtain⟨e5,d,hd,Pc⟩:=yy x H5 y5 NZ;have I5':=I5.pinned (Wa fr5) (T.obj _ _ Ve);have Vf:=r3.same e5;refine VR hp (LK (hg _ s5 Sz H5 W3 Sg d x u _ I5' Vf r5 Pc (turn i d Sg hd p3)) λ_ s6 LO=>?_);obtain⟨W6,Yz,H6,YA,I6,f6,r6,q6⟩:=LO;refine VR hp (LK (hb _ s6 Yz H6 W6 YA _ I6 r6 q6) λf s7 q7=>?_);obtain⟨W7,Wb,H7,I7,f7,q7⟩:=q7;have fw7:Mt W H2 W7 H7:=TZ.trans ((Mt.same e5).trans (f6.trans f7));have YB:Mt W H W7 H7:=(Mt.same e2).trans fw7;have again:∀{Vg:Ro},Rel X W7 H7 Wb Vg->Pv (i+1) Vg->∃m,m<n/\∃i W' Mn H' Ly,m=ds.length - i/\i<=ds.length/\Inv X pins Mn H' s7/\tn i s7.heap/\(∀b∈fp,H' b=none)/\Mt W H2 W' H'/\Rel X W' H' Mn Ly/\Pv i Ly:=fun {Vg} r7 p7=>by
   refine⟨ds.length - (i+1),by lia,i+1,W7,Wb,H7,Vg,rfl,NZ,I7.N6,T.keep _ _ _ Ve λb hb o e=>(I7.pin (b,o) (Oq _ (Oq _ (jg hb e)))).1,λb hb=>?_,fw7,r7,p7⟩;obtain⟨o,e,d⟩:=T.obj _ _ Ve b hb;exact(I7.pin (b,o) (Oq _ (Oq _ (jg hb e)))).2.1
  cases f with
  |next=>obtain⟨Vg,r7,n7⟩:=q7;exact again r7 n7
  |cont=>obtain⟨Vg,r7,n7⟩:=q7;exact again r7 n7
  |brk=>obtain⟨Vg,r7,q7⟩:=q7;exact⟨W7,Wb,H7,I7.N6,YB,Vg,r7,q7⟩
  |ret v=>obtain⟨x7,d7,r7,h7,q7⟩:=q7;exact⟨W7,Wb,H7,I7.N6,YB,x7,d7,r7,h7,q7⟩
 ·have e:i=ds.length:=by lia
  refine VR hp (LK (T.done X rfl rfl rfl hc i pins s3 Sz H3 X.xe I3 (Wa Yy) OU (ys (by lia))) λrr s4 LO=>?_);obtain⟨hr,I4⟩:=LO;subst hr;subst e;exact W5 ⟨W3,Sz,H3,I4,(Mt.same e2).trans TZ,Sg,r3,pd Sg p3⟩
def Iw(i j:Nat)(ta:DA):DS:=λE ρ=>ta ρ λds=>∃d e,ds=[d,e]/\E.nx ((ρ.set i (some (.val d))).set j (some (.val e)))
def II{x y:Str}{a b:Expr}{kt k2 VY}(i j:Nat)(hc:X.calm=true)(hN:X.N.Nodup)(NO:i≠j)(ha:Qn X [a,b] ta)(hi:X.N[i]?=some x:=by rfl)(hj:X.N[j]?=some y:=by rfl)
  (hx:X.env.scope.names.lookup x=some .local:=by rfl) (hy:X.env.scope.names.lookup y=some .local:=by rfl)
  (hw:swappedStores [.Tuple [.Name x px,.Name y py] kt pt] (.Tuple [a,b] k2 VY) X.env=pure (some [x,y]):=by rfl)
  (hs:swapsWithSole [.Tuple [.Name x px,.Name y py] kt pt] (.Tuple [a,b] k2 VY) pos.line X.env=pure false:=by rfl) :
  OF X (.Assign [.Tuple [.Name x px,.Name y py] kt pt] (.Tuple [a,b] k2 VY) pos) (Iw i j ta):=by
 have Yr:PA X [a,b] (λσ H Q=>∃W ρ Qd,Rel X W H σ ρ/\ta ρ Qd/\∀vs H' ds,au H H'->ag X.K W.bad H' ds vs->Qd ds->Q vs H'):=by intro pos pins s σ H Q I q;obtain⟨W,ρ,Qd,r,ht,k⟩:=q;exact LK (ha pos pins s σ H W ρ Qd I r ht) λus s1 MP=>(by obtain⟨vs,H',ds,I1,rv,e1,hd,qd⟩:=MP;exact⟨vs,H',I1,rv,k vs H' ds e1 hd qd⟩)
 refine OF.of (JN hc hN hi hj NO hx hy Yr hw hs) λσ H W ρ E r hl h=>?_
 refine⟨W,ρ,_,r,h,λvs H' ds e1 hd q=>?_⟩;obtain⟨d,e,rfl,q⟩:=q;obtain⟨v,u,rfl,h1,h2⟩:=ve hd;have Sy:i<σ.length:=by rw[hl];exact(OC.mp hi).1
 have jlt:j<(σ.set i (some v)).length:=by rw[W4,hl];exact(OC.mp hj).1
 have r1:=(r.same e1).put Sy h1;exact⟨v,u,rfl,_,_,(Mt.same e1).trans ((Mt.drop W H' i).trans (Mt.drop _ H' j)),r1.put jlt (h2.Ml λ_ _=>Own.MF),q⟩
end
def dm(N:yah)(ds:yas):Ro:=ds.map (λd=>some (.val d))++List.replicate (N.length - ds.length) none
theorem Rel.start{X:Cx}{P:Addr->Prop}{H:Hp}(hP:∀a,P a->∃o,H a=some o)(h:ag X.K (λt a=>t=true∨P a) H ds vs)(hH:X.MK=H)(hT:ku X.K H):Rel X ⟨P,λ_=>none,λa=>∃o,H a=some o⟩ H (start N vs) (dm N ds) where
 val:=λi d e=>by
  unfold dm at e;have hl:=h.len;by_cases hi:i<ds.length
  ·rw[QT (by simpa using hi),OD]at e;cases q:ds[i]? with
   |none=>rw[q]at e;cases e
   |some d' =>
    rw[q]at e;have e':d'=d:=by simpa using e
    subst e';obtain⟨v,h1,h2⟩:=h.get q;refine⟨v,?_,h2.Ml λtg a z=>?_⟩
    ·unfold L2.start;rw[QT (by simpa [hl]using hi),OD,h1];rfl
    ·rcases z with z|⟨j,z⟩| ⟨z,_⟩
     ·exact .inr z
     ·cases z
     ·exact .inl z
  ·rw[P5 (by simpa using hi),XI]at e;split at e<;>cases e
 own:=λi d e=>by
  unfold dm at e;by_cases hi:i<ds.length
  ·rw[QT (by simpa using hi),OD]at e;cases q:ds[i]? with
   |none=>rw[q]at e;cases e
   |some d'=>rw[q]at e;cases e
  ·rw[P5 (by simpa using hi),XI]at e;split at e<;>cases e
 inj:=λi j a h _=>by cases h
 kn:=λi a h=>by cases h
 ke:=λi a h=>by cases h
 bt:=hP
 st:=λ_ z=>z
 ent:=by rw[hH];exact au.refl H
 tab:=hT
def bG.there(x:bG P w H h a o):∃u,h.get? a=some u:=by
 cases o with
 |lst xs=>obtain⟨_,_,_,_,e⟩:=x;exact⟨_,e⟩
 |tup xs=>obtain⟨_,_,_,ob,e,_⟩:=x;exact⟨ob,e⟩
 |dK kvs=>obtain⟨_,_,_,_,ob,_,_,e,_⟩:=x;exact⟨ob,e⟩
 |dT kvs=>obtain⟨_,_,_,_,ob,_,_,e,_⟩:=x;exact⟨ob,e⟩
 |set S n=>obtain⟨ob,_,_,_,e,_⟩:=x;exact⟨ob,e⟩
 |ins C dx fs=>obtain⟨_,_,_,e,_⟩:=x;exact⟨_,e⟩
 |own y=>exact x
 |xd fs=>obtain⟨_,⟨ob,_,_,e,_⟩,_⟩:=x;exact⟨ob,e⟩
 |Z0 lo hi=>obtain⟨_,_,_,e⟩:=x;exact⟨_,e⟩
 |frz ob u=>obtain⟨e,_⟩:=x;exact⟨ob,e⟩
 |Q0 ps=>exact⟨_,x⟩
 |met f y=>exact⟨_,x⟩
 |ext φ=>obtain⟨_,e,_⟩:=x;exact e
def N1.YC {h' : Heap} (x : N1 P w H h) (k : ∀ b u, (∃ o, H b = some o) -> h.get? b = some u -> h'.get? b = some u) : N1 P w H h' := λa o e =>
 (x a o e).Q1 (λb u hb q => k b u (by
  rcases hb with z | z
  ·subst z; exact ⟨o, e⟩
  ·exact ⟨_, z⟩) q) (λ_ q => q) λ_ _ q => q
structure Fl(P:Program)(w:World)(l:List Env)(h₀:Heap)(MK H:Hp)(B h:Heap):Prop where
 un:Un (PV l) [] MK H h₀ h
 Mh:N1 P w H h
 fr:∀b∈PV l,MK b=none/\∃o,h₀.get? b=some o/\∀vs,o.data ≠ .fields vs
 Xi:∀b o,h.get? b=some o->((∃u,H b=some u)∨∃ o',h₀.get? b=some o')->b∉PV l->B.get? b=some o
section
variable{P:Program}{w:World}{l:List Env}{h₀:Heap}{MK H:Hp}{B h h':Heap}
theorem Fl.free(F:Fl P w l h₀ MK H B h){b:Addr}(hb:b∈PV l):H b=none:=by obtain⟨n,o,e,_⟩:=F.fr b hb;exact F.un.free b o e n (by simp)
def Fl.step(F:Fl P w l h₀ MK H B h)(st:B.StaysIn h')(sl:h.UpToSlots h'):Fl P w l h₀ MK H B h':=by
 have fr1:∀b o,b∈PV l->h₀.get? b=some o->∃s',h'.get? b=some {o with slots:=s'}:=λb o hb e=>by obtain⟨n,o',e',hd⟩:=F.fr b hb;rw[e]at e';cases e';obtain⟨s1,e1⟩:=F.un.slot b o e n hb (by simp);obtain⟨s2,e2⟩:=sl b _ e1 hd;exact⟨s2,e2⟩
 have kp:∀b o,h.get? b=some o->((∃u,H b=some u)∨∃ o',h₀.get? b=some o')->b∉PV l->h'.get? b=some o:=λb o e c n=>st b o (F.Xi b o e c n)
 refine⟨⟨λb o e n hb hx=>kp b o (F.un.keep b o e n hb hx) (.inr ⟨o,e⟩) hb,λb o e n hb hx=>fr1 b o hb e,F.un.free,λb o e hx=>?_,F.un.Po,F.un.O8,F.un.Pp⟩,PD.N1.YC F.Mh (λb u hu e=>kp b u e (.inl hu) λz=>?_),F.fr,λb o e c n=>?_⟩
 ·by_cases hb:b∈PV l
  ·obtain⟨s2,e2⟩:=fr1 b o hb e;exact⟨_,e2⟩
  ·obtain⟨o',e1⟩:=F.un.there b o e hx;exact⟨o',kp b o' e1 (.inr ⟨o,e⟩) hb⟩
 ·obtain⟨o,q⟩:=hu;rw[F.free z]at q;cases q
 ·have:∃o1,h.get? b=some o1:=by
   rcases c with⟨u,c⟩| ⟨o',c⟩
   ·exact PD.bG.there (F.Mh b u c)
   ·exact F.un.there b o' c (by simp)
  obtain⟨o1,e1⟩:=this;have q:=kp b o1 e1 c n;rw[e]at q;cases q;exact F.Xi b o e1 c n
end
def CX1(P:Program)(w:World):CXT:=λouter H s E e s'=>∃(ea c:Addr) (H':Hp) (B:Heap) (a0:Value),e=.ref ea/\s'.os=s.os/\AllBare s'.gens/\Fl P w outer s.heap H H' B s'.heap/\au H H'/\H' ea=none/\s.heap.get? ea=none ∧
 Heap.FlyingW B outer ea (.ref c) a0 s'.heap/\E (.ref c) none H'
def AM:Passes (CX1 P w) X E0:=λ_ _ _ _ _ _ _ h=>by obtain⟨_,_,_,_,_,_,_,_,_,_,_,_,_,z⟩:=h;exact z.elim
def MadeX(X:Cx)(Ed:Value->Prop):Prop:=∀(pins:yab) (σ:St) (H:Hp) (W:Own) (ρ:Ro) (s:Shared) (e c:Addr) (vs:yad) (h':Heap),Inv X pins σ H s->Rel X W H σ ρ->Heap.MadeExcOf s.heap h' e (.ref c) vs->Ed (.ref c)->X.xe (.ref e) {s with heap:=h'}
def eT(X:Cx)(Ed:Value->Prop):Prop:=∀(pins:yab) (σ:St) (H:Hp) (W:Own) (ρ:Ro) (s:Shared) (e:Value) (s':Shared),Inv X pins σ H s->Rel X W H σ ρ->CX1 X.prog X.w X.stack H s (λc _ _=>Ed c) e s'->X.xe e s'
section
variable{P:Program}{w:World}{K:yac}{mg:yam}{base:Heap}{N:yah}{qual:Str}{sc:Scope}{f:Addr}{cd:Value}{A:Around}{outer:List Env}{LU:Shared}{MK:Hp}{E:XK}
def wj{B:Heap}(I:Inv (dF (CX1 P w) P w K mg base N qual sc f cd A outer LU MK E) pins σ H s)(hS:au MK H)(hn:H e=none)(T5:LU.heap.get? e=none)
  (Xi:∀b o,s.heap.get? b=some o->((∃u,H b=some u)∨∃ o',LU.heap.get? b=some o')->b∉PV (envOfC qual sc LU.heap.objs.size f cd::outer)->B.get? b=some o)
  (fl:Heap.FlyingW B outer e (.ref c) a0 h') (sl:s.heap.UpToSlots h') (hE:E (.ref c) none H):CX1 P w outer MK LU E (.ref e) {s with heap:=h'}:=by
 have nf:∀b,((∃u,H b=some u)∨∃ o',LU.heap.get? b=some o')->b∉PV outer->b∉PV (envOfC qual sc LU.heap.objs.size f cd::outer):=λb c n z=>by
  rcases c with⟨u,c⟩| ⟨o',c⟩
  ·have:=I.QA b z;rw[c]at this;cases this
  ·rcases L9.mp (I.Pt b z)with q|q
   ·have h1:=Nn c;have h2:LU.heap.objs.size<=b:=by rw[q];exact I.ok.above
    exact absurd (OM h1 h2) (Su _)
   ·exact n q
 have F:Fl P w outer LU.heap MK H B s.heap:=⟨I.base,I.Mh,λb hb=>⟨I.ok.U6 b hb,by obtain⟨_,o,e,d⟩:=I.ok.OR.mem hb;exact⟨o,e,d⟩⟩,λb o e c n=>Xi b o e c (nf b c n)⟩
 exact⟨e,c,H,B,a0,rfl,I.os,I.bare,F.step fl.1 sl,hS,hn,T5,fl,hE⟩
def Km{Ed:Value->Prop}(hE:∀c a H',au MK H'->Ed c->E c a H'):MadeX (dF (CX1 P w) P w K mg base N qual sc f cd A outer LU MK E) Ed:=by
 intro pins σ H W ρ s e c vs h' I r hx hd;show wpAny (model P w) (A.deeper (envOfC qual sc LU.heap.objs.size f cd)) (leaving (envOfC qual sc LU.heap.objs.size f cd) (.ref e)) _ _ _;refine wpAny_leaves_madeW (base:=PySem.W.hideAll s.heap (PV (envOfC qual sc LU.heap.objs.size f cd::outer))) (h:=s.heap) (outer:=outer) I.ok.frames rfl (λb o q=>PySem.W.of_hideAll _ q)
  (PySem.W.funFrames_hide I.stack λenv he b hb=>XQ.mpr ⟨env,he,hb⟩) hx λYE t x1 _ _ x4=>?_
 have ne:∀{h1:Heap},(∀b o,h1.get? b=some o->∃o',s.heap.get? b=some o')->h1.get? e=none:=fun {h1} k=>by
  cases q:h1.get? e with
  |none=>rfl
  |some o =>
   obtain⟨o',q'⟩:=k e o q;rw[hx.new]at q';cases q'
 refine wj (s:=s) (h':=YE) I r.ent ?_ (ne λb o q=>I.base.there b o q (by intro z;cases z)) (λb o q _ n=>PySem.W.hideAll_get _ q n) x1 (λb o q d=>?_) (hE _ _ _ r.ent hd)
 ·cases q:H e with
  |none=>rfl
  |some u =>
   obtain⟨o,z⟩:=PD.bG.there (I.Mh e u q);rw[hx.new]at z;cases z
 ·exact x4 b o (hx.keeps b o q) d
def Ha{Ed:Value->Prop}(hE:∀c a H',au MK H'->Ed c->E c a H'):eT (dF (CX1 P w) P w K mg base N qual sc f cd A outer LU MK E) Ed:=by
 intro pins σ H W ρ s e s' I r hx;obtain⟨ea,c,H',B,a0,rfl,os,bare,F,sm,hn,T5,fl,hd⟩:=hx;show wpAny (model P w) (A.deeper (envOfC qual sc LU.heap.objs.size f cd)) (leaving (envOfC qual sc LU.heap.objs.size f cd) (.ref ea)) _ _ _;refine wpAny_leaves_onW (outer:=outer) I.ok.frames rfl fl λYE x1 x2=>?_
 have I':=I.Q2 os F.un F.Mh bare (by intro b z;cases z);refine wj (s:=s') (h':=YE) I' (r.ent.trans sm) hn ?_ (λb o q z n=>F.Xi b o q (z.elim .inl λMP=>(by obtain⟨o',z⟩:=MP;exact .inr (I.base.there b o' z (by intro q;cases q)))) n) x1 x2 (hE _ _ _ (r.ent.trans sm) hd);cases q:LU.heap.get? ea with
 |none=>rfl
 |some o =>
  obtain⟨o',q'⟩:=I.base.there ea o q (by intro z;cases z);rw[T5]at q';cases q'
end
section
variable{X:Cx}{k:Nat}{f:Addr}{fd:FuncData}{ps:yah}{sp:DSp}{x:Str}{p pos:Pos}{e:Expr}{es:yai}{t:DA}
def JS{dds:yas}{XE:yaa}(F:aJ X.prog X.w X.K X.mg X.base (CX1 X.prog X.w) k f fd ps (aM X.K sp))(hr:bN k X.A)(hb:Binds X.K fd ps dsv)(hd:Vals (dds.map pO) dsv)(hs:∀d∈dds,vw d)
 (I:Inv X pins σ H s) (rr:Rel X W H σ ρ) (r:Vals vs us) (Ni:ag X.K W.bad H ds vs)
  (q:sp (bq ds++dds) Q Ed) (hx:∀e s',CX1 X.prog X.w X.stack H s (λc _ _=>Ed c) e s'->XE e s'):wpAny (model X.prog X.w) X.A (call (.ref f) us) (DP X pins σ W H Q) XE s:=by
 have r2:Vals (vs++dds.map pO) (us++dsv):=r.append hd;have Ta:aM X.K sp (vs++dds.map pO) H (λv H'=>au H H'/\∃d,Den X.K W.bad H' d v/\Q d) (λc _ _=>Ed c) :=
  ⟨W.bad false,bq ds++dds,Q,Ed,rr.tab,rr.tracked false,(ag.aX (λ_ _=>Own.QB) ds vs Ni).append (ag.tN hs),q,λd v H' e h1 h2=>⟨e,d,Den.back rr.tracked h1,h2⟩,λ_ _ _ _ z=>z⟩
 have hl:(us++dsv).length=ps.length:=by rw[<- r2.length];exact F.len _ _ _ _ Ta
 refine wpAny_call (codeAny_mono (F.run X.A X.stack s H ⟨us,[]⟩ (us++dsv) (vs++dds.map pO) _ _ hr I.Ye (hb s us I.Qa hl) r2 Ta) λres s' hq=>?_);cases res with
 |error er=>exact hx er s' hq
 |ok fl =>
  cases fl with
  |ret u =>
   obtain⟨v,H2,I2,r2,e2,d,h1,h2⟩:=I.after hq;exact⟨v,H2,d,I2,r2,e2,h1,h2⟩
  |next=>exact False.elim hq
  |brk=>exact False.elim hq
  |cont=>exact False.elim hq
end
set_option tactic.hygienic true in
def Gi{K:yac}(X:K.In h)(q:PySem.W.excIn K C bmB newId=true):∃tl N nm qn bs hd sn sub ab col dd k0 k1 k2 k3 k5 mN,
  h.get? C=some (excClassObj nm qn C N bs tl hd sn sub ab col dd k0 k1 k2 k3 k5 newId)/\h.Ns N mN/\mN "__init__" = none/\OwnTail h bmB tl:=by
 unfold PySem.W.excIn at q;split at q
 next dd cd sl ho =>
  split at q
  next C' tl k0 k1 k2 k3 n k5 hm hs =>
   simp only[SU,beq_iff_eq,Bool.not_eq_true']at q;obtain⟨⟨⟨⟨⟨e1,e2⟩,YF⟩,ht⟩,Mh⟩,Z8⟩:=q;subst e1 e2;cases cd with
   |mk nm bs mro ns qn hd sn sub ab col del =>
    simp only at hm YF Mh Z8;subst hm YF;have YG:sl=#[k0,k1,k2,k3,some (.builtin n),k5]:=by apply Array.ext';rw[hs]
    subst YG;exact⟨tl,ns,nm,qn,bs,hd,sn,sub,ab,col,dd,k0,k1,k2,k3,k5,_,X _ _ ho,.of_isNs (PySem.W.isNs_of_in X Mh),PySem.W.nsMap_none_of_in X Mh Z8,PySem.W.tail_of_in X ht⟩
  next=>cases q
 next=>cases q
abbrev Be:yad:=[.type "ValueError", .type "Exception", .type "BaseException", .type "object"]
section
variable{X:Cx}{pos:Pos}
def D4 {e:Expr} {es:yai} (pm:MadeX X Ed) (hg:Gl X x) (hm:X.mg x=some (.ref C)) (q:PySem.W.excIn X.K C Be "ValueError.__new__" = true) (hc:X.calm=true) (ha:Qn X (e::es) t)
  (he:starEach (e::es) X.env=(false,eval e X.env)::starEach es X.env:=by rfl) (M9:(backTo Me (starEach es X.env)).any (·.1)=false:=by rfl) (Px:(x==("__debug__" : Str))=false:=by decide) :
  OF X (.Raise (some (.Call (.Name x np) (e::es) [] Me)) none pos) (λ_ ρ=>t ρ λds=>ds.length<=sizeLine/\Ed (.ref C)):=by
 intro pins s σ H W ρ E I r h;obtain⟨tl,N,nm,qn,bs,hd,sn,sub,ab,col,dd,k0,k1,k2,k3,k5,mN,hC,hN,Z8,T⟩:=Gi I.ok.mod.O9 q;have FB:=PySem.F.excBase_ValueError;refine wpAny_Raise_call_subT (C:=C) (nm:=nm) (q:=qn) (N:=N) (bs:=bs) (bm:=tl) (hdct:=hd) (sn:=sn) (sub:=sub) (ab:=ab) (col:=col) (dd:=dd) (k0:=k0) (k1:=k1) (k2:=k2) (k3:=k3) (k5:=k5) FB (mN:=mN) (T.hasType FB.hasBase) (I.ok.hd hc)
  (by rw[he];show(false || (backTo Me (starEach es X.env)).any (·.1))=false;rw[M9];rfl) Z8 (jw I hg hm ⟨rfl,?_⟩ Px)
 have hz:=ha Me pins s σ H W ρ _ I r h;rw[he]at hz ⊢;refine Calls.evalArgs_plain (LK hz λus s1 LO=>?_);obtain⟨vs,H1,ds,I1,rv,e1,Ni,z,hE⟩:=LO;exact⟨rfl,by rw[<- Ni.len,rv.length]at z;exact z,I1.bk _ _ hC,hN.keeps I1.bk,T.keeps I1.bk,λh' ea hm=>pm pins σ H1 W ρ s1 ea C us h' I1 (r.same e1) hm hE⟩
def wI{st:Stmt}:OF X st (λ_ _=>False):=λ_ _ _ _ _ _ _ _ _ h=>h.elim
theorem Rel.wish(r:Rel X W H σ ρ)(E:yaa):Rel (X.wish E) W H σ ρ:=⟨r.val,r.own,r.inj,r.kn,r.ke,r.bt,r.st,r.ent,r.tab⟩
def Rel.Nh(r:Rel (X.wish E) W H σ ρ):Rel X W H σ ρ:=⟨r.val,r.own,r.inj,r.kn,r.ke,r.bt,r.st,r.ent,r.tab⟩
theorem TY.Nh(h:TY (X.wish XE) pins W H E f s'):TY X pins W H E f s':=by
 obtain⟨W',Mn,H',I,fw,q⟩:=h;refine⟨W',Mn,H',I.Nh,fw,?_⟩;cases f with
 |next=>obtain⟨Ly,r,q⟩:=q;exact⟨Ly,r.Nh,q⟩
 |brk=>obtain⟨Ly,r,q⟩:=q;exact⟨Ly,r.Nh,q⟩
 |cont=>obtain⟨Ly,r,q⟩:=q;exact⟨Ly,r.Nh,q⟩
 |ret u=>exact q
theorem cO.Xf{st:yal}{t:DS}(h:cO X.Xf st t):cO X st t:=λpins s σ H W ρ E I r hw =>
 PU (h pins s σ H W ρ E (I.wish _) (r.wish _) hw) (λ_ _ q=>q.Nh) λ_ _ z=>False.elim z
noncomputable abbrev Cx.markX(X:Cx)(e:Value):Cx:={X with A:=X.A.mark (some e),calm:=false,xe:=λ_ _=>False}
def Inv.marked(I:Inv X pins σ H s)(e:Value):Inv (Cx.markX X e) pins σ H s :=
 have ok:=I.ok
 ⟨⟨ok.mod,ok.kind,ok.glob,ok.blt,ok.above,ok.inj,ok.has,ok.Sw,(λz=>by cases z),ok.frames,ok.X9,ok.exf,ok.bs,ok.U5,ok.R8,ok.S7,ok.OR,ok.U6⟩,I.os,I.bare,I.base,I.loc,I.cell,I.free,I.Nu,I.pin,I.Mh,I.len⟩
def Inv.unmark(J:Inv (Cx.markX X e) pins σ H s)(ok:X.Ok):Inv X pins σ H s :=
 ⟨ok,J.os,J.bare,J.base,J.loc,J.cell,J.free,J.Nu,J.pin,J.Mh,J.len⟩
def Rel.marked(r:Rel X W H σ ρ)(e:Value):Rel (Cx.markX X e) W H σ ρ:=⟨r.val,r.own,r.inj,r.kn,r.ke,r.bt,r.st,r.ent,r.tab⟩
def Rel.unmark(r:Rel (Cx.markX X e) W H σ ρ):Rel X W H σ ρ:=⟨r.val,r.own,r.inj,r.kn,r.ke,r.bt,r.st,r.ent,r.tab⟩
def Inv.YH(I:Inv X pins σ H s)(hn:H e=none)(h0:X.LU.heap.get? e=none)(hL:e≠X.env.locals)(hc:∀x c,X.env.cells.lookup x=some c->c≠e)(hp:∀p∈X.pn++pins,p.1≠e)
  (new:bG X.prog X.w (L2.upd H e o) s.heap e o):Inv X pins σ (L2.upd H e o) s:=by
 refine⟨I.ok,I.os,I.bare,⟨I.base.keep,I.base.slot,λb u q n x=>?_,I.base.there,λb xs q=>?_,λb u xs q=>?_,λb ps q=>?_⟩,I.loc,I.cell,by rw[aD (Ne.symm hL)];exact I.free,λx c q=>by rw[aD (hc x c q)];exact I.Nu x c q,λp q=>?_,λb u q=>?_,I.len⟩
 ·rw[aD (λz=>by rw[z,h0]at q;cases q)];exact I.base.free b u q n x
 ·have:=I.base.Po b xs q;rw[aD (bC this hn)];exact this
 ·have:=I.base.O8 b u xs q;rw[aD (bC this hn)];exact this
 ·obtain⟨more,this⟩:=I.base.Pp b ps q;exact⟨more,by rw[aD (bC this hn)];exact this⟩
 ·obtain⟨p1,p2,p3⟩:=I.pin p q;exact⟨p1,by rw[aD (hp p q)];exact p2,p3⟩
 ·by_cases hb:b=e
  ·subst hb;rw[aV]at q;cases q;exact new
  ·rw[aD hb]at q;exact(I.Mh b u q).Q1 (λc v _ z=>z) (λc z=>by rw[aD (bC z hn)];exact z) λc xs z=>by rw[aD (bC z hn)];exact z
def CC{i:Nat}{n:Str}{Q:Unit->Shared->Prop}(I:Inv X pins σ H s)(hN:X.N.Nodup)(hi:X.N[i]?=some n)(hk:X.env.scope.names.lookup n=some .local)
  (h:∀s',Inv X pins (σ.set i none) H s'->Q () s'):wpAny M A (do bindName X.env n .none;unbindBehindTheSuite X.env n pos) Q E s:=by
 obtain⟨m,hn,hl⟩:=id I.loc;refine wpAny_nameGoes_keeps hk hn (by rw[I.ok.kind];rfl) λh' v hn' hs=>h _ ?_
 have Xe:∀b o,X.LU.heap.get? b=some o->b≠X.env.locals:=λb o e=>O6 (OM (Nn e) I.ok.above)
 refine⟨I.ok,I.os,I.bare,⟨λb o e z hb hx=>(hs.2 b (Xe b o e)).trans (I.base.keep b o e z hb hx),λb o e z hb hx=>?_,I.base.free,λb o e hx=>?_,I.base.Po,I.base.O8,I.base.Pp⟩,⟨_,hn',λj y v' e1 e2 e3=>?_⟩,λy c e=>?_,I.free,I.Nu,λp hp=>?_,λb ob e=>?_,by simpa using I.len⟩
 ·obtain⟨sl,e1⟩:=I.base.slot b o e z hb hx;exact⟨sl,(hs.2 b (Xe b o e)).trans e1⟩
 ·obtain⟨o',e1⟩:=I.base.there b o e hx;exact⟨o',(hs.2 b (Xe b o e)).trans e1⟩
 ·by_cases hj:j=i
  ·subst hj;rw[List.getElem?_set]at e2;simp at e2
  ·rw[Qi (Ne.symm hj)]at e2;obtain⟨u',r',q⟩:=hl j y v' e1 e2 e3;refine⟨u',r',?_⟩;rcases q with⟨k,e⟩| ⟨k,c,e,z⟩
   ·refine .inl ⟨k,?_⟩;have:y≠n:=λe=>hj (pW hN e1 (e ▸ hi))
    simp[this,e]
   ·exact .inr ⟨k,c,e,z.sameBut hs (I.Uk y c e)⟩
 ·obtain⟨w',z⟩:=I.cell y c e;exact⟨w',z.sameBut hs (I.Uk y c e)⟩
 ·obtain⟨e,z,ne,nf,d⟩:=I.pin p hp;exact⟨(hs.2 p.1 ne).trans e,z,ne,nf,d⟩
 ·refine(I.Mh b ob e).Q1 (λc w' hc q=>(hs.2 c ?_).trans q) (λ_ q=>q) λ_ _ q=>q
  intro z;rcases hc with hc|hc
  ·rw[<- hc,z,I.free]at e;cases e
  ·rw[z,I.free]at hc;cases hc
def Rel.unset{i:Nat}(r:Rel X W H σ ρ)(hi:i<σ.length):Rel X (W.drop i) H (σ.set i none) (ρ.set i none):=by
 have at_:∀{j:Nat} {x:Sl},(ρ.set i none)[j]?=some (some x)->j≠i/\ρ[j]?=some (some x):=fun {j x} h=>by
  by_cases hj:j=i
  ·subst hj;rw[List.getElem?_set]at h;simp at h
  ·rw[Qi (Ne.symm hj)]at h;exact⟨hj,h⟩
 have dr:∀{j:Nat} {a:Addr},(W.drop i).O j=some a->j≠i/\W.O j=some a:=fun {j a} h=>by
  have h':(if j=i then none else W.O j)=some a:=h;by_cases e1:j=i
  ·rw[Lx e1]at h';cases h'
  ·rw[Lw e1]at h';exact⟨e1,h'⟩
 refine⟨λj d h=>?_,λj ds h=>?_,λj k a h1 h2=>r.inj j k a (dr h1).2 (dr h2).2,λj a h=>r.kn j a (dr h).2,λj a h=>r.ke j a (dr h).2,r.bt,r.st,r.ent,r.tab⟩
 ·obtain⟨hj,h⟩:=at_ h;obtain⟨v,h1,h2⟩:=r.val j d h;exact⟨v,by rw[Qi (Ne.symm hj)];exact h1,h2.Ml λ_ _=>Own.MF⟩
 ·obtain⟨hj,h⟩:=at_ h;obtain⟨a,vs,h1,h2,h3,h4⟩:=r.own j ds h;exact⟨a,vs,by show(if j=i then none else W.O j)=_;rw[Lw hj];exact h1,by rw[Qi (Ne.symm hj)];exact h2,h3,by rw[W4];exact h4.Ml (λ_ _=>Own.MF) (Own.Pz hi)⟩
def DX(K:yac)(C:Addr)(i:Nat)(sp:DSp)(t:DA)(su:DS):DS:=λE ρ=>t ρ λds=>sp (bq ds) (λ_=>E.nx ρ) λcv=>∃c,cv=.ref c/\fN K c/\PySem.W.exmOne K (.ref c) (.ref C)=some true ∧
 su ⟨λLy=>E.nx (Ly.set i none),E.rt,λLy=>E.bk (Ly.set i none),λLy=>E.ct (Ly.set i none)⟩ (ρ.set i (some (.val (.exc c))))
def IK{n:Str}{ep:Pos}{e:Expr}{es:yai}{Tf:Stmt}{Q7:yal}(i:Nat)(F:aJ X.prog X.w X.K X.mg X.base (CX1 X.prog X.w) k f fd ps (aM X.K sp))(hr:bN k X.A)(hm:X.mg g=some (.ref f))(hk:PySem.W.keepIn X.K (.ref f)=true)(hb:Binds X.K fd ps [])
  (hN:X.N.Nodup) (hmx:X.mg x=some (.ref C)) (ha:Qn X.Xf (e::es) t) (hsu:∀v,cO (Cx.markX X v) (Tf::Q7) su) (hgg:Gl X g:=by rfl) (hgx:Gl X x:=by rfl) (hi:X.N[i]?=some n:=by rfl) (Uw:X.env.scope.names.lookup n=some .local:=by rfl)
  (hex:X.ex=[]:=by rfl) (OK:X.stack=X.env::X.outer:=by rfl) (hef:X.env.frame=some X.env.locals:=by rfl) (Px:(g==("__debug__" : Str))=false:=by decide) (hdx:(x==("__debug__" : Str))=false:=by decide) (he:starEach (e::es) X.env=(false,eval e X.env)::starEach es X.env:=by rfl) (M9:(backTo cp (starEach es X.env)).any (·.1)=false:=by rfl)
  (hs:swapsWith (.Call (.Name g p) (e::es) [] cp) none ep.line X.env=pure false:=by rfl) :
  OF X (.Try [.Expr (.Call (.Name g p) (e::es) [] cp) ep] [.ExceptHandler (some (.Name x np)) (some n) (Tf::Q7) hp] [] [] pos) (DX X.K C i sp t su):=by
 intro pins s σ H W ρ E I rr h;refine wpAny_Try_except (wpAny_execs_cons (wpAny_Expr_any (TP (jw I hgg hm ?_ Px)) I.quiet hs));refine PySem.W.callWith_K (h₀:=X.base) I.ok.mod.O9 hk (PU (ha cp pins s σ H W ρ _ (I.wish _) (rr.wish _) h) (λus s1 ⟨vs,H1,ds,I1,r,e1,Ni,q⟩=>⟨I1.Nh.Qa,?_⟩) λ_ _ z=>False.elim z) he M9;have I1:=I1.Nh;have Xj:=rr.same e1;have ist:i<σ.length:=Inv.Sy I hi;refine PU (JS (dds:=[]) (dsv:=[]) F hr hb .nil (by simp) I1 Xj r Ni (by rw[QM];exact q) λer s' hx=>?_) (λu s2 MP=>(by obtain⟨v,H2,d,I2,r2,e2,hd2,q2⟩:=MP;exact W5 (W5 ⟨W,σ,H2,I2,Mt.same (e1.trans e2),ρ,Xj.same e2,q2⟩))) λ_ _ z=>z
 obtain⟨ea,c,H',B,a0,rfl,os,bare,Ff,sm,hn,T5,fl,c',RO,xk,exm,hsu'⟩:=hx;cases RO;have fr':X.A.frames=some (X.env::X.outer):=by rw[<- OK];exact I.ok.frames
 rw[OK]at fl;refine wpAny_looks_onW fr' hef fl λh4 x4 u4=>wpAny_landsW x4 λh5 x5 u5=>?_
 have F5:=(Ff.step x4.1 u4).step x5.1 u5;have I5:Inv X pins σ H' {s' with heap:=h5}:=I1.Q2 os F5.un F5.Mh bare (by intro b z;cases z);have ex_:∀{h':Heap},Heap.FlyingW B (X.env::X.outer) ea (.ref c) a0 h'->ExcAt ea c h':=fun {h'} x=>by obtain⟨oe,ws,q1,q2,q3,_⟩:=x.first;exact⟨oe,ws,q1,q2,q3⟩
 refine wpAny_handleBy_cons (codeAny_handlers_test (jw (Inv.marked I5 (.ref ea)) hgx hmx ?_ hdx)) (by intro q;cases q);refine(PySem.W.exm_one I5.Qa (ExcAt.ty (ex_ x5)) exm).here ?_;refine codeAny_handlers_suite_as (lands_againW x5 λh6 x6 u6=>?_);have F6:=F5.step x6.1 u6;have I6:Inv X pins σ H' {s' with heap:=h6}:=I1.Q2 os F6.un F6.Mh bare (by intro b z;cases z);have I7:Inv X pins σ (L2.upd H' ea (.ext (ExcAt ea c))) {s' with heap:=h6}:=by
  refine Inv.YH I6 hn ?_ ?_ (λy c' q z=>?_) (λp hp z=>?_) ⟨ex_ x6,?_,λh1 h2 q z=>?_⟩
  ·cases q:X.LU.heap.get? ea with
   |none=>rfl
   |some o =>
    by_cases hx:ea∈X.ex
    ·rw[hex]at hx;cases hx
    ·obtain⟨o',q'⟩:=I1.base.there ea o q hx;rw[T5]at q';cases q'
  ·intro z;obtain⟨m,⟨o,_,_,q,_⟩,_⟩:=I1.loc;rw[<- z,T5]at q;cases q
  ·obtain⟨w',o,z',_⟩:=I1.cell y c' q;rw[z,T5]at z';cases z'
  ·have:=(I1.pin p hp).1;rw[z,T5]at this;cases this
  ·obtain⟨oe,ws,q1,_⟩:=ex_ x6;exact⟨oe,q1⟩
  ·obtain⟨oe,ws,q1,q2,q3⟩:=q;exact⟨oe,ws,z _ q1,q2,q3⟩
 have smu:au H' (L2.upd H' ea (.ext (ExcAt ea c))):=au.upd hn;refine eO (X:=Cx.markX X (.ref ea)) (v:=.ref ea) (Inv.marked I7 (.ref ea)) hN hi (.inl Uw) rfl (λs7 J7=>?_) (.inr Uw);have YI:Rel X (W.drop i) (L2.upd H' ea (.ext (ExcAt ea c))) (σ.set i (some (.ref ea))) (ρ.set i (some (.val (.exc c)))):=((Xj.same sm).same smu).put ist (Den.exc aV xk);refine PU (hsu (.ref ea) pins s7 _ _ _ _ _ J7 (Rel.marked YI _) hsu') (λfw s8 q8=>?_) λ_ _ z=>False.elim z
 obtain⟨W8,σ8,H8,J8,f8,q8⟩:=q8;have ff:Mt W H (W8.drop i) H8:=(Mt.same ((e1.trans sm).trans smu)).trans ((Mt.drop W _ i).trans (f8.trans (Mt.drop W8 H8 i)));refine CC (Inv.unmark J8 I.ok) hN hi Uw λs9 I9=>⟨W8.drop i,_,H8,I9,ff,?_⟩
 cases fw with
 |next=>obtain⟨ρ8,r8,n8⟩:=q8;exact⟨_,(Rel.unmark r8).unset (Inv.Sy (Inv.unmark J8 I.ok) hi),n8⟩
 |brk=>obtain⟨ρ8,r8,n8⟩:=q8;exact⟨_,(Rel.unmark r8).unset (Inv.Sy (Inv.unmark J8 I.ok) hi),n8⟩
 |cont=>obtain⟨ρ8,r8,n8⟩:=q8;exact⟨_,(Rel.unmark r8).unset (Inv.Sy (Inv.unmark J8 I.ok) hi),n8⟩
 |ret v=>obtain⟨x8,d8,r8,h8,n8⟩:=q8;exact⟨x8,d8,r8,h8.Ml λ_ _=>Own.MF,n8⟩
def Iq(K:yac)(c:Value)(te:DE):DE:=λρ Q=>te ρ λd=>∃b,PySem.W.kitOne K (TV d) c=some b/\Q (.bl b)
def jd {p:Pos} {c:Value} (hg:Gl X "isinstance") (hm:X.mg "isinstance" = none) (hx:PE X (.Name x p') (tC cv)) (rc:∀u,RelV cv u->u=c) (he:Mf X e te)
  (OK:starEach [e,.Name x p'] X.env=(false,eval e X.env)::starEach [.Name x p'] X.env:=by rfl) (Sf:starEach [.Name x p'] X.env=(false,eval (.Name x p') X.env)::starEach [] X.env:=by rfl) (V8:(backTo pos (starEach [.Name x p'] X.env)).any (·.1)=false:=by rfl) :
  Mf X (.Call (.Name "isinstance" p) [e,.Name x p'] [] pos) (Iq X.K c te):=by
 intro pins s σ H W ρ Q I rr h;have Yr:PA X [e,.Name x p'] (rY (Ax X te) (rY (tC cv) E3)):=gT he.pe (gT hx nG Sf) OK;refine TP (fx I hg hm boot_isinstance ?_ (by decide) (by decide));refine PyProof.Rows.callWith_builtin1 (LK (Yr pos pins s σ H (λvs H1=>∃v d,vs=[v,cv]/\au H H1/\Den X.K W.bad H1 d v/\∃b,PySem.W.kitOne X.K (TV d) c=some b/\Q (.bl b)) I ⟨W,ρ,_,rr,h,λv H1 d e1 hd q1=>⟨v,d,rfl,e1,hd,q1⟩⟩) λus s1 LO=>?_) OK V8;obtain⟨vs,H1,I1,rv,v,d,ev,e1,hd,b,kb,q1⟩:=LO;subst ev;cases rv with
 |cons r1 rr =>
  cases rr with
  |cons r2 rr =>
   cases rr;have:=rc _ r2;subst this;exact wW I1 hd r1 kb λtk=>⟨.bl _,H1,_,I1.tok tk,rfl,e1,Den.bl _,q1⟩
end
def zU(base:Heap)(l:List Env)(e:Addr)(cls a0:Value)(h:Heap):Prop:=base.StaysIn h/\base.get? e=none/\h.FunFrames base l/\∃fl,h.TracedAtW base e cls a0 fl
section
variable{M:Model}{A:Around}{E:yaa}{s:Shared}{base:Heap}{l outer:List Env}{env:Env}{e L:Addr}{cls a0:Value}
def GS{Q:Unit->Shared->Prop}(hfr:A.frames=some (env::outer))(hf:env.frame=some L)(R:zU base (env::outer) e cls a0 s.heap)
  (h:∀h',zU base (env::outer) e cls a0 h'->s.heap.UpToSlots h'->Q () {s with heap:=h'}):wpAny M A (noteFrame (.ref e) env) Q E s:=by
 obtain⟨k1,k2,k3,fl,oe,vs,T,oT,ts,g1,g2,g3,g4,g5,g6,g7,g8,g9⟩:=id R;by_cases hfl:(fl==rawInt L)=true
 ·have efl:fl=rawInt L:=by simpa using hfl
  subst efl;exact wpAny_noteFrame_againW (base:=base) (cls:=cls) (a0:=a0) hf ⟨oe,vs,T,oT,ts,g1,g2,g3,g4,g5,g6,g7,g8,g9⟩ (h _ R (Heap.UpToSlots.refl _))
 ·obtain⟨ec,g0⟩:=g2;subst ec;unfold noteFrame;simp only[hf];refine LA (wpAny_field g1 g3 g4 ?_);rw[Lx (by simp)];refine LA (wpAny_field g7 g8 g9 ?_);rw[Lw hfl];refine LA (wpAny_setField g7 g8 (UR.mp g9).1 ?_);have Rr:∀b,b≠T->(s.heap.update T (Obj.mapFields (·.setIfInBounds 3 Value.none))).get? b=s.heap.get? b:=λb hb=>VD _ _ (Ne.symm hb)
  have YJ:∀b o,s.heap.get? b=some o->(∀vs,o.data ≠ .fields vs)->b≠T:=λb o hb hn q=>by rw[q,g7]at hb;cases hb;exact hn ts g8
  refine wpAny_entryW (base:=base) hfr (k3.of_keeps λb o hb hn=>⟨o,(Rr b (YJ b o hb hn)).trans hb,rfl⟩) hf ((Rr e (Ne.symm g6)).trans g1) (λb o hb=>(Rr b λq=>by rw[q,g5]at hb;cases hb).trans (k1 b o hb)) k2 g3 (UR.mp g4).1 g0 λh' hN=>?_
  obtain⟨n1,n2,n3,n4⟩:=hN;exact h h' ⟨n1,k2,n2,_,n3⟩ λb o hb hn=>n4 b o ((Rr b (YJ b o hb hn)).trans hb) hn
def Ej{Q:Unit->Shared->Prop}(hfr:A.frames=some (env::outer))(hf:env.frame=some L)(R:zU base (env::outer) e cls a0 s.heap)
  (h:∀h',Heap.FlyingW base outer e cls a0 h'->s.heap.UpToSlots h'->Q () {s with heap:=h'}):wpAny M A (leaving env (.ref e)) Q E s:=by
 unfold leaving;refine LA (GS hfr hf R λh1 R1 s1=>?_);obtain⟨k1,k2,k3,fl,k4⟩:=R1;refine wpAny_setFlight_noneW (base:=base) k1 k3 k4 λh2 m1 m2 m3 m4=>?_
 obtain⟨_,_,m2⟩:=m2;exact h h2 ⟨m1,k2,m2,m3⟩ (s1.trans λb o hb hn=>⟨o.slots,m4 b o hb hn⟩)
end
def z9(X:Cx)(Ed:Value->Prop):Prop:=∀(pins:yab) (σ:St) (H:Hp) (W:Own) (ρ:Ro) (s s':Shared) (ea c:Addr) (H':Hp) (B:Heap) (a0:Value),Inv X pins σ H s->Rel X W H σ ρ->s'.os=s.os->AllBare s'.gens->Fl X.prog X.w X.stack s.heap H H' B s'.heap->au H H'->H' ea=none->s.heap.get? ea=none →
 zU B X.stack ea (.ref c) a0 s'.heap->Ed (.ref c)->X.xe (.ref ea) s'
section
variable{P:Program}{w:World}{K:yac}{mg:yam}{base:Heap}{N:yah}{qual:Str}{sc:Scope}{f:Addr}{cd:Value}{A:Around}{outer:List Env}{LU:Shared}{MK:Hp}{E:XK}
def Kj{Ed:Value->Prop}(hE:∀c a H',au MK H'->Ed c->E c a H'):z9 (dF (CX1 P w) P w K mg base N qual sc f cd A outer LU MK E) Ed:=by
 intro pins σ H W ρ s s' ea c H' B a0 I r os bare F sm hn T5 R hd;show wpAny (model P w) (A.deeper (envOfC qual sc LU.heap.objs.size f cd)) (leaving (envOfC qual sc LU.heap.objs.size f cd) (.ref ea)) _ _ _;refine Ej (outer:=outer) I.ok.frames rfl R λYE x1 x2=>?_
 have I':=I.Q2 os F.un F.Mh bare (by intro b z;cases z);refine wj (s:=s') (h':=YE) I' (r.ent.trans sm) hn ?_ (λb o q z n=>F.Xi b o q (z.elim .inl λMP=>(by obtain⟨o',z⟩:=MP;exact .inr (I.base.there b o' z (by intro q;cases q)))) n) x1 x2 (hE _ _ _ (r.ent.trans sm) hd);cases q:LU.heap.get? ea with
 |none=>rfl
 |some o =>
  obtain⟨o',q'⟩:=I.base.there ea o q (by intro z;cases z);rw[T5]at q';cases q'
end
section
variable{P:Program}{w:World}{K:yac}{mg:yam}{base:Heap}
structure aw(K:yac)(x qual:Str)(st:Stmt)(f:Addr)(fd:FuncData):Prop where
 ex:∃(oc:Value) (od:Option Addr) (dV kV doc pm:Value) (an:Option Addr) (NJ ct:Value) (Ul:Array (yan)),
  fd=PySem.W.fnOf x qual (cT st) (bZ st) (ao st) dV kV doc pm an NJ ct/\K.lookup f=some ⟨oc,od,.func fd,Ul⟩/\PySem.W.codeIn K NJ qual=true
 kp:PySem.W.keepIn K (.ref f)=true
def aw.okC{x qual:Str}{st:Stmt}{f:Addr}{fd:FuncData}{N ps:yah}{k:Nat}{sp:DSp}(F:aw K x qual st f fd)(S:az N ps (ao st))(len:∀ds Q E,sp ds Q E->ds.length=ps.length)
  (Pw:∀(NJ:Value),fd.code=NJ->∀(A:Around) (outer:List Env) (s:Shared) (H:Hp) (E:XK) (Ed:Value->Prop),bN k (A.deeper (envOfC qual (ao st) s.heap.objs.size f NJ))->MadeX (dF (CX1 P w) P w K mg base N qual (ao st) f NJ A outer s H E) Ed->eT (dF (CX1 P w) P w K mg base N qual (ao st) f NJ A outer s H E) Ed->z9 (dF (CX1 P w) P w K mg base N qual (ao st) f NJ A outer s H E) Ed →
   ∃ t,cO (dF (CX1 P w) P w K mg base N qual (ao st) f NJ A outer s H E) (bZ st) t/\∀ds Q,sp ds Q Ed->t {nx:=λ_=>Q .Mj,rt:=Q} (dm N ds)):aJ P w K mg base (CX1 P w) (k+1) f fd ps (aM K sp):=by
 obtain⟨oc,od,dV,kV,doc,pm,an,NJ,ct,Ul,rfl,lk,O4⟩:=F.ex;refine Kh lk O4 S (λvs H Q E h=>?_) λA outer s H vs Q E hr h=>?_
 ·obtain⟨_,ds,_,_,_,_,hd,hs,_⟩:=h;rw[hd.len];exact len ds _ _ hs
 ·obtain⟨Pb,ds,Qd,Ed,hT,hP,hd,hs,kq,ke⟩:=h;obtain⟨t,ht,k⟩:=Pw NJ rfl A outer s H E Ed hr (Km ke) (Ha ke) (Kj ke);refine⟨_,ht.ps,⟨Pb,λ_=>none,λa=>∃o,H a=some o⟩,_,_,Rel.start hP hd rfl hT,k ds Qd hs,λW' Mn H' Ly f r q=>?_,λW' H' v d f Rf q=>?_,λ_ _ _ _ _ _ q=>q,λ_ _ _ _ _ _ q=>q⟩
  ·exact kq .Mj .Mj H' ⟨λb o e n=>f.kp b o (λi z=>by cases z) e n,f.tb,f.ok⟩ Den.Mj q
  ·refine kq d v H' ⟨λb o e n=>f.kp b o (λi z=>by cases z) e n,f.tb,f.ok⟩ (Rf.Ml λt a z=>?_) q;rcases z with z|z
   ·exact .inl (by rw[f.B];exact z)
   ·exact .inr (.inr ⟨z.1,by rw[f.S];exact z.2⟩)
def aw.okX{x qual:Str}{st:Stmt}{f:Addr}{fd:FuncData}{N ps:yah}{k:Nat}{sp:DSp}(F:aw K x qual st f fd)(S:az N ps (ao st))(len:∀ds Q E,sp ds Q E->ds.length=ps.length)
  (Pw:∀(NJ:Value) (A:Around) (outer:List Env) (s:Shared) (H:Hp) (E:XK) (Ed:Value->Prop),bN k (A.deeper (envOfC qual (ao st) s.heap.objs.size f NJ))->MadeX (dF (CX1 P w) P w K mg base N qual (ao st) f NJ A outer s H E) Ed->eT (dF (CX1 P w) P w K mg base N qual (ao st) f NJ A outer s H E) Ed->z9 (dF (CX1 P w) P w K mg base N qual (ao st) f NJ A outer s H E) Ed →
   ∃ t,cO (dF (CX1 P w) P w K mg base N qual (ao st) f NJ A outer s H E) (bZ st) t/\∀ds Q,sp ds Q Ed->t {nx:=λ_=>Q .Mj,rt:=Q} (dm N ds)):aJ P w K mg base (CX1 P w) (k+1) f fd ps (aM K sp):=aw.okC F S len λNJ _=>Pw NJ
def aw.okN{x qual:Str}{st:Stmt}{f:Addr}{fd:FuncData}{N ps:yah}{k:Nat}{sp:DSp}(F:aw K x qual st f fd)(S:az N ps (ao st))(len:∀ds Q E,sp ds Q E->ds.length=ps.length)
  (Pw:∀(NJ:Value) (A:Around) (outer:List Env) (s:Shared) (H:Hp) (E:XK),bN k (A.deeper (envOfC qual (ao st) s.heap.objs.size f NJ)) →
   ∃ t,cO (dF (CX1 P w) P w K mg base N qual (ao st) f NJ A outer s H E).Xf (bZ st) t/\∀ds Q Ed,sp ds Q Ed->t {nx:=λ_=>Q .Mj,rt:=Q} (dm N ds)):aJ P w K mg base (CX1 P w) (k+1) f fd ps (aM K sp) :=
 aw.okX F S len λNJ A outer s H E Ed hr _ _ _=>by obtain⟨t,ht,k⟩:=Pw NJ A outer s H E hr;exact⟨t,ht.Xf,λds Q h=>k ds Q Ed h⟩
def ot{x qual:Str}{st:Stmt}{f:Addr}{oc:Value}{od an:Option Addr}{Ul:Array (yan)}{dV kV doc pm NJ ct:Value}(l:K.lookup f=some ⟨oc,od,.func (PySem.W.fnOf x qual (cT st) (bZ st) (ao st) dV kV doc pm an NJ ct),Ul⟩)
  (c:PySem.W.codeIn K NJ qual=true) (k:PySem.W.keepIn K (.ref f)=true):aw K x qual st f (PySem.W.fnOf x qual (cT st) (bZ st) (ao st) dV kV doc pm an NJ ct):=⟨⟨oc,od,dV,kV,doc,pm,an,NJ,ct,Ul,rfl,l,c⟩,k⟩
end
open PySem PySem.Spec PyProof.Rows L2
def MU(P:Program)(w:World)(K:yac)(mg:yam)(base:Heap)(x:Str)(k:Nat)(ps:yah)(sp:DSp):Prop :=
 ∃ f fd,aJ P w K mg base (CX1 P w) k f fd ps (aM K sp)/\mg x=some (.ref f)/\PySem.W.keepIn K (.ref f)=true/\Binds K fd ps []
section
variable{X:Cx}{k:Nat}{ps:yah}{sp:DSp}{x:Str}{p pos:Pos}{e:Expr}{es:yai}{t:DA}
def F4 (h:MU X.prog X.w X.K X.mg X.base x k ps sp) (hr:bN k X.A) (ha:Qn X (e::es) t) (hg:Gl X x:=by rfl) (Px:(x==("__debug__" : Str))=false:=by decide)
  (he:starEach (e::es) X.env=(false,eval e X.env)::starEach es X.env:=by rfl) (M9:(backTo pos (starEach es X.env)).any (·.1)=false:=by rfl):Mf X (.Call (.Name x p) (e::es) [] pos) (qK sp [] t):=by
 obtain⟨f,fd,F,hm,hk,hb⟩:=h;exact wD (dds:=[]) (dsv:=[]) F hr hg hm hk hb .nil (by simp) AM ha Px he M9
def aq (h:MU X.prog X.w X.K X.mg X.base x k ps sp) (hr:bN n X.A) (ha:Qn X (e::es) t) (hk:k<=n:=by decide) (hg:Gl X x:=by rfl) (Px:(x==("__debug__" : Str))=false:=by decide)
  (he:starEach (e::es) X.env=(false,eval e X.env)::starEach es X.env:=by rfl) (M9:(backTo pos (starEach es X.env)).any (·.1)=false:=by rfl):Mf X (.Call (.Name x p) (e::es) [] pos) (qK sp [] t):=F4 h (hr.mono hk) ha hg Px he M9
def Ga{n:Str}{ep:Pos}{Tf:Stmt}{Q7:yal}(i:Nat)(h:MU X.prog X.w X.K X.mg X.base x k ps sp)(hr:bN k X.A)(hN:X.N.Nodup)(hmx:X.mg y=some (.ref C))(ha:Qn X.Xf (e::es) t)(hsu:∀v,cO (Cx.markX X v) (Tf::Q7) su)
  (hgg:Gl X x:=by rfl) (hgx:Gl X y:=by rfl) (hi:X.N[i]?=some n:=by rfl) (Uw:X.env.scope.names.lookup n=some .local:=by rfl)
  (hex:X.ex=[]:=by rfl) (OK:X.stack=X.env::X.outer:=by rfl) (hef:X.env.frame=some X.env.locals:=by rfl) (Px:(x==("__debug__" : Str))=false:=by decide) (hdx:(y==("__debug__" : Str))=false:=by decide) (he:starEach (e::es) X.env=(false,eval e X.env)::starEach es X.env:=by rfl) (M9:(backTo cp (starEach es X.env)).any (·.1)=false:=by rfl)
  (hs:swapsWith (.Call (.Name x p) (e::es) [] cp) none ep.line X.env=pure false:=by rfl) :
  OF X (.Try [.Expr (.Call (.Name x p) (e::es) [] cp) ep] [.ExceptHandler (some (.Name y np)) (some n) (Tf::Q7) hp] [] [] pos) (DX X.K C i sp t su):=by
 obtain⟨f,fd,F,hm,hk,hb⟩:=h;exact IK i F hr hm hk hb hN hmx ha hsu hgg hgx hi Uw hex OK hef Px hdx he M9 hs
end
theorem Ik{CX:CXT}{P:Program}{w:World}{K:yac}{mg:yam}{base:Heap}{N:yah}{qual:Str}{sc:Scope}{f:Addr}{cd:Value}{A:Around}{outer:List Env}{s:Shared}{H:Hp}{E:XK}:(dF CX P w K mg base N qual sc f cd A outer s H E).K=K:=rfl
theorem HF(c:Addr):TV (.exc c)=.ref c:=rfl
theorem Ck(c:Addr):lV (.exc c)=false:=rfl
def Z9{K:yac}{t c:Value}{b:Bool}(h:PySem.W.kitOne K t c=some b)(R:Bool->Prop):(∃b',PySem.W.kitOne K t c=some b'/\R b')=R b:=by
 apply propext;constructor
 ·rintro⟨b',e,q⟩;rw[h]at e;cases e;exact q
 ·intro q;exact⟨b,h,q⟩
def sp1(R:D->(D->Prop)->Prop):DSp:=λds Q _=>∃a,ds=[a]/\R a Q
def NB(R:D->D->(D->Prop)->Prop):DSp:=λds Q _=>∃a b,ds=[a,b]/\R a b Q
def rS:DSp:=λds Q _=>∃ns:yaf,ds=[.lst false (ns.map .int)]/\ns.length<=63/\Q (.bl true)
theorem ud{K:yac}{P:yak}{H:Hp}:∀ns:yaf,ag K P H (ns.map D.int) (ns.map V.int)
 |[]=>ag.nil
 |n::r=>ag.cons (Den.int n) (ud r)
def Jo{K:yac}{H:Hp}{a:Addr}{ns:yaf}(hl:ns.length<=63)(hS:SqL K H a (ns.map V.int))(hT:ku K H):aM K rS [.ref a] H (λv _=>v=.bl true) λ_ _ _=>False :=
 ⟨λ_=>False,[.lst false (ns.map D.int)],λd=>d=.bl true,λ_=>False,hT,λ_ z=>z.elim,ag.one (Den.lst (λz=>z.elim (λz=>by cases z) id) (.any hS) (ud ns)),⟨ns,rfl,hl,rfl⟩,λd v H' _ hd e=>by subst e;exact hd.Tc,λ_ _ _ _ z=>z.elim⟩
def walk{l:PySem.W.OpenLaw}{q:Program}{loose:yah}{XP:(yam)->Heap->Prop}{YP:World->Heap->Prop}{d:DefRec}{K:Params->yac}{k:Nat}{x:Str}(hn:l.most=some 63)(Yk:d.params.defaults=[])(hr:bN k callerA)
  (hY:∀(w:World) (h:Heap),YP w h->(K w.params).In h) (hT:∀w:World,tabOf (K w.params)=none)
  (F:∀(w:World) (mg:yam) (fa:Addr) (h:Heap),(K w.params).In h->h.Ns mainGlobals mg->mg d.name=some (.ref fa) →
   ∃ fd:FuncData,(∀(s:Shared) (u:Value),BindsTo s fd ⟨[u],[]⟩ [(x,u)])/\∀base:Heap,(K w.params).In base->base.Ns mainGlobals mg->aJ l.prog w (K w.params) mg base (CX1 l.prog w) k fa fd [x] (aM (K w.params) rS)) :
  PySem.W.WalkO q loose XP YP l.row.toRowW d [] (λf vs=>PySem.call f vs) :=
 L2.HH (n:=63) (k:=k) (x:=x) (CX:=λw=>CX1 l.prog w) (sp:=λw=>aM (K w.params) rS) hn (by decide) Yk hr hY F (λw _ a ns hl hO hS=>Jo hl hS ⟨λP ps e=>(by rcases hO P with z|⟨o,xs,z⟩<;>rw[z]at e<;>cases e),λP e=>(by rw[hT w]at e;cases e)⟩) λ_ _ _ _ _ z=>by obtain⟨_,_,_,_,_,_,_,_,_,_,_,_,_,q⟩:=z;exact q.elim
def Xk{α:Type}(a:α)(r:List α):NY (a::r) 0=some a:=dU (j:=0) rfl
def at1{α:Type}(a b:α)(r:List α):NY (a::b::r) 1=some b:=dU (j:=1) rfl
def at2{α:Type}(a b c:α)(r:List α):NY (a::b::c::r) 2=some c:=dU (j:=2) rfl
def at3{α:Type}(a b c d:α)(r:List α):NY (a::b::c::d::r) 3=some d:=dU (j:=3) rfl
theorem EL(ds:yas)(i:Int)(Q:D->Prop):tF (.tup ds) (.int i) Q=∃d,NY ds i=some d/\Q d:=rfl
theorem xw(t:Bool)(ds:yas)(i:Int)(Q:D->Prop):tF (.lst t ds) (.int i) Q=∃d,NY ds i=some d/\Q d:=rfl
theorem cN(i:Int):aX (.int i)=.int i:=rfl
theorem E6(b:Bool):aX (.bl b)=.bl b:=rfl
theorem uE:aX .Mj=.Mj:=rfl
theorem Dq(x:Str):aX (.str x)=.str x:=rfl
theorem Dm(c:Addr):aX (.exc c)=.exc c:=rfl
theorem eQ(ds:yas):aX (.tup ds)=.tup (bq ds):=rfl
theorem Dp(t:Bool)(ds:yas):aX (.lst t ds)=.lst false (bq ds):=rfl
theorem dO:bq []=[]:=rfl
theorem cP(d:D)(ds:yas):bq (d::ds)=aX d::bq ds:=rfl
theorem dN{α:Type}(f:α->D)(h:∀x,aX (f x)=f x):∀xs:List α,bq (xs.map f)=xs.map f
 |[]=>by rw[R7,bq]
 |x::r=>by rw[MR,bq,h,dN f h r]
def yQ(ns:yaf):bq (ns.map D.int)=ns.map D.int:=dN _ cN ns
theorem zH(C:Int->Int->Prop)(g:Int->Int->D)(i j:Int)(Q:D->Prop):Vb C g (.int i) (.int j) Q=(C i j/\Q (g i j)):=rfl
theorem dI(g:Int->Int->D)(i j:Int)(Q:D->Prop):gw g (.int i) (.int j) Q=Q (g i j):=rfl
theorem IC(d:D)(r:Ro)(Q:D->Prop):ky 0 (some (.val d)::r) Q=Q d:=rfl
theorem ID(n:Nat)(x:Option Sl)(r:Ro)(Q:D->Prop):ky (n+1) (x::r) Q=ky n r Q:=rfl
theorem KA(x y:Option Sl)(r:Ro):List.set (x::r) 0 y=y::r:=rfl
theorem KC(n:Nat)(x y:Option Sl)(r:Ro):List.set (x::r) (n+1) y=x::List.set r n y:=rfl
def Ke(k:Bool)(R:Bool->Prop):(∃c,(D.bl k)=.bl c/\R c)=R k:=by
 apply propext;constructor
 ·rintro⟨c,e,q⟩;cases e;exact q
 ·intro q;exact⟨k,rfl,q⟩
def IT(k:Int)(R:Int->Prop):(∃c,(D.int k)=.int c/\R c)=R k:=by
 apply propext;constructor
 ·rintro⟨c,e,q⟩;cases e;exact q
 ·intro q;exact⟨k,rfl,q⟩
def Gh{α:Type}(k:α)(R:α->Prop):(∃c,some k=some c/\R c)=R k:=by
 apply propext;constructor
 ·rintro⟨c,e,q⟩;cases e;exact q
 ·intro q;exact⟨k,rfl,q⟩
def RS(a b c:D):([a,b,c]:yas).length<=sizeLine:=by rw[sizeLine_eq];show 3<=16777216;decide
def sz2(a b:D):([a,b]:yas).length<=sizeLine:=by rw[sizeLine_eq];show 2<=16777216;decide
def Vh(a:D):([a]:yas).length<=sizeLine:=by rw[sizeLine_eq];show 1<=16777216;decide
def sz4(a b c d:D):([a,b,c,d]:yas).length<=sizeLine:=by rw[sizeLine_eq];show 4<=16777216;decide
def GL(t:Bool)(xs:yas)(R:yas->Prop):(∃ys,((∃t',[D.lst t xs]=[.lst t' ys]) ∨ [D.lst t xs]=[.tup ys])/\R ys)=R xs:=by
 apply propext;constructor
 ·rintro⟨c,e,q⟩;rcases e with⟨_,e⟩| e
  ·cases e;exact q
  ·cases e
 ·intro q;exact⟨xs,.inl ⟨t,rfl⟩,q⟩
def GN(xs:yas)(R:yas->Prop):(∃ys,((∃t',[D.tup xs]=[.lst t' ys]) ∨ [D.tup xs]=[.tup ys])/\R ys)=R xs:=by
 apply propext;constructor
 ·rintro⟨c,e,q⟩;rcases e with⟨_,e⟩| e
  ·cases e
  ·cases e;exact q
 ·intro q;exact⟨xs,.inr rfl,q⟩
def JG(a b:D)(R:D->D->Prop):(∃d e,[a,b]=[d,e]/\R d e)=R a b:=by
 apply propext;constructor
 ·rintro⟨_,_,e,q⟩;cases e;exact q
 ·intro q;exact⟨a,b,rfl,q⟩
def GH (ds:yas):Ut "tuple" (.tup ds)=true:=by
 show(("tuple" : String) == "tuple" || (("tuple" : String) == "bool" && ("tuple" : String) == "int"))=true;decide
def GG (t:Bool) (ds:yas):Ut "list" (.lst t ds)=true:=by
 show(("list" : String) == "list" || (("list" : String) == "bool" && ("list" : String) == "int"))=true;decide
def Cq (ds:yas):Ut "list" (.tup ds)=false:=by
 show(("tuple" : String) == "list" || (("tuple" : String) == "bool" && ("list" : String) == "int"))=false;decide
def GF (i:Int):Ut "int" (.int i)=true:=by
 show(("int" : String) == "int" || (("int" : String) == "bool" && ("int" : String) == "int"))=true;decide
def Au (i:Int):Ut "bool" (.int i)=false:=by
 show(("int" : String) == "bool" || (("int" : String) == "bool" && ("bool" : String) == "int"))=false;decide
theorem Co:lV .Mj=true:=rfl
theorem Cp(ds:yas):lV (.tup ds)=false:=rfl
theorem Cn(t:Bool)(ds:yas):lV (.lst t ds)=false:=rfl
theorem Cm(i:Int):lV (.int i)=false:=rfl
def GX(i:Int):okD (.int i):=by unfold okD;rw[Nv,Q5]<;>first|exact⟨rfl,rfl⟩| (intros;contradiction)
def GY:okD .Mj:=by unfold okD;rw[Nv,Q5]<;>first|exact⟨rfl,rfl⟩| (intros;contradiction)
def Jy(a b c:Int):okD (.tup [.int a,.int b,.int c]):=by unfold okD;simp only[Nv,b7,Q5,l4];exact⟨rfl,rfl⟩
def B4(a b c x y z:Int):eqD (.tup [.int a,.int b,.int c]) (.tup [.int x,.int y,.int z])=(decide (a=x) && (decide (b=y) && decide (c=z))):=by unfold eqD;simp only[Nv,b7,PyData.eqv,PyData.eqvAll,Bool.and_true];rfl
noncomputable abbrev T3(a b c:Int):D:=.tup [.int a,.int b,.int c]
def CD.lit{n:Int}(h:n≠0/\n.natAbs<2 ^ 64:=by decide):CD i n:=⟨h.1,OM h.2 (XM (by decide) (by decide))⟩
def Ho(a b:Int)(R:Int->Int->Prop):(∃i j:Int,[D.int a,D.int b]=[.int i,.int j]/\R i j)=R a b:=by
 apply propext;constructor
 ·rintro⟨_,_,e,q⟩;cases e;exact q
 ·intro q;exact⟨a,b,rfl,q⟩
def Hn(a:Int)(R:Int->Prop):(∃i:Int,[D.int a]=[.int i]/\R i)=R a:=by
 apply propext;constructor
 ·rintro⟨_,e,q⟩;cases e;exact q
 ·intro q;exact⟨a,rfl,q⟩
def DC{ns:yaf}{k:Int}(h0:0<=k)(h1:k<ns.length):NY (ns.map D.int) k=some (.int (ns.getD k.toNat 0)):=by
 have e:k=((k.toNat:Nat):Int):=by lia
 have hl:k.toNat<ns.length:=by lia
 have q:NY (ns.map D.int) ((k.toNat:Nat):Int)=some (.int (ns.getD k.toNat 0)):=dU (by simp[OD,MZ hl,OZ]);rw[<- e]at q;exact q
def yr{xs ys:yaf}(h:xs.map D.int=ys.map D.int):xs=ys:=by
 induction xs generalizing ys with
 |nil=>cases ys with
  |nil=>rfl
  |cons y r=>simp at h
 |cons x r ih=>cases ys with
  |nil=>simp at h
  |cons y q =>
   simp only[MR,PQ,D.int.injEq]at h;rw[h.1,ih h.2]
def As(n:Nat)(t:Uu)(ds:yas)(h:ds.length=n)(ρ:Ro)(Q:Ro->Prop):oz n t (.tup ds) ρ Q=t ds ρ Q:=by
 apply propext;unfold oz;constructor
 ·rintro⟨SD,e,_,h⟩;rcases e with e|⟨_,e⟩
  ·cases e;exact h
  ·cases e
 ·intro q;exact⟨ds,.inl rfl,h,q⟩
def gdc(g:DG)(u:Uu)(x:D)(r:yas)(ρ:Ro)(Q:Ro->Prop):cY g u (x::r) ρ Q=g x ρ λLy=>u r Ly Q:=by
 apply propext;unfold cY;constructor
 ·rintro⟨d,r',e,h⟩;cases e;exact h
 ·intro h;exact⟨x,r,rfl,h⟩
def gdn(ρ:Ro)(Q:Ro->Prop):ow [] ρ Q=Q ρ:=by apply propext;unfold ow;simp
def Jb(g1 g2 g3 g4:DG)(a b c d:D)(ρ:Ro)(Q:Ro->Prop):oz 4 (cY g1 (cY g2 (cY g3 (cY g4 ow)))) (.tup [a,b,c,d]) ρ Q=g1 a ρ λPh=>g2 b Ph λNP=>g3 c NP λSg=>g4 d Sg Q:=by
 (first|rw[As 2 _ _ rfl]|rw[As 4 _ _ rfl]);simp only[gdc,gdn]
section
variable{X:Cx}{pos:Pos}
def Rel.YK{i:Nat}{o:HO}(r:Rel X W H σ ρ)(hi:i<σ.length)(sm:au H H')(hp:H p=none)(hk:X.K.lookup p=none)(h':H' p=some o)(hd:cS X.K (λt b=>W.bad t b∨b=p) H' (W.sub σ.length i) x o) :
  Rel X ((W.drop i).put i p) H' (σ.set i (some (.ref p))) (ρ.set i (some (.ob x)))/\Mt W H ((W.drop i).put i p) H':=by
 have hO:∀j a,((W.drop i).put i p).O j=some a->(j=i/\a=p)∨(j≠i/\W.O j=some a):=λj a h=>by
  have h1:(if j=i then some p else(if j=i then none else W.O j))=some a:=h;by_cases e:j=i
  ·rw[Lx e]at h1;cases h1;exact .inl ⟨e,rfl⟩
  ·rw[Lw e,Lw e]at h1;exact .inr ⟨e,h1⟩
 have hOi:((W.drop i).put i p).O i=some p:=by show(if i=i then some p else _)=_;rw[Lx rfl]
 have hOj:∀j,j≠i->((W.drop i).put i p).O j=W.O j:=λj n=>by show(if j=i then some p else(if j=i then none else W.O j))=_;rw[Lw n,Lw n]
 have hS:∀j k b,W.sub σ.length j k=some b->((W.drop i).put i p).sub σ.length j k=some b:=λj k b e=>(hOj _ (sj hi)).trans e
 have QC:∀t a,((W.drop i).put i p).bad t a->W.bad t a∨a=p:=λt a z=>by
  rcases z with z|⟨j,z⟩| z
  ·exact .inl (.inl z)
  ·rcases hO j a z with⟨_,q⟩| ⟨_,q⟩
   ·exact .inr q
   ·exact .inl (.inr (.inl ⟨j,q⟩))
  ·exact .inl (.inr (.inr z))
 have nb:∀{t:Bool} {a:Addr} {ws:yar},OI X.K H t a ws->a≠p:=fun {t a ws} q z=>by
  subst z;rcases q.1 with(q|⟨o,q⟩)|⟨o,LC,n,q,_⟩
  ·rw[hp]at q;cases q
  ·rw[hp]at q;cases q
  ·rw[hk]at q;cases q
 have up:∀(d:D) (v:V),Den X.K W.bad H d v->Den X.K ((W.drop i).put i p).bad H' d v:=Den.map (λ_ _ q=>M6.same sm q) (λt a ws n q=>⟨λz=>(QC t a z).elim n (nb q),q.same sm⟩) (λa _ n q=>sm.kp a _ q n.nt);have ups:∀(ds:yas) (vs':yar),ag X.K W.bad H ds vs'->ag X.K ((W.drop i).put i p).bad H' ds vs':=ag.map (λ_ _ q=>M6.same sm q) (λt a ws n q=>⟨λz=>(QC t a z).elim n (nb q),q.same sm⟩) (λa _ n q=>sm.kp a _ q n.nt);refine⟨⟨λj d h=>?_,λj x h=>?_,λj k a h1 h2=>?_,λj a h1=>?_,λj a h1=>?_,λa h=>let ⟨_,q⟩:=r.bt a h;sm.ex q,λa h=>let ⟨_,q⟩:=r.st a h;sm.ex q,r.ent.trans sm,r.tab.same sm⟩,rfl,rfl,λb o _ q n=>sm.kp b o q n,λj a h=>?_,sm.tb,sm.ok⟩
 ·by_cases hj:j=i
  ·subst hj;rw[List.getElem?_set]at h;split at h
   ·split at h<;>cases h
   ·lia
  ·rw[Qi (Ne.symm hj)]at h;obtain⟨w,h1,h2⟩:=r.val j d h;exact⟨w,by rw[Qi (Ne.symm hj)];exact h1,up d w h2⟩
 ·by_cases hj:j=i
  ·subst hj;rw[List.getElem?_set]at h;split at h
   ·split at h
    ·cases h;exact⟨p,_,hOi,by simp[hi],h',by rw[W4];exact hd.Ml (λt a z=>QC t a z) (hS _)⟩
    ·cases h
   ·lia
  ·rw[Qi (Ne.symm hj)]at h;obtain⟨a,ws,h1,h2,h3,h4⟩:=r.own j x h;exact⟨a,ws,(hOj j hj).trans h1,by rw[Qi (Ne.symm hj)];exact h2,sm.kp _ _ h3 h4.Sd.nt,by rw[W4];exact h4.map ups λk b q=>⟨hS j k b q,λ_ z=>sm _ _ z⟩⟩
 ·rcases hO j a h1 with⟨e1,q1⟩| ⟨e1,q1⟩<;>rcases hO k a h2 with⟨e2,q2⟩| ⟨e2,q2⟩
  ·rw[e1,e2]
  ·subst q1;obtain⟨_,_,ws,q,_⟩:=r.kn k _ q2;rw[hp]at q;cases q
  ·subst q2;obtain⟨_,_,ws,q,_⟩:=r.kn j _ q1;rw[hp]at q;cases q
  ·exact r.inj j k a q1 q2
 ·rcases hO j a h1 with⟨e1,q1⟩| ⟨e1,q1⟩
  ·subst q1;exact⟨hk,⟨λz=>(by obtain⟨o,q⟩:=r.bt _ z;rw[hp]at q;cases q),λz=>(by obtain⟨o,q⟩:=r.st _ z;rw[hp]at q;cases q)⟩,_,h',hd.Sd⟩
  ·obtain⟨a1,a2,ws,a3,a4⟩:=r.kn j a q1;exact⟨a1,a2,ws,sm.kp _ _ a3 a4.nt,a4⟩
 ·rcases hO j a h1 with⟨e1,q1⟩| ⟨e1,q1⟩
  ·subst q1;exact r.ent.free hp
  ·exact r.ke j a q1
 ·rcases hO j a h with⟨e1,q1⟩| ⟨e1,q1⟩
  ·subst q1;exact .inr hp
  ·exact .inl ⟨j,q1⟩
def Rel.RT{i:Nat}(r:Rel X W H σ ρ)(hi:i<σ.length)(sm:au H H')(hp:H p=none)(hk:X.K.lookup p=none)(h':H' p=some (.lst vs))(hd:ag X.K (λt b=>W.bad t b∨b=p) H' ds vs) :
  Rel X ((W.drop i).put i p) H' (σ.set i (some (.ref p))) (ρ.set i (some (.own ds)))/\Mt W H ((W.drop i).put i p) H':=r.YK hi sm hp hk h' (.lst hd)
def ag.apart{K:yac}{H:Hp}(n:H a=none)(k:K.lookup a=none)(h:ag K P H ds us)(nt:NT o:=by exact True.intro):ag K (λt b=>P t b∨b=a) (L2.upd H a o) ds us :=
 ag.map (λ_ _ q=>M6.same (au.upd n nt) q) (λt b ws p q=>⟨(λz=>z.elim p λz=>by
  subst z;rcases q.1 with(q|⟨o,q⟩)|⟨o,LC,m,q,_⟩
  ·rw[n]at q;cases q
  ·rw[n]at q;cases q
  ·rw[k]at q;cases q),q.same (au.upd n nt)⟩) (λb _ m q=>(au.upd n nt).kp b _ q m.nt) ds us h
def Rel.YL{i:Nat}{a:Addr}{o:HO}(r:Rel X W H σ ρ)(eo:ρ[i]?=some (some (.ob x)))(oa:W.O i=some a)(sa:σ[i]?=some (some (.ref a)))(ha:H a=some o)(hm:jA o)(hd:cS X.K W.bad H (W.sub σ.length i) x' o') :
  Rel X W (L2.upd H a o') σ (ρ.set i (some (.ob x')))/\Mt W H W (L2.upd H a o'):=by
 have badA:∀t,W.bad t a:=λ_=>.inr (.inl ⟨i,oa⟩)
 have Wc:∀b ws,M6 X.K H b ws->M6 X.K (L2.upd H a o') b ws:=λb ws q=>by show L2.upd _ _ _ _=_;rw[aD (lW q ha (by intro z;subst z;exact hm))];exact q
 have We:∀t b ws,¬W.bad t b->OI X.K H t b ws->¬W.bad t b/\OI X.K (L2.upd H a o') t b ws:=λt b ws n q=>by
  have NK:b≠a:=λe=>n (e ▸ badA t)
  refine⟨n,?_,λz=>⟨by rw[aD NK];exact(q.2 z).1,(q.2 z).2⟩⟩;rcases q.1 with(q|⟨u,q⟩)|q
  ·exact .inl (.inl (by rw[aD NK];exact q))
  ·exact .inl (.inr ⟨u,by rw[aD NK];exact q⟩)
  ·exact .inr q
 have Wf:∀b u,TX u->H b=some u->L2.upd H a o' b=some u:=λb u n q=>by rw[aD (lW q ha (by intro z;subst z;exact hm.sol n))];exact q
 have QD:i<ρ.length:=(OC.mp eo).1;have il:i<σ.length:=(OC.mp sa).1;have hSb:∀j k b,W.sub σ.length j k=some b->W.sub σ.length j k=some b/\∀us,H b=some (.lst us)->L2.upd H a o' b=some (.lst us):=λj k b q=>⟨q,λus z=>by rw[aD (λe=>sj il (r.inj _ _ a (by rw[<- e];exact q) oa))];exact z⟩
 have tr:∀b u,H b=some u->∃u',L2.upd H a o' b=some u':=λb u q=>by
  by_cases Vi:b=a
  ·subst Vi;exact⟨_,aV⟩
  ·exact⟨u,by rw[aD Vi];exact q⟩
 refine⟨⟨λj d h=>?_,λj y h=>?_,r.inj,λj b hb=>?_,r.ke,λb hb=>let ⟨u,q⟩:=r.bt b hb;tr b u q,λb hb=>let ⟨u,q⟩:=r.st b hb;tr b u q,r.ent.ins (r.ke i a oa) ha hm hd.Sd.nt,r.tab.upd hd.Sd.nt (.inr ⟨o,ha,hm.ne,hm.nt⟩)⟩,Mt.upd oa ha hm hd.Sd.nt⟩
 ·by_cases hj:j=i
  ·subst hj;rw[TL QD]at h;cases h
  ·rw[Qi (Ne.symm hj)]at h;obtain⟨w,h1,h2⟩:=r.val j d h;exact⟨w,h1,Den.map Wc We Wf d w h2⟩
 ·by_cases hj:j=i
  ·subst hj;rw[TL QD]at h;cases h;exact⟨a,o',oa,sa,aV,hd.map (ag.map Wc We Wf) (hSb _)⟩
  ·rw[Qi (Ne.symm hj)]at h;obtain⟨b,ws,h1,h2,h3,h4⟩:=r.own j y h;have NK:b≠a:=λe=>hj (r.inj j i a (by rw[<- e];exact h1) oa)
   exact⟨b,ws,h1,h2,by rw[aD NK];exact h3,h4.map (ag.map Wc We Wf) (hSb _)⟩
 ·obtain⟨k1,k2,ws,k3,k4⟩:=r.kn j b hb;refine⟨k1,k2,?_⟩;by_cases Vi:b=a
  ·subst Vi;exact⟨_,aV,hd.Sd⟩
  ·exact⟨ws,by rw[aD Vi];exact k3,k4⟩
def Rel.Sd{i:Nat}{a:Addr}(r:Rel X W H σ ρ)(eo:ρ[i]?=some (some (.own ds)))(oa:W.O i=some a)(sa:σ[i]?=some (some (.ref a)))(ha:H a=some (.lst vs))(hd:ag X.K W.bad H SD vs') :
  Rel X W (L2.upd H a (.lst vs')) σ (ρ.set i (some (.own SD)))/\Mt W H W (L2.upd H a (.lst vs')):=r.YL eo oa sa ha True.intro (.lst hd)
variable{es:yai}{t:DA}
def Iv(i:Nat)(t:DA):DS:=λE ρ=>t ρ λds=>ds.length<=sizeLine/\E.nx (ρ.set i (some (.own ds)))
def jF{x:Str}(i:Nat)(hN:X.N.Nodup)(h:Qn X es t)(hi:X.N[i]?=some x:=by rfl)(hx:Loc X.env.scope x:=by first|exact Or.inl rfl|exact Or.inr rfl)
  (hs:swapsWith (.List es YM) (some (.Name x pos')) pos.line X.env=pure false:=by rfl) (hf:X.fn x=true∨X.env.scope.names.lookup x=some .local:=by first|exact .inl rfl|exact .inr rfl|assumption) :
  OF X (.Assign [.Name x pos'] (.List es YM) pos) (Iv i t):=by
 intro pins s σ H W ρ E I r hq;refine wpAny_Assign_Name (wpAny_List_spliced (LK (h YM pins s σ H W ρ _ I r hq) λus s1 LO=>?_)) hs;obtain⟨vs,H1,ds,I1,rv,e1,hd,z,q⟩:=LO;rw[<- hd.len]at z;refine⟨by rw[<- rv.length];exact z,?_⟩;have hf1:H1 s1.heap.objs.size=none:=I1.Mh.fresh (Mw _);have I2:=I1.laid (o:=.lst vs) (t':=s1.toks) (λb u e=>Oi _ e) (Mw _) ⟨z,us,0,rv,Qu _ rfl⟩;have rp:=(r.same e1).RT (Inv.Sy I1 hi) (au.upd (o:=.lst vs) hf1) hf1 (Inv.N9 I1) aV (ag.apart hf1 (Inv.N9 I1) hd);exact eO (v:=.ref s1.heap.objs.size) I2 hN hi hx rfl (λs2 I3=>⟨_,_,_,I3,(Mt.same e1).trans rp.2,_,rp.1,q⟩) hf
def yY(i:Nat)(te:DE):DS:=λE ρ=>∃ds,ρ[i]?=some (some (.own ds))/\te ρ λd=>ds.length<sizeLine/\E.nx (ρ.set i (some (.own (ds++[d]))))
def dA{x:Str}{apos:Pos}(i:Nat)(he:Mf X e te)(hi:X.N[i]?=some x:=by rfl)(hv:S6 X.env.scope x:=by first|exact Or.inl rfl|exact Or.inr (Or.inl rfl)|exact Or.inr (Or.inr rfl))
  (hd:(x==("__debug__" : Str))=false:=by decide) (O4:(x==("__classdict__" : Str))=false:=by decide)
  (N7:attributeBase (.Name x px) "append" X.env (eval (.Name x px) X.env)=eval (.Name x px) X.env:=by rfl)
  (Tb:((backTo Me (starEach [e] X.env)).all (λx=>!x.1) && (backToKw Me (keywordEach [] X.env)).all (λx=>x.1.isSome) && decide ([e].length+([]:List Keyword).length+(if([]:List Keyword).isEmpty then 0 else 1)<30))=true:=by rfl)
  (N8:(apos.endLine==Me.line)=true:=by rfl) (OK:starEach [e] X.env=(false,eval e X.env)::starEach [] X.env:=by rfl) (Py:(backTo Me (starEach [] X.env)).any (·.1)=false:=by rfl)
  (hs:swapsWith (.Call (.Attribute (.Name x px) "append" apos) [e] [] Me) none pos.line X.env=pure false:=by rfl) :
  OF X (.Expr (.Call (.Attribute (.Name x px) "append" apos) [e] [] Me) pos) (yY i te):=by
 have P0:=tE (pos:=pos) (FC PySem.F.plainAttrs_list PySem.F.slot_list_append PySem.F.type_list_append uw (iJ hi hv hd O4) (gT he.pe nG OK) N7 Tb N8 OK Py) hs;refine OF.of P0 λσ H W ρ E r hl h=>?_
 obtain⟨ds,eo,h⟩:=h;obtain⟨a,vs,oa,sa,ha,Ni⟩:=r.Rp i ds eo;refine⟨.ref a,sa,.inl ⟨rfl,_,SqL.of ha⟩,W,ρ,_,r,h,λv H' d e1 Rf q=>?_⟩;obtain⟨z,q⟩:=q;have SA:=e1 _ _ ha;have r':=r.same e1;have Rt:=Ni.same e1;refine⟨a,vs,v,rfl,rfl,SA,by rw[Rt.len];exact z,?_⟩;obtain⟨r2,f2⟩:=r'.Sd (vs':=vs++[v]) eo oa sa SA (Rt.append (ag.one Rf));exact⟨W,_,(Mt.same e1).trans f2,r2,q⟩
def Rel.freeze{X:Cx}{i:Nat}(r:Rel X W H σ ρ)(e:ρ[i]?=some (some (.own ds))):Rel X (W.drop i) H σ (ρ.set i (some (.val (.lst true ds)))):=by
 obtain⟨a,vs,oa,sa,ha,Ni⟩:=r.Rp i ds e;have il:i<σ.length:=(OC.mp sa).1;have QD:i<ρ.length:=(OC.mp e).1;have nb:¬(W.drop i).bad true a:=λz=>by
  rcases z with z|⟨j,z⟩| ⟨_,z⟩
  rotate_right
  ·exact(r.kn i a oa).2.1.2 z
  ·exact(r.kn i a oa).2.1.1 z
  ·have z':(if j=i then none else W.O j)=some a:=z;by_cases ej:j=i
   ·rw[Lx ej]at z';cases z'
   ·rw[Lw ej]at z';exact ej (r.inj j i a z' oa)
 have hd:Den X.K (W.drop i).bad H (.lst true ds) (.ref a):=Den.lst nb (.new ha (r.kn i a oa).1) (Ni.Ml λ_ _=>Own.MF);refine⟨λj x h=>?_,λj x h=>?_,λj k b h1 h2=>?_,λj b h1=>?_,λj b h1=>?_,r.bt,r.st,r.ent,r.tab⟩
 ·by_cases hj:j=i
  ·subst hj;rw[TL QD]at h;cases h;exact⟨.ref a,sa,hd⟩
  ·rw[Qi (Ne.symm hj)]at h;obtain⟨w,h1,h2⟩:=r.val j x h;exact⟨w,h1,h2.Ml λ_ _=>Own.MF⟩
 ·by_cases hj:j=i
  ·subst hj;rw[TL QD]at h;cases h
  ·rw[Qi (Ne.symm hj)]at h;obtain⟨b,ws,h1,h2,h3,h4⟩:=r.own j x h;exact⟨b,ws,by show(if j=i then none else W.O j)=_;rw[Lw hj];exact h1,h2,h3,h4.Ml (λ_ _=>Own.MF) (Own.Pz il)⟩
 ·have Nc:(if j=i then none else W.O j)=some b:=h1;have OO:(if k=i then none else W.O k)=some b:=h2;by_cases e1:j=i
  ·rw[Lx e1]at Nc;cases Nc
  ·by_cases e2:k=i
   ·rw[Lx e2]at OO;cases OO
   ·rw[Lw e1]at Nc;rw[Lw e2]at OO;exact r.inj j k b Nc OO
 ·have Nc:(if j=i then none else W.O j)=some b:=h1;by_cases e1:j=i
  ·rw[Lx e1]at Nc;cases Nc
  ·rw[Lw e1]at Nc;exact r.kn j b Nc
 ·have Nc:(if j=i then none else W.O j)=some b:=h1;by_cases e1:j=i
  ·rw[Lx e1]at Nc;cases Nc
  ·rw[Lw e1]at Nc;exact r.ke j b Nc
def y4(i:Nat)(t:DS):DS:=λE ρ=>∃ds,ρ[i]?=some (some (.own ds))/\t E (ρ.set i (some (.val (.lst true ds))))
def cI{t:DS}(i:Nat)(h:cO X sts t):cO X sts (y4 i t):=by intro pins s σ H W ρ E I r hq;obtain⟨ds,e,hq⟩:=hq;exact LK (h pins s σ H (W.drop i) _ E I (r.freeze e) hq) λ_ _ z=>z.up (Mt.drop W H i)
end
noncomputable def ft(env:Env)(ns:yah):List (Str×Addr):=ns.filterMap λn=>(env.cells.lookup n).map λc=>(n,c)
theorem lM:∀{ns:yah} {x:Str} {c:Addr},(ft env ns).lookup x=some c->env.cells.lookup x=some c
 |[],_,_,h=>by cases h
 |n::r,x,c,h=>by
  unfold ft at h;rw[XN]at h;cases e:env.cells.lookup n with
  |none =>
   rw[e]at h;exact lM (ns:=r) h
  |some c' =>
   rw[e]at h;have h':List.lookup x ((n,c')::ft env r)=some c:=h;rw[SV]at h';cases q:x==n with
   |true =>
    rw[q]at h';have ex:x=n:=by simpa using q
    subst ex;rw[e];exact h'
   |false =>
    rw[q]at h';exact lM (ns:=r) h'
theorem pK{env:Env}:∀{ns:yah} {x:Str} {c:Addr},x∈ns->env.cells.lookup x=some c->(ft env ns).lookup x=some c
 |[],_,_,h,_=>by cases h
 |n::r,x,c,h,e=>by
  unfold ft;rw[XN];by_cases ex:x=n
  ·subst ex;rw[e];show List.lookup x ((x,c)::_)=some c;simp[SV]
  ·have h':x∈r:=by
    rcases L9.mp h with z|z
    ·exact absurd z ex
    ·exact z
   have ih:=pK (ns:=r) h' e;cases q:env.cells.lookup n with
   |none=>exact ih
   |some c' =>
    show List.lookup x ((n,c')::ft env r)=some c;rw[SV];have:(x==n)=false:=by simpa using ex
    rw[this];exact ih
structure Wg(osc sc:Scope)(xs ns:yah):Prop where
 kind:sc.kind=.function
 Tg:∀y∈sc.names,y.2 ≠ .cell
 names:∀y∈sc.names,y.2=.local->sc.names.lookup y.1=some .local
 tgt:∀x∈xs,sc.names.lookup x=some .local
 free:∀y∈sc.names,y.2=.free->y.1∈ns/\osc.names.lookup y.1=some .cell
 cells:∀n∈ns,sc.names.lookup n=some .free/\osc.names.lookup n=some .cell
 nd:(xs++ns).Nodup
def bj(X:Cx)(sc:Scope)(ns xs:yah)(C:Addr)(LN:Shared)(Mo:Hp)(fp:yae)(XE:yaa):Cx :=
 {X with N:=xs++ns,LU:=LN,MK:=Mo,env:=compEnvC sc (ft X.env ns) C X.env,outer:=X.stack,stack:=X.stack,ex:=fp,fn:=λ_=>false,pn:=[],xe:=XE}
theorem lg{env:Env}(hk:env.scope.kind=.function):∀{names:List (Str×NameKind)} {n:Str},names.lookup n=some .free->env.kindOf n=some .cell →
  (names.map λ(n,k)=>if(k==NameKind.free && env.scope.kind==.function && env.kindOf n==some .cell)then(n,NameKind.cell)else(n,k)).lookup n=some .cell
 |[],_,h,_=>by simp at h
 |(m,k)::r,n,h,hc=>by
  have ih:=@lg env hk r n;show List.lookup n ((if(k==NameKind.free && env.scope.kind==.function && env.kindOf m==some .cell)=true then(m,NameKind.cell)else(m,k))::_)=_;cases hx:n==m with
  |true =>
   simp only[SV,hx]at h;cases h;have e:n=m:=by simpa using hx
   subst e;rw[hk,hc];simp[SV]
  |false =>
   simp only[SV,hx]at h;by_cases Pu:(k==NameKind.free && env.scope.kind==.function && env.kindOf m==some .cell)=true
   ·rw[Lx Pu];simp only[SV,hx];exact ih h hc
   ·rw[Lw Pu];simp only[SV,hx];exact ih h hc
theorem kD{env:Env}:∀{names:List (Str×NameKind)} {n:Str} {k:NameKind},
  (names.map λ(n,k)=>if(k==NameKind.free && env.scope.kind==.function && env.kindOf n==some .cell)then(n,NameKind.cell)else(n,k)).lookup n=some k->(k=.cell∨k=.free) →
  (∃y∈names,y.1=n/\y.2=.free)∨∃ y∈names,y.1=n/\y.2=.cell
 |[],_,_,h,_=>by simp at h
 |(m,j)::r,n,k,h,hk=>by
  have h':List.lookup n ((if(j==NameKind.free && env.scope.kind==.function && env.kindOf m==some .cell)=true then(m,NameKind.cell)else(m,j))::(r.map λ(n,k)=>if(k==NameKind.free && env.scope.kind==.function && env.kindOf n==some .cell)then(n,NameKind.cell)else(n,k)))=some k:=h;have up:((∃y∈r,y.1=n/\y.2=.free)∨∃ y∈r,y.1=n/\y.2=.cell)->((∃y∈(m,j)::r,y.1=n/\y.2=.free)∨∃ y∈(m,j)::r,y.1=n/\y.2=.cell):=λz=>by
   rcases z with⟨y,hy,q⟩| ⟨y,hy,q⟩
   ·exact .inl ⟨y,MO _ hy,q⟩
   ·exact .inr ⟨y,MO _ hy,q⟩
  cases hx:n==m with
  |true =>
   have e:n=m:=by simpa using hx
   subst e;by_cases Pu:(j==NameKind.free && env.scope.kind==.function && env.kindOf n==some .cell)=true
   ·have:j=.free:=by
     simp only[SU]at Pu;exact beq_iff_eq.mp Pu.1.1
    exact .inl ⟨(n,j),O0,rfl,this⟩
   ·rw[Lw Pu]at h';simp only[SV,hx]at h';cases h';rcases hk with hk|hk
    ·exact .inr ⟨(n,j),O0,rfl,hk⟩
    ·exact .inl ⟨(n,j),O0,rfl,hk⟩
  |false =>
   by_cases Pu:(j==NameKind.free && env.scope.kind==.function && env.kindOf m==some .cell)=true
   ·rw[Lx Pu]at h';simp only[SV,hx]at h';exact up (kD h' hk)
   ·rw[Lw Pu]at h';simp only[SV,hx]at h';exact up (kD h' hk)
def b5(ρ:Ro)(j:Nat):Option Sl:=match ρ[j]? with
 |some (some (.val d))=>some (.val d)
 |_=>none
def kz(σ:St)(j:Nat):Option V:=match σ[j]? with
 |some (some v)=>some v
 |_=>none
section
variable{X:Cx}{pins:yab}{σ:St}{H:Hp}{s:Shared}{sc:Scope}{ns:yah}{js:yag}{xs:yah}{fp:yae}
def Inv.comp{LM:Shared}{Th:Hp}{C:Addr}(I:Inv X pins σ H s)(S:Wg X.env.scope sc xs ns)(hj:js.length=ns.length/\∀(i:Nat) (j:Nat) (n:Str),js[i]?=some j->ns[i]?=some n->X.N[j]?=some n)(T6:∀b∈fp,fO X pins H b)(YN:∀b∈fp,∃o,s.heap.get? b=some o)(hC:s.heap.objs.size<=C)
  (hos:LM.os=s.os) (hg:AllBare LM.gens) (hk:∀b o,s.heap.get? b=some o->LM.heap.get? b=some o) (Va:LM.heap.Ns C λ_=>none) (YO:Th C=none) (hs:au H Th) (YQ:∀b o,s.heap.get? b=some o->H b=none->Th b=none) (Mh:N1 X.prog X.w Th LM.heap) :
  Inv (bj X sc ns xs C s H fp XE) [] (List.replicate xs.length none++js.map (kz σ)) Th LM:=by
 have kd:X.env.scope.kind=.function:=I.ok.kind;have Sw:∀y c,(ft X.env ns).lookup y=some c->X.env.cells.lookup y=some c:=λy c e=>lM e
 have YR:∀y c,(ft X.env ns).lookup y=some c->∃v,s.heap.IsCell c v:=λy c e=>I.cell y c (Sw y c e)
 refine⟨⟨I.ok.mod,S.kind,I.ok.glob,I.ok.blt,hC,λy z c h1 h2=>I.ok.inj y z c (Sw y c h1) (Sw z c h2),λy hy=>?_,λy c h _=>(by cases h),I.ok.hd,I.ok.frames,.inl rfl,λb hb=>?_,I.bs,NM I.ok.U5 I.sz,λb o e hb=>?_,λb hb z=>?_,I.stack,I.QA⟩,
  hos,hg,⟨λb o e n _ _=>hk b o e,λb o e n _ _=>⟨o.slots,hk b o e⟩,λb o e n _=>YQ b o e n,λb o e _=>⟨o,hk b o e⟩,λb xs e=>hs b _ e,λb o u e=>hs b _ e,λb ps e=>hs.tb b ps e⟩,⟨_,Va,λi y v h1 h2 h3=>?_⟩,λy c e=>?_,YO,λy c e=>?_,λp hp=>absurd (show p∈([]:yab)from hp) (by simp),Mh,?_⟩
 ·-- every cell of the block is one of the body's
  have Sa:∃k,((relabel sc X.env).names.lookup y=some k)/\(k=.cell∨k=.free):=by
   rcases hy with hy|hy
   ·exact⟨_,hy,.inl rfl⟩
   ·exact⟨_,hy,.inr rfl⟩
  obtain⟨k,h1,h2⟩:=Sa;rcases kD (env:=X.env) h1 h2 with⟨z,hz,e1,e2⟩| ⟨z,hz,e1,e2⟩
  ·obtain⟨m1,m2⟩:=S.free z hz e2;subst e1;obtain⟨c,hc⟩:=I.ok.has z.1 (.inl m2);exact⟨c,pK m1 hc⟩
  ·exact absurd e2 (S.Tg z hz)
 ·refine⟨λz=>?_,λy c e z=>?_⟩
  ·have z':b=C:=z;obtain⟨o,ho⟩:=YN b hb;have NZ:=Nn ho;rw[z']at NZ;exact absurd (OM NZ hC) (Su _)
  ·exact(T6 b hb).2.2.2.2.1 y c (Sw y c e) z
 ·obtain⟨f0,f1,f2,f3,f4,f5⟩:=T6 b hb;rcases f3 with f3|f3
  ·exact I.ok.R8 b o e f3
  ·exact absurd (OM (Nn (I.ok.bs b o e).1) f3) (Su _)
 ·obtain⟨f0,f1,f2,f3,f4,f5⟩:=T6 b hb;rcases L9.mp (I.Pt b z)with e|e
  ·exact f1 e
  ·exact f2 e
 ·by_cases hi:i<xs.length
  ·rw[QT (by simpa using hi),XI,Lx hi]at h2;cases h2
  ·have Nc:ns[i - xs.length]?=some y:=by
    have h1:(xs++ns)[i]?=some y:=h1;rw[P5 (by lia)]at h1;exact h1
   have OO:(js.map (kz σ))[i - xs.length]?=some (some v):=by rw[P5 (by simpa using hi)]at h2;simpa using h2
   generalize i - xs.length=i at Nc OO;rw[OD]at OO;cases e:js[i]? with
   |none=>rw[e]at OO;cases OO
   |some j =>
    rw[e]at OO;have h4:kz σ j=some v:=ON OO;have h5:σ[j]?=some (some v):=by
     unfold kz at h4;split at h4
     ·rename_i u q;cases h4;exact q
     ·cases h4
    have hN:=hj.2 i j y e Nc;have mem:y∈ns:=OL Nc;obtain⟨c1,c2⟩:=S.cells y mem;obtain⟨m,hm,hl⟩:=I.loc;obtain⟨u,ru,lk⟩:=hl j y v hN h5 (.inr (.inl c2));refine⟨u,ru,?_⟩;rcases lk with⟨k1,_⟩| ⟨_,c,e1,o,ho,hd⟩
    ·have k1':X.env.scope.names.lookup y=some .local:=k1;rw[c2]at k1';cases k1'
    ·exact .inr ⟨.inl (lg kd c1 c2),c,pK mem e1,o,hk c o ho,hd⟩
 ·obtain⟨v,z⟩:=YR y c e;obtain⟨o,ho,hd⟩:=z;exact⟨v,o,hk c o ho,hd⟩
 ·obtain⟨v,o,ho,hd⟩:=YR y c e;exact YQ c o ho (I.Nu y c (Sw y c e))
 ·show(List.replicate xs.length none++js.map (kz σ)).length=(xs++ns).length;simp[hj.1]
def Wh(X:Cx)(ifs:yai)(t:DT):Prop :=
 ∀ (pins:yab) (s:Shared) (σ:St) (H:Hp) (W:Own) (ρ:Ro) (Q:Bool->Prop),Inv X pins σ H s->Rel X W H σ ρ->t ρ Q →
  wpAny (model X.prog X.w) X.A (forIn ifs true λc r=>if r=true then do let ok←isTrue c X.env (eval c X.env);pure (ForInStep.yield ok)else pure (ForInStep.yield r)) (DTP X pins σ H Q) X.xe s
def pL:DT:=λ_ Q=>Q true
def dS{X:Cx}:Wh X [] pL:=λ_ s σ H W ρ Q I r h=>wpAny_tests_nil ⟨H,I,au.refl H,h⟩
def rZ{X:Cx}(h:Q4 X c t):Wh X [c] t:=λpins s σ H W ρ Q I r q=>wpAny_tests_one (h pins s σ H W ρ Q I r q)
def pG(n:Nat)(Xl ρ:Ro):Prop:=∃r0:Ro,r0.length=n/\ρ=r0++Xl
def BF{s:Shared}{R:Result->Shared->Prop}{iter:Expr}{acc:Value}(I:Nat->Shared->Prop)
  (turn:∀n s,I n s->wpAny (model prog w) A (pyNext it) (λr LM=>match r with
   |none=>R (.ok .next) LM
   |some v=>wpAny (model prog w) A (letOwnedTupleGo target it v) (λ_ z₁=>wpAny (model prog w) A (assign target env v) (λ_ LN =>
     wpAny (model prog w) A (forIn ifs true λc r=>if r=true then do let ok←isTrue c env (eval c env);pure (ForInStep.yield ok)else pure (ForInStep.yield r)) (λok OT=>if ok=true then wpAny (model prog w) A (eval elt env) (λx Ti =>
       wpAny (model prog w) A (call (.builtin "list.append") [acc,x]) (λ_ s₅=>∃m,m<n/\I m s₅) (notedBy (model prog w) A env λe z=>R (.error e) z) Ti) (notedBy (model prog w) A env λe z=>R (.error e) z) OT
      else∃m,m<n/\I m OT) (notedBy (model prog w) A env λe z=>R (.error e) z) LN) (notedBy (model prog w) A env λe z=>R (.error e) z) z₁) (notedBy (model prog w) A env λe z=>R (.error e) z) LM) (notedBy (model prog w) A env λe z=>R (.error e) z) s)
  (n:Nat) (h:I n s):codeAny (model prog w) A (.compLoop (.ListComp elt [⟨target,iter,ifs,0⟩] scope pos) 0 it acc env) R s:=by
 refine codeAny_loop rfl I (λm z hI=>?_) n h;show wpAny _ A ((compTurn (.ListComp elt [⟨target,iter,ifs,0⟩] scope pos) 0 it acc env).onRaise (λe=>do noteFrame e env;theTreesLotGoes e)) _ _ z;refine wpAny_noted ?_;rw[compTurn_list];refine LA (wpAny_standAt (LA (PU (turn m z hI) (λr z1 g1=>?_) λ_ _ q=>q)));cases r with
 |none=>exact Ma g1
 |some v =>
  refine LA (PU g1 (λ_ z2 g2=>?_) λ_ _ q=>q);refine LA (PU g2 (λ_ z3 g3=>LA (PU g3 (λok z4 g4=>?_) λ_ _ q=>q)) λ_ _ q=>q);cases ok with
  |false=>exact Ma ⟨rfl,g4⟩
  |true=>exact LA (LA (PU g4 (λy z5 g5=>LA (PU g5 (λ_ z6 g6=>Ma (Ma ⟨rfl,g6⟩)) λ_ _ q=>q)) λ_ _ q=>q))
def Rel.mutB{X:Cx}{H:Hp}{σ:St}(r:Rel X W H σ ρ)(hB:W.B a)(ha:H a=some (.lst vs))(h0:X.MK a=none) :
  Rel X W (L2.upd H a (.lst vs')) σ ρ/\∀ds us,ag X.K W.bad H ds us->ag X.K W.bad (L2.upd H a (.lst vs')) ds us:=by
 have Wc:∀b ws,M6 X.K H b ws->M6 X.K (L2.upd H a (.lst vs')) b ws:=λb ws q=>by show L2.upd _ _ _ _=_;rw[aD (lW q ha (by intro z;cases z))];exact q
 have We:∀t b ws,¬W.bad t b->OI X.K H t b ws->¬W.bad t b/\OI X.K (L2.upd H a (.lst vs')) t b ws:=λt b ws n q=>by
  have NK:b≠a:=λe=>n (.inl (e ▸ hB))
  refine⟨n,?_,λz=>⟨by rw[aD NK];exact(q.2 z).1,(q.2 z).2⟩⟩;rcases q.1 with(q|⟨o,q⟩)|q
  ·exact .inl (.inl (by rw[aD NK];exact q))
  ·exact .inl (.inr ⟨o,by rw[aD NK];exact q⟩)
  ·exact .inr q
 have Wf:∀b u,TX u->H b=some u->L2.upd H a (.lst vs') b=some u:=λb u n q=>by rw[aD (lW q ha (by intro z;subst z;exact n))];exact q
 have tr:∀b o,H b=some o->∃o',L2.upd H a (.lst vs') b=some o':=λb o q=>by
  by_cases Vi:b=a
  ·subst Vi;exact⟨_,aV⟩
  ·exact⟨o,by rw[aD Vi];exact q⟩
 refine⟨⟨λj d h=>?_,λj y h=>?_,r.inj,λj b hb=>?_,r.ke,λb hb=>let ⟨o,q⟩:=r.bt b hb;tr b o q,λb hb=>let ⟨o,q⟩:=r.st b hb;tr b o q,r.ent.ins h0 ha True.intro True.intro,r.tab.upd True.intro (.inr ⟨_,ha,(λ_ z=>by cases z),True.intro⟩)⟩,ag.map Wc We Wf⟩
 ·obtain⟨v,h1,h2⟩:=r.val j d h;exact⟨v,h1,Den.map Wc We Wf d v h2⟩
 ·obtain⟨b,o,h1,h2,h3,h4⟩:=r.own j y h;exact⟨b,o,h1,h2,by rw[aD (λe=>(r.kn j b h1).2.1.1 (by rw[e];exact hB))];exact h3,h4.map (ag.map Wc We Wf) λk c q=>⟨q,λus z=>by rw[aD (λe=>(r.kn _ c q).2.1.1 (by rw[e];exact hB))];exact z⟩⟩
 ·obtain⟨k1,k2,o,k3,k4⟩:=r.kn j b hb;exact⟨k1,k2,o,by rw[aD (λe=>k2.1 (by rw[e];exact hB))];exact k3,k4⟩
def eZ(X:Cx)(sc:Scope)(ns:yah)(RR:Value->Addr->Result->Shared->Prop)(D C:Addr):yaa:=notedBy (model X.prog X.w) X.A (compEnvC sc (ft X.env ns) C X.env) λe Yf=>RR (.ref D) C (.error e) Yf
def eT.no{X:Cx}:eT X λ_=>False:=λ_ _ _ _ _ _ _ _ _ _ h=>by obtain⟨_,_,_,_,_,_,_,_,_,_,_,_,_,z⟩:=h;exact z.elim
end
abbrev DM:=Ro->(LI->Prop)->Prop
def KR(K:yac)(P:yak)(H H':Hp):LI->V->Prop
 |.own ds,v=>∃a vs,v=.ref a/\H a=none/\K.lookup a=none/\H' a=some (.lst vs)/\ag K (λt b=>P t b∨b=a) H' ds vs
 |.val d,v=>Den K P H' d v
def PEM(X:Cx)(e:Expr)(t:DM):Prop :=
 ∀ (pins:yab) (s:Shared) (σ:St) (H:Hp) (W:Own) (ρ:Ro) (Q:LI->Prop),Inv X pins σ H s->Rel X W H σ ρ->t ρ Q →
  wpAny (model X.prog X.w) X.A (eval e X.env) (λu s'=>∃v H' li,Inv X pins σ H' s'/\RelV v u/\au H H'/\KR X.K W.bad H H' li v/\Q li) X.xe s
structure iN(K:yac)(H:Hp)(D:Addr)(n:Nat)(bs:yaj):Prop where
 ok:∀k b,bs k=some b->k<n/\H b=none/\K.lookup b=none/\b≠D
 inj:∀k l b,bs k=some b->bs l=some b->k=l
def iN.nil{K:yac}{H:Hp}{D:Addr}{n:Nat}:iN K H D n λ_=>none:=⟨λ_ _ h=>(by cases h),λ_ _ _ h=>(by cases h)⟩
def iN.up{K:yac}{H:Hp}{D:Addr}{n m:Nat}{bs:yaj}(h:iN K H D n bs)(l:n<=m):iN K H D m bs:=⟨λk b q=>let ⟨a,r⟩:=h.ok k b q;⟨OM a l,r⟩,h.inj⟩
def iN.put{K:yac}{H:Hp}{D a:Addr}{out:List LI}{x:LI}{bs:yaj}(h:iN K H D out.length bs)(n:H a=none)(k:K.lookup a=none)(nd:a≠D)(new:∀k,bs k=some a->False) :
  iN K H D (out++[x]).length λk=>if k=out.length then some a else bs k:=⟨λl b q=>by
  rw[Nz,ZS];by_cases e:l=out.length
  ·rw[Lx e]at q;cases q;exact⟨by lia,n,k,nd⟩
  ·rw[Lw e]at q;obtain⟨a1,a2⟩:=h.ok l b q;exact⟨by lia,a2⟩,λl m b q1 q2=>by
  by_cases e1:l=out.length
  ·by_cases e2:m=out.length
   ·rw[e1,e2]
   ·rw[Lx e1]at q1;rw[Lw e2]at q2;cases q1;exact(new m q2).elim
  ·by_cases e2:m=out.length
   ·rw[Lw e1]at q1;rw[Lx e2]at q2;cases q2;exact(new l q1).elim
   ·rw[Lw e1]at q1;rw[Lw e2]at q2;exact h.inj l m b q1 q2⟩
section
variable{K:yac}{P:yak}{H:Hp}{B:yaj}
theorem aN.PC(h1:Den K P H d v):∀{k:Nat} {xs:List LI} {vs:yar},aN K P H B k xs vs->aN K P H B k (xs++[.val d]) (vs++[v])
 |k,[],_,h=>by simp only[aN]at h;subst h;simp only[PR,aN];exact⟨v,[],rfl,h1,rfl⟩
 |k,.own ds::r,_,h=>by simp only[aN]at h;obtain⟨b,us,u,rfl,q1,q2,q3,q4⟩:=h;simp only[O5,aN];exact⟨b,us,_,rfl,q1,q2,q3,aN.PC h1 q4⟩
 |k,.val e::r,_,h=>by simp only[aN]at h;obtain⟨w,u,rfl,q1,q2⟩:=h;simp only[O5,aN];exact⟨w,_,rfl,q1,aN.PC h1 q2⟩
theorem aN.PF{a:Addr}:∀{k:Nat} {xs:List LI} {vs:yar},aN K P H B k xs vs->B (k+xs.length)=some a->H a=some (.lst ws)->ag K P H ds ws->aN K P H B k (xs++[.own ds]) (vs++[.ref a])
 |k,[],_,h,hb,ha,hd=>by simp only[aN]at h;subst h;simp only[PR,aN];exact⟨a,ws,[],rfl,by simpa using hb,ha,hd,rfl⟩
 |k,.own es::r,_,h,hb,ha,hd=>by simp only[aN]at h;obtain⟨b,us,u,rfl,q1,q2,q3,q4⟩:=h;simp only[O5,aN];exact⟨b,us,_,rfl,q1,q2,q3,aN.PF q4 (by rw[<- hb];congr 1;simp;lia) ha hd⟩
 |k,.val e::r,_,h,hb,ha,hd=>by simp only[aN]at h;obtain⟨w,u,rfl,q1,q2⟩:=h;simp only[O5,aN];exact⟨w,_,rfl,q1,aN.PF q2 (by rw[<- hb];congr 1;simp;lia) ha hd⟩
end
section
variable{X:Cx}
def Rel.ban{o:HO}(r:Rel X W H σ ρ)(sm:au H H')(hp:H p=none)(hk:X.K.lookup p=none)(h':H' p=some o) :
  Rel X ⟨λb=>W.B b∨b=p,W.O,W.S⟩ H' σ ρ/\∀ds vs,ag X.K W.bad H ds vs->ag X.K (Own.bad ⟨λb=>W.B b∨b=p,W.O,W.S⟩) H' ds vs:=by
 have QC:∀t a,Own.bad ⟨λb=>W.B b∨b=p,W.O,W.S⟩ t a->W.bad t a∨a=p:=λt a z=>by
  rcases z with(z|z)|z|z
  ·exact .inl (.inl z)
  ·exact .inr z
  ·exact .inl (.inr (.inl z))
  ·exact .inl (.inr (.inr z))
 have nb:∀{t:Bool} {a:Addr} {ws:yar},OI X.K H t a ws->a≠p:=fun {t a ws} q z=>by
  subst z;rcases q.1 with(q|⟨o,q⟩)|⟨o,LC,n,q,_⟩
  ·rw[hp]at q;cases q
  ·rw[hp]at q;cases q
  ·rw[hk]at q;cases q
 have up:∀(d:D) (v:V),Den X.K W.bad H d v->Den X.K (Own.bad ⟨λb=>W.B b∨b=p,W.O,W.S⟩) H' d v:=Den.map (λ_ _ q=>M6.same sm q) (λt a ws n q=>⟨λz=>(QC t a z).elim n (nb q),q.same sm⟩) (λa _ n q=>sm.kp a _ q n.nt);have ups:∀(ds:yas) (vs':yar),ag X.K W.bad H ds vs'->ag X.K (Own.bad ⟨λb=>W.B b∨b=p,W.O,W.S⟩) H' ds vs':=ag.map (λ_ _ q=>M6.same sm q) (λt a ws n q=>⟨λz=>(QC t a z).elim n (nb q),q.same sm⟩) (λa _ n q=>sm.kp a _ q n.nt);refine⟨⟨λj d h=>?_,λj x h=>?_,r.inj,λj a h1=>?_,r.ke,λa h=>?_,λa h=>let ⟨_,q⟩:=r.st a h;sm.ex q,r.ent.trans sm,r.tab.same sm⟩,ups⟩
 ·obtain⟨w,h1,h2⟩:=r.val j d h;exact⟨w,h1,up d w h2⟩
 ·obtain⟨a,ws,h1,h2,h3,h4⟩:=r.own j x h;exact⟨a,ws,h1,h2,sm.kp _ _ h3 h4.Sd.nt,h4.map ups λl b q=>⟨q,λ_ z=>sm _ _ z⟩⟩
 ·obtain⟨a1,⟨n1,n2⟩,ws,a3,a4⟩:=r.kn j a h1;exact⟨a1,⟨λz=>z.elim n1 λe=>(by subst e;rw[hp]at a3;cases a3),n2⟩,ws,sm.kp _ _ a3 a4.nt,a4⟩
 ·rcases h with h|h
  ·obtain⟨_,q⟩:=r.bt a h;exact sm.ex q
  ·exact⟨o,h ▸ h'⟩
end
section
variable{X:Cx}{pins:yab}{σ:St}{H:Hp}{s:Shared}{sc:Scope}{ns:yah}{js:yag}{xs:yah}{fp:yae}
set_option tactic.hygienic true in
def yf{elt iter tg:Expr}{ifs:yai}{pos:Pos}{g:DG}{te:DM}{tc:DT}{W:Own}{ρ:Ro}{J:It}{it:Addr}{tn:Nat->Heap->Prop}{ds:yas}{E:yaa}{RR:Value->Addr->Result->Shared->Prop}(hc:X.calm=true)(S:Wg X.env.scope sc xs ns)
  (hj:js.length=ns.length/\∀(i:Nat) (j:Nat) (n:Str),js[i]?=some j->ns[i]?=some n->X.N[j]?=some n)
  {Ed:Value->Prop} (he:∀(C:Addr) (LN:Shared) (Mo:Hp) (fp:yae) (XE:yaa),eT (bj X sc ns xs C LN Mo fp XE) Ed->PEM (bj X sc ns xs C LN Mo fp XE) elt te) (ht:∀(C:Addr) (LN:Shared) (Mo:Hp) (fp:yae) (XE:yaa),eT (bj X sc ns xs C LN Mo fp XE) Ed->Wh (bj X sc ns xs C LN Mo fp XE) ifs tc)
  (hx:∀D C:Addr,eT (bj X sc ns xs C s H fp (eZ X sc ns RR D C)) Ed) (I:Inv X pins σ H s) (r:Rel X W H σ ρ) (hg:∀(C:Addr) (LN:Shared) (Mo:Hp) (fp:yae) (XE:yaa),Vd (bj X sc ns xs C LN Mo fp XE) tg g) (T:Turn X.prog X.w X.K tg J fp it tn) (st:tn 0 s.heap) (T6:∀b∈fp,fO X pins H b) (yd:YD X.K W H J ds) (hz:ds.length<=sizeLine)
  (Pv:Nat->List LI->Prop) (p0:Pv 0 []) (step:∀j d out Ph,ds[j]?=some d->Pv j out->pG xs.length (js.map (b5 ρ)) Ph->g d Ph λNP=>pG xs.length (js.map (b5 ρ)) NP/\tc NP λb=>if b=true then te NP (λe=>Pv (j+1) (out++[e]))else Pv (j+1) out)
  (hRR:∀(D C:Addr) (s':Shared) (H':Hp) (m':yam) (out:List LI) (bs:yaj),Inv X pins σ H' s'->au H H'->s'.heap.Ns C m'->H' C=none->C≠X.env.locals->X.LU.heap.objs.size<=C->(∀y c,X.env.cells.lookup y=some c->c≠C)->(∀p∈X.pn++pins,p.1≠C) →
   (H D=none/\X.K.lookup D=none/\∃vs,H' D=some (.lst vs)/\iN X.K H D out.length bs/\(∀k b,bs k=some b->∃us,H' b=some (.lst us))/\aN X.K (λt b=>W.bad t b∨b=D∨∃ k,bs k=some b) H' bs 0 out vs)->Pv ds.length out->RR (.ref D) C (.ok .next) s') :
  wpAny (model X.prog X.w) X.A (newList []) (λacc OT=>wpAny (model X.prog X.w) X.A (newFunctionEnv sc X.env.globals (ft X.env ns) [] X.env.qual none .none (some X.env)) (λTj Ti =>
   codeAny (model X.prog X.w) X.A (.compStart (.ListComp elt [⟨tg,iter,ifs,0⟩] sc pos) 0 (.ref it) acc {Tj with scope:=relabel sc X.env}) (RR acc Tj.locals) Ti) E OT) E s:=by
 refine WX (wpAny_newFunctionEnv S.Tg (by intro y hy;simp at hy) (λPa Ru QE=>?_) S.kind);dsimp only at Ru QE ⊢;generalize Ux:s.heap.push {cls:=.type "list", dict:=none,data:=.seq ([]:yad).toArray}=HP at Ru QE ⊢;have hC:HP.objs.size=s.heap.objs.size+1:=by rw[<- Ux,Heap.size_push]
 have hDC:s.heap.objs.size≠HP.objs.size:=by rw[hC];exact O6 (R3 _)
 have Rv:s.heap.objs.size<=HP.objs.size:=by rw[hC];exact Nat.le_succ _
 have below:∀b,b<s.heap.objs.size->b≠HP.objs.size:=λb hb=>by rw[hC];exact O6 (XU hb)
 have old:∀b o,s.heap.get? b=some o->Pa.get? b=some o:=λb o e=>QE.extBut b o (below b (Nn e)) (Oi _ (Ux ▸ Oi _ e))
 have Uy:Pa.get? s.heap.objs.size=some {cls:=.type "list", data:=.seq ([]:yad).toArray}:=QE.extBut _ _ hDC (Oi _ (Ux ▸ Qu _ rfl));generalize eD:s.heap.objs.size=D at hDC Uy;generalize eC:HP.objs.size=C at *;have Vj:H D=none:=by rw[<- eD];exact I.Mh.fresh (Mw _)
 have hKD:X.K.lookup D=none:=by rw[<- eD];exact Inv.N9 I
 have hCf:H C=none:=I.Mh.fresh Rv;have YN:∀b∈fp,∃o,s.heap.get? b=some o:=λb hb=>let ⟨o,e,_⟩:=T.obj 0 s.heap st b hb;⟨o,e⟩
 have leD:s.heap.objs.size<=D:=Uj eD;have okk:N1 X.prog X.w (L2.upd H D (.lst [])) Pa:=I.Mh.laid old leD ⟨OE _,[],0,.nil,Uy⟩;have upCD:∀o,L2.upd H D o C=none:=λo=>by rw[aD (Ne.symm hDC)];exact hCf
 have I1:Inv (bj X sc ns xs C s H fp (eZ X sc ns RR D C)) [] (List.replicate xs.length none++js.map (kz σ)) (L2.upd H D (.lst [])) {s with heap:=Pa,toks:=s.toks+([]:List (Str×Value)).length} :=
  Inv.comp I S hj T6 YN Rv rfl I.bare old Ru (upCD _) (au.upd Vj) (λb o e n=>by rw[aD (λz=>absurd (Nn e) (by rw[z];exact Sv.mpr leD))];exact n) okk
 have nl:∀{a:Addr} {ws:yar},SqL X.K H a ws->a≠D:=fun {a ws} q z=>by
  subst z;rcases q with(q|⟨o,q⟩)|⟨o,LC,n,q,_⟩
  ·rw[Vj]at q;cases q
  ·rw[Vj]at q;cases q
  ·rw[hKD]at q;cases q
 let W':Own:=⟨λa=>W.bad false a∨a=D,λ_=>none,W.S⟩
 have QC:∀t a,W'.bad t a↔(W.bad t a∨a=D):=λt a=>⟨λz=>by
  rcases z with(z|z)|⟨_,q⟩| ⟨z1,z2⟩
  ·exact .inl (Own.QB z)
  ·exact .inr z
  ·cases q
  ·exact .inl (.inr (.inr ⟨z1,z2⟩)),λz=>by
  rcases z with z|z
  ·rcases z with z|z|z
   ·exact .inl (.inl (.inl z))
   ·exact .inl (.inl (.inr (.inl z)))
   ·exact .inr (.inr z)
  ·exact .inl (.inr z)⟩
 have hT:∀{H':Hp},au H H'->∀a vs,M6 X.K H a vs->M6 X.K H' a vs:=λsm a vs q=>M6.same sm q
 have hL:∀{H':Hp},au H H'->∀t a vs,¬W.bad t a->OI X.K H t a vs->¬W'.bad t a/\OI X.K H' t a vs:=λsm t a vs n q=>⟨λz=>((QC t a).mp z).elim n (nl q.1),q.same sm⟩
 have relC:Rel (bj X sc ns xs C s H fp (eZ X sc ns RR D C)) W' (L2.upd H D (.lst [])) (List.replicate xs.length none++js.map (kz σ)) (List.replicate xs.length none++js.map (b5 ρ)):=by
  have sm:au H (L2.upd H D (.lst [])):=au.upd Vj;have at_:∀{i:Nat} {z:Sl},(List.replicate xs.length none++js.map (b5 ρ))[i]?=some (some z)->¬i<xs.length/\(js.map (b5 ρ))[i - xs.length]?=some (some z):=fun {i z} h=>by
   by_cases hi:i<xs.length
   ·rw[QT (by simpa using hi),XI,Lx hi]at h;cases h
   ·rw[P5 (by simpa using hi)]at h;exact⟨hi,by simpa using h⟩
  refine⟨λi d h=>?_,λi x h=>?_,λi j a h _=>(by cases h),λi a h=>(by cases h),λi a h=>(by cases h),λa h=>?_,λa h=>?_,sm,r.tab.same sm⟩
  ·obtain⟨hi,h'⟩:=at_ h;rw[OD]at h';cases e:js[i - xs.length]? with
   |none=>rw[e]at h';cases h'
   |some j =>
    rw[e]at h';have h4:b5 ρ j=some (.val d):=ON h';have h5:ρ[j]?=some (some (.val d)):=by
     unfold b5 at h4;split at h4
     ·rename_i u q;cases h4;exact q
     ·cases h4
    obtain⟨v,e1,e2⟩:=r.val j d h5;refine⟨v,?_,Den.map (hT sm) (hL sm) (λa _ n q=>sm.kp a _ q n.nt) d v e2⟩;rw[P5 (by simpa using hi)];show(js.map (kz σ))[i - (List.replicate xs.length (none:Option V)).length]?=some (some v);rw[List.length_replicate,OD,e];show some (kz σ j)=some (some v);unfold kz;rw[e1]
  ·obtain⟨hi,h'⟩:=at_ h;rw[OD]at h';cases e:js[i - xs.length]? with
   |none=>rw[e]at h';cases h'
   |some j =>
    rw[e]at h';have h4:b5 ρ j=some (.ob x):=ON h';unfold b5 at h4;split at h4<;>cases h4
  ·rcases h with h|h
   ·obtain⟨o,q⟩:=r.tracked false a h;exact sm.ex q
   ·rw[h];exact⟨_,aV⟩
  ·obtain⟨o,q⟩:=r.st a h;exact sm.ex q
 have Tn:∀{H':Hp},(∀b∈fp,H' b=none)->∀b∈fp,fO (bj X sc ns xs C s H fp (eZ X sc ns RR D C)) [] H' b:=λhn b hb=>by
  obtain⟨f0,f1,f2,f3,f4,f5⟩:=T6 b hb;obtain⟨o,ho⟩:=YN b hb;refine⟨hn b hb,λz=>?_,λz=>?_,.inl hb,λy c e z=>f4 y c (lM e) z,λp hp=>absurd (show p∈([]:yab)from hp) (by simp)⟩
  ·have z':b=C:=z;have NZ:=Nn ho;rw[z']at NZ;exact absurd (OM NZ Rv) (Su _)
  ·rcases L9.mp (I.Pt b z)with e|e
   ·exact f1 e
   ·exact f2 e
 have Sx:∀b∈fp,(b∈X.ex∨X.LU.heap.objs.size<=b)/\b≠X.env.locals/\(∀x c,X.env.cells.lookup x=some c->c≠b)/\∀p∈X.pn++pins,p.1≠b:=λb hb=>by obtain⟨f0,f1,f2,f3,f4,f5⟩:=T6 b hb;exact⟨f3,f1,f4,f5⟩
 have BD0:W'.B D:=.inr rfl;have loop:∀OT:Shared,OT={s with heap:=Pa,toks:=s.toks+([]:List (Str×Value)).length} →
   codeAny (model X.prog X.w) X.A (.compLoop (.ListComp elt [⟨tg,iter,ifs,0⟩] sc pos) 0 (.ref it) (.ref D) (compEnvC sc (ft X.env ns) C X.env)) (RR (.ref D) C) OT:=by
  rintro OT rfl;refine BF (λn s'=>∃(i:Nat) (W2:Own) (Xh:St) (NP:Ro) (H':Hp) (out:List LI) (vs:yar) (bs:yaj),n=ds.length - i/\i<=ds.length/\Inv (bj X sc ns xs C s H fp (eZ X sc ns RR D C)) [] Xh H' s'/\tn i s'.heap/\(∀b∈fp,H' b=none) ∧
   H' D=some (.lst vs)/\(W2.B=(λa=>W'.B a∨∃ k,bs k=some a)/\W2.S=W'.S)/\iN X.K H D out.length bs/\(∀k b,bs k=some b->∃us,H' b=some (.lst us))/\aN X.K W2.bad H' bs 0 out vs/\au H H'/\Rel (bj X sc ns xs C s H fp (eZ X sc ns RR D C)) W2 H' Xh NP/\pG xs.length (js.map (b5 ρ)) NP/\Pv i out/\out.length<=i) ?_ ds.length
   ⟨0,W',_,_,_,[],[],λ_=>none,by simp,OE _,I1,T.keep 0 s.heap Pa st (λb hb o e=>old b o e),λb hb=>?_,aV,⟨by funext a;simp,rfl⟩,iN.nil,(λ_ _ h=>by cases h),by simp only[aN],au.upd Vj,relC,⟨_,by simp,rfl⟩,p0,Mw _⟩
  rotate_left
  ·obtain⟨o,ho⟩:=YN b hb;rw[aD (λz=>absurd (Nn ho) (by rw[z];exact Sv.mpr leD))];exact(T6 b hb).1
  rintro n s3 ⟨i,W2,Xh,NP,H3,out,vs,bs,en,hle,I3,OU,Yy,hD3,T7,Wi,hls,YS,YT,rl3,cap3,p3,ol⟩;have nb2:∀{W3:Own} {H':Hp} {Sz:St} {Sg:Ro},(W3.B=(λa=>W'.B a∨∃ k,bs k=some a)/\W3.S=W'.S)->Rel (bj X sc ns xs C s H fp (eZ X sc ns RR D C)) W3 H' Sz Sg->au H H'->∀t a vs,¬W.bad t a->OI X.K H t a vs->¬W3.bad t a/\OI X.K H' t a vs:=fun {W3 H' Sz Sg} hw rl sm t a vs n q=>by
   refine⟨λz=>?_,q.same sm⟩;rcases z with z|⟨k,z⟩| ⟨z1,z2⟩
   ·rw[hw.1]at z;rcases z with z|⟨k,z⟩
    ·exact(hL sm t a vs n q).1 (.inl z)
    ·obtain⟨_,h0,kk,_⟩:=Wi.ok k a z;rcases q.1 with(q1|⟨o,q1⟩)|⟨o,LC,m,q1,_⟩
     ·rw[h0]at q1;cases q1
     ·rw[h0]at q1;cases q1
     ·rw[kk]at q1;cases q1
   ·have h0:H a=none:=rl.ke k a z;rcases q.1 with(q1|⟨o,q1⟩)|⟨o,LC,m,q1,_⟩
    ·rw[h0]at q1;cases q1
    ·rw[h0]at q1;cases q1
    ·have kk:X.K.lookup a=none:=(rl.kn k a z).1;rw[kk]at q1;cases q1
   ·rw[hw.2]at z2;exact(hL sm t a vs n q).1 (.inr (.inr ⟨z1,z2⟩))
  obtain⟨yg,yy,ys⟩:=yd W2.bad H3 (hT YT) (nb2 T7 rl3 YT) (λa _ n q=>YT.kp a _ q n.nt) i;by_cases NZ:i<ds.length
  ·refine LK (T.item (bj X sc ns xs C s H fp (eZ X sc ns RR D C)) rfl rfl rfl hc i [] s3 _ H3 _ I3 (Tn Yy) OU (yg NZ)) λrr s4 ⟨u,hr,h4⟩=>?_
   subst hr;refine LK h4 λ_ s5 LO=>?_
   obtain⟨x5,H5,I5,r5,y5,Ve,fr5⟩:=LO;obtain⟨e5,d,hd,Pc⟩:=yy x5 H5 y5 NZ;have I5':=I5.pinned (Tn fr5) (T.obj _ _ Ve);have Vf:=rl3.same e5;have sm5:au H H5:=YT.trans e5;refine PU (hg C s H fp _ _ s5 Xh H5 W2 NP d x5 u _ I5' Vf r5 Pc (step i d out NP hd p3 cap3)) (λ_ s6 LO=>?_) (λ_ _ z=>z);obtain⟨W6,Yz,H6,YA,I6,f6,YU,YV,q6⟩:=LO;have YW:W6.B=(λa=>W'.B a∨∃ k,bs k=some a)/\W6.S=W'.S:=⟨f6.B.trans T7.1,f6.S.trans T7.2⟩;have sm6:au H H6:=⟨λb o e n=>f6.kp b o (λk z=>by have h0:H b=none:=Vf.ke k b z;rw[e]at h0;cases h0) (sm5.kp b o e n) n,(λb ps e=>by obtain⟨m1,e1⟩:=sm5.tb b ps e;obtain⟨m2,e2⟩:=f6.tb b _ e1;exact⟨m1++m2,by rw[e2,ZY]⟩),λh=>f6.ok (sm5.ok h)⟩;have BD:W'.B D:=.inr rfl;have hD6:H6 D=some (.lst vs):=f6.keep D _ (λk z=>(Vf.kn k D z).2.1.1 (by rw[T7.1];exact .inl BD)) (e5 _ _ hD3);have hds5:aN X.K W2.bad H5 bs 0 out vs:=YS.map (λ_ _ z=>z.same e5) λ_ _ q=>⟨q,λ_ z=>e5 _ _ z⟩
   have Wj:∀k b,bs k=some b->∃us,H6 b=some (.lst us):=λk b q=>let ⟨us,z⟩:=hls k b q;⟨us,f6.keep b _ (λl y=>(Vf.kn l b y).2.1.1 (by rw[T7.1];exact .inr ⟨k,q⟩)) (e5 _ _ z)⟩
   have YX:aN X.K W6.bad H6 bs 0 out vs:=hds5.map (λ_ _ z=>ag.fwd Vf YU f6 z) λk b q=>⟨q,λus z=>f6.keep b _ (λl y=>(Vf.kn l b y).2.1.1 (by rw[T7.1];exact .inr ⟨k,q⟩)) z⟩
   have Vk:∀{Wb:St} {H7:Hp} {s7:Shared},Inv (bj X sc ns xs C s H fp (eZ X sc ns RR D C)) ([]++rE fp s5.heap) Wb H7 s7->tn (i+1) s7.heap/\∀b∈fp,H7 b=none:=fun {Wb H7 s7} I7=>by refine⟨T.keep _ _ _ Ve λb hb o e=>(I7.pin (b,o) (Oq _ (Oq _ (jg hb e)))).1,λb hb=>?_⟩;obtain⟨o,e,_⟩:=T.obj _ _ Ve b hb;exact(I7.pin (b,o) (Oq _ (Oq _ (jg hb e)))).2.1
   refine PU (ht C s H fp _ (hx D C) _ s6 _ H6 W6 _ _ I6 YU q6) (λb s7 LO=>?_) (λ_ _ z=>z);obtain⟨H7,I7,e7,q7⟩:=LO;cases b with
   |false =>
    rw[Lw Qv]at q7;rw[Lw Qv];obtain⟨t7,f7⟩:=Vk I7;exact⟨ds.length - (i+1),by lia,i+1,W6,Yz,YA,H7,out,vs,bs,rfl,NZ,I7.N6,t7,f7,e7 _ _ hD6,YW,Wi,(λk b q=>let ⟨us,z⟩:=Wj k b q;⟨us,e7 _ _ z⟩),YX.map (λ_ _ z=>z.same e7) (λ_ _ q=>⟨q,λ_ z=>e7 _ _ z⟩),sm6.trans e7,YU.same e7,YV,q7,by lia⟩
   |true =>
    rw[Lx rfl]at q7;rw[Lx rfl];refine PU (he C s H fp _ (hx D C) _ s7 _ H7 W6 _ _ I7 (YU.same e7) q7) (λu8 s8 LO=>?_) (λ_ _ z=>z);obtain⟨v8,H8,e8,I8,r8,Xm,hd8,q8⟩:=LO;have Uz:=e7.trans Xm;have hD8:=Uz _ _ hD6;have YI:=YU.same e7;have Wk:aN X.K W6.bad H7 bs 0 out vs:=YX.map (λ_ _ z=>z.same e7) λ_ _ q=>⟨q,λ_ z=>e7 _ _ z⟩
    have smH:au H H8:=sm6.trans Uz;obtain⟨W8,Xn,hW8,Wl,hls8,rl8,hds8,YY⟩:∃(W8:Own) (Xn:yaj),(W8.B=(λa=>W'.B a∨∃ k,Xn k=some a)/\W8.S=W'.S)/\iN X.K H D (out++[e8]).length Xn/\(∀k b,Xn k=some b->∃us,H8 b=some (.lst us))/\Rel (bj X sc ns xs C s H fp (eZ X sc ns RR D C)) W8 H8 Yz YA/\aN X.K W8.bad H8 Xn 0 (out++[e8]) (vs++[v8])/\vs.length=out.length:=by
     have ln:=Wk.len;cases e8 with
     |val d =>
      refine⟨W6,bs,YW,Wi.up (by simp),(λk b q=>let ⟨us,z⟩:=Wj k b q;⟨us,Uz _ _ z⟩),YI.same Xm,?_,ln⟩;exact(Wk.map (λ_ _ z=>z.same Xm) λ_ _ q=>⟨q,λ_ z=>Xm _ _ z⟩).PC hd8
     |own SD =>
      obtain⟨a,ws,rfl,na,ka,ha,Rt⟩:=hd8;obtain⟨rb,db⟩:=YI.ban Xm na ka ha;have nH:H a=none:=(sm6.trans e7).free na;have nD:a≠D:=λz=>by rw[z,e7 _ _ hD6]at na;cases na
      refine⟨⟨λb=>W6.B b∨b=a,W6.O,W6.S⟩,λk=>if k=out.length then some a else bs k,⟨?_,YW.2⟩,Wi.put nH ka nD (λk z=>?_),(λk b q=>?_),rb,?_,ln⟩
      ·funext b
       show(W6.B b∨b=a)=_;rw[YW.1];refine propext ⟨λz=>?_,λz=>?_⟩
       ·rcases z with(z|⟨k,z⟩)|z
        ·exact .inl z
        ·exact .inr ⟨k,by show(if k=out.length then some a else bs k)=some b;rw[Lw (O6 (Wi.ok k b z).1)];exact z⟩
        ·exact .inr ⟨out.length,by show(if out.length=out.length then some a else bs out.length)=some b;rw[Lx rfl,z]⟩
       ·rcases z with z|⟨k,z⟩
        ·exact .inl (.inl z)
        ·have z:(if k=out.length then some a else bs k)=some b:=z;by_cases ek:k=out.length
         ·rw[Lx ek]at z;cases z;exact .inr rfl
         ·rw[Lw ek]at z;exact .inl (.inr ⟨k,z⟩)
      ·obtain⟨o,hu⟩:=YI.bt a (by rw[YW.1];exact .inr ⟨k,z⟩);rw[hu]at na;cases na
      ·have q:(if k=out.length then some a else bs k)=some b:=q;by_cases ek:k=out.length
       ·rw[Lx ek]at q;cases q;exact⟨_,ha⟩
       ·rw[Lw ek]at q;obtain⟨us,z⟩:=Wj k b q;exact⟨us,Uz _ _ z⟩
      ·refine aN.PF (Wk.map (B':=λk=>if k=out.length then some a else bs k) (λds vs z=>db ds vs z) λk b q=>⟨by show(if k=out.length then some a else bs k)=some b;rw[Lw (O6 (Wi.ok k b q).1)];exact q,λ_ z=>Xm _ _ z⟩) (by simp) ha (Rt.Ml λt b z=>?_);rcases z with(z|z)|z|z
       ·exact .inl (.inl z)
       ·exact .inr z
       ·exact .inl (.inr (.inl z))
       ·exact .inl (.inr (.inr z))
    have BD8:W8.B D:=by rw[hW8.1];exact .inl BD
    refine PU (uw (X:=bj X sc ns xs C s H fp (eZ X sc ns RR D C)) _ s8 _ H8 (.ref D) [v8] (.ref D) [u8] (λ_ H'=>H'=L2.upd H8 D (.lst (vs++[v8]))) I8 rfl (.cons r8 .nil) ⟨D,vs,v8,rfl,rfl,hD8,by rw[YY];lia,rfl⟩) (λ_ s9 LO=>?_) (λ_ _ z=>z);obtain⟨v9,H9,I9,_,eH⟩:=LO;subst eH;obtain⟨t9,f9⟩:=Vk I9;obtain⟨rl9,dn9⟩:=rl8.mutB (vs':=vs++[v8]) BD8 hD8 Vj;exact⟨ds.length - (i+1),by lia,i+1,W8,Yz,YA,_,out++[e8],vs++[v8],Xn,rfl,NZ,I9.N6,t9,f9,aV,hW8,Wl,(λk b q=>let ⟨us,z⟩:=hls8 k b q;⟨us,by rw[aD (Wl.ok k b q).2.2.2];exact z⟩),hds8.map dn9 (λk b q=>⟨q,λus z=>by rw[aD (Wl.ok k b q).2.2.2];exact z⟩),smH.ins Vj hD8 True.intro True.intro,rl9,YV,q8,by rw[Nz,ZS];lia⟩
  ·have e:i=ds.length:=by lia
   refine LK (T.done (bj X sc ns xs C s H fp (eZ X sc ns RR D C)) rfl rfl rfl hc i [] s3 _ H3 _ I3 (Tn Yy) OU (ys (by lia))) λrr s4 LO=>?_
   obtain⟨hr,I4⟩:=LO;subst hr;subst e;have Io:Inv X pins σ H3 s4:=I.Q2 I4.os I4.base I4.Mh I4.bare Sx;obtain⟨m,hm,_⟩:=I4.loc;exact hRR D C s4 H3 m out bs Io YT hm I4.free (λz=>absurd I.lt (by rw[<- z];exact Sv.mpr Rv)) (NM I.sz Rv) (λy c e z=>by
    obtain⟨v,q⟩:=I.cell y c e;exact absurd q.lt (by rw[z];exact Sv.mpr Rv)) (λp hp z=>absurd (Nn (I.pin p hp).1) (by rw[z];exact Sv.mpr Rv))
    ⟨Vj,hKD,_,hD3,Wi,hls,YS.map (λ_ _ z=>z.Ml λt a z=>(by
     rcases z with z|z
     ·rcases(QC t a).mpr (.inl z)with q|⟨k,q⟩| q
      ·exact .inl (by rw[T7.1];exact .inl q)
      ·cases q
      ·exact .inr (.inr ⟨q.1,by rw[T7.2];exact q.2⟩)
     ·rcases z with z|z
      ·exact .inl (by rw[T7.1];exact .inl (z ▸ BD0))
      ·exact .inl (by rw[T7.1];exact .inr z))) λ_ _ q=>⟨q,λ_ z=>z⟩⟩ p3
 exact codeAny_compStart_list (loop _ rfl) (T.self _ 0 _ _ _ (T.keep 0 s.heap Pa st (λb hb o e=>old b o e)) (loop _ rfl))
end
theorem aN.vals{K:yac}{P:yak}{H:Hp}{B:yaj}:∀{ds:yas} {k:Nat} {vs:yar},aN K P H B k (ds.map .val) vs->ag K P H ds vs
 |[],_,_,h=>by simp only[R7,aN]at h;subst h;exact ag.nil
 |d::r,_,_,h=>by simp only[MR,aN]at h;obtain⟨v,u,rfl,h1,h2⟩:=h;exact ag.cons h1 h2.vals
def IQ(h:Mf X e te):PEM X e λρ Q=>te ρ λd=>Q (.val d):=λpins s σ H W ρ Q I r t=>PU (h pins s σ H W ρ _ I r t) (λ_ _ MP=>(by obtain⟨v,H',d,a,b,c,q,z⟩:=MP;exact⟨v,H',.val d,a,b,c,q,z⟩)) λ_ _ z=>z
section
variable{X:Cx}{pins:yab}{σ:St}{H:Hp}{s:Shared}{sc:Scope}{ns:yah}{js:yag}{xs:yah}{fp:yae}
def qJ{elt iter tg:Expr}{ifs:yai}{pos:Pos}{g:DG}{te:DE}{tc:DT}{W:Own}{ρ:Ro}{J:It}{it:Addr}{tn:Nat->Heap->Prop}{ds:yas}{E:yaa}{RR:Value->Addr->Result->Shared->Prop}(hc:X.calm=true)(S:Wg X.env.scope sc xs ns)
  (hj:js.length=ns.length/\∀(i:Nat) (j:Nat) (n:Str),js[i]?=some j->ns[i]?=some n->X.N[j]?=some n)
  {Ed:Value->Prop} (he:∀(C:Addr) (LN:Shared) (Mo:Hp) (fp:yae) (XE:yaa),eT (bj X sc ns xs C LN Mo fp XE) Ed->Mf (bj X sc ns xs C LN Mo fp XE) elt te) (ht:∀(C:Addr) (LN:Shared) (Mo:Hp) (fp:yae) (XE:yaa),eT (bj X sc ns xs C LN Mo fp XE) Ed->Wh (bj X sc ns xs C LN Mo fp XE) ifs tc)
  (hx:∀D C:Addr,eT (bj X sc ns xs C s H fp (eZ X sc ns RR D C)) Ed) (I:Inv X pins σ H s) (r:Rel X W H σ ρ) (hg:∀(C:Addr) (LN:Shared) (Mo:Hp) (fp:yae) (XE:yaa),Vd (bj X sc ns xs C LN Mo fp XE) tg g) (T:Turn X.prog X.w X.K tg J fp it tn) (st:tn 0 s.heap) (T6:∀b∈fp,fO X pins H b) (yd:YD X.K W H J ds) (hz:ds.length<=sizeLine)
  (Pv:Nat->yas->Prop) (p0:Pv 0 []) (step:∀j d out Ph,ds[j]?=some d->Pv j out->pG xs.length (js.map (b5 ρ)) Ph->g d Ph λNP=>pG xs.length (js.map (b5 ρ)) NP/\tc NP λb=>if b=true then te NP (λe=>Pv (j+1) (out++[e]))else Pv (j+1) out)
  (hRR:∀(D C:Addr) (s':Shared) (H':Hp) (m':yam) (out:List PD.D),Inv X pins σ H' s'->au H H'->s'.heap.Ns C m'->H' C=none->C≠X.env.locals->X.LU.heap.objs.size<=C->(∀y c,X.env.cells.lookup y=some c->c≠C)->(∀p∈X.pn++pins,p.1≠C) →
   (H D=none/\X.K.lookup D=none/\∃vs,H' D=some (.lst vs)/\ag X.K (λt b=>W.bad t b∨b=D) H' out vs)->Pv ds.length out->RR (.ref D) C (.ok .next) s') :
  wpAny (model X.prog X.w) X.A (newList []) (λacc OT=>wpAny (model X.prog X.w) X.A (newFunctionEnv sc X.env.globals (ft X.env ns) [] X.env.qual none .none (some X.env)) (λTj Ti =>
   codeAny (model X.prog X.w) X.A (.compStart (.ListComp elt [⟨tg,iter,ifs,0⟩] sc pos) 0 (.ref it) acc {Tj with scope:=relabel sc X.env}) (RR acc Tj.locals) Ti) E OT) E s:=by
 have e:∀k l,(∃q,l.map LI.val=q.map LI.val/\Pv k q)=Pv k l:=λk l=>propext ⟨λMP=>(by obtain⟨q,a,b⟩:=MP;exact(List.map_inj_right (λ_ _=>LI.val.inj)).mp a ▸ b),λb=>⟨l,rfl,b⟩⟩
 refine yf (te:=λρ Q=>te ρ λd=>Q (.val d)) hc S hj (λC LN Mo fp XE p=>IQ (he C LN Mo fp XE p)) ht hx I r hg T st T6 yd hz (λk o=>∃q,o=q.map LI.val/\Pv k q) ⟨[],rfl,p0⟩ ?_ ?_
 ·rintro j d _ Ph hd ⟨q,rfl,hp⟩ cr;have e2:∀x,q.map LI.val++[LI.val x]=(q++[x]).map LI.val:=λx=>by rw[OQ];rfl
  simp only[e2,e];exact step j d q Ph hd hp cr
 ·rintro D C s' H' m' _ bs I' sm a1 a2 a3 a4 a5 a6 ⟨h1,h2,vs,h3,_,_,h4⟩ ⟨q,rfl,hp⟩;exact hRR D C s' H' m' q I' sm a1 a2 a3 a4 a5 a6 ⟨h1,h2,vs,h3,h4.vals.Ml λt b z=>z.elim .inl λz=>.inr (.inl z)⟩ hp
def wR{X:Cx}{sc:Scope}{ns:yah}{x:Str}{fp:yae}(S:Wg X.env.scope sc [x] ns):Vd (bj X sc ns [x] C LN Mo fp XE) (.Name x px) (qU 0) :=
 have tl:(compEnvC sc (ft X.env ns) C X.env).scope.names.lookup x=some .local:=lookup_relabel_local (S.tgt x (by simp))
 bf (X:=bj X sc ns [x] C LN Mo fp XE) 0 S.nd rfl (.inl tl) (.inr tl)
def FI{ds:yas}{Pv:Nat->yas->Prop}{tc:DT}{te:DE}{Xl:Ro}(step:∀j d out,ds[j]?=some d->Pv j out->tc (some (.val d)::Xl) λb=>if b=true then te (some (.val d)::Xl) (λe=>Pv (j+1) (out++[e]))else Pv (j+1) out) :
  ∀ j d out Ph,ds[j]?=some d->Pv j out->pG 1 Xl Ph->qU 0 d Ph λNP=>pG 1 Xl NP/\tc NP λb=>if b=true then te NP (λe=>Pv (j+1) (out++[e]))else Pv (j+1) out:=by
 rintro j d out Ph hd hp ⟨r0,hl,rfl⟩
 match r0,hl with
 |[a],_=>exact⟨⟨[some (.val d)],rfl,rfl⟩,step j d out hd hp⟩
def n5(wi:DA)(js:yag)(tc:DT)(te:DE):DE:=λρ Q=>wi ρ λds=>ds.length<=sizeLine/\∃Pv:Nat->yas->Prop,Pv 0 [] ∧
 (∀j d out,ds[j]?=some d->Pv j out->tc (some (.val d)::js.map (b5 ρ)) λb=>if b=true then te (some (.val d)::js.map (b5 ρ)) (λe=>Pv (j+1) (out++[e]))else Pv (j+1) out)/\∀out,Pv ds.length out->Q (.lst true out)
def bH(N:yah)(ns:yah)(js:yag):Prop:=js.length=ns.length/\∀(i:Nat) (j:Nat) (n:Str),js[i]?=some j->ns[i]?=some n->N[j]?=some n
def bH.nil:bH N [] []:=⟨rfl,λi j n h=>by simp at h⟩
def bH.cons{ns:yah}{js:yag}{n:Str}(j:Nat)(h:bH N ns js)(e:N[j]?=some n:=by rfl):bH N (n::ns) (j::js):=⟨by simp[h.1],λi j' m h1 h2=>by
 cases i with
 |zero=>simp at h1 h2;subst h1 h2;exact e
 |succ i=>exact h.2 i j' m (by simpa using h1) (by simpa using h2)⟩
variable{elt iter:Expr}{ifs:yai}{px pos:Pos}{te:DE}{tc:DT}{wi:DA}{x:Str}
def cf(hc:X.calm=true)(S:Wg X.env.scope sc [x] ns)(hj:bH X.N ns js)(hi:T1 X (.Name x px) iter wi)(ht:∀(C:Addr) (LN:Shared) (Mo:Hp) (fp:yae) (XE:yaa),Wh (bj X sc ns [x] C LN Mo fp XE) ifs tc)
  (he:∀(C:Addr) (LN:Shared) (Mo:Hp) (fp:yae) (XE:yaa),Mf (bj X sc ns [x] C LN Mo fp XE) elt te) (To:closureFor sc X.env=pure (ft X.env ns):=by rfl) (hs:∀x,foldedSetIterable iter X.env x=pure x:=by intro _;rfl) :
  Mf X (.ListComp elt [⟨.Name x px,iter,ifs,0⟩] sc pos) (n5 wi js tc te):=by
 intro pins s σ H W ρ Q I r h;rw[eval_ListComp];refine wpAny_comprehension_free (use:=none) rfl hs To S.kind S.names (LK (hi pins s σ H W ρ _ I r h) λv s1 h1=>LK h1 λS9 s2 h2=>?_);obtain⟨it,fp,tn,J,H2,ds,e,I2,e2,T,LX,f2,yd,hz,Pv,p0,step,fin⟩:=h2;subst e;refine qJ (RR:=λacc C=>compPost (model X.prog X.w) X.A X.xe none (DP X pins σ W H Q) acc C) hc S hj (Ed:=λ_=>False) (λC LN Mo fp XE _=>he C LN Mo fp XE) (λC LN Mo fp XE _=>ht C LN Mo fp XE) (λ_ _=>eT.no) I2 (r.same e2) (λC LN Mo fp XE=>wR S) T LX f2 yd hz Pv p0 (FI step) ?_;intro D C s' H' m' out I' sm Va YO hC1 hC2 hC3 hC4 ⟨hn,hk,vs,hD,Ni⟩ pv;have Pc:Den X.K W.bad H' (.lst true out) (.ref D):=Den.lst ((r.same e2).fresh hn) (.new hD hk) (Ni.Ml λ_ _ z=>.inl z);refine⟨m',Va,λh' Wm=>?_⟩;exact⟨.ref D,H',_,I'.turned (t':=s'.toks) (λb o hb e=>(Wm.2 b hb).trans e) YO hC1 (.inr hC2) hC3 hC4,rfl,e2.trans sm,Pc,fin out pv⟩
def lQ{y:Str}{YZ:Pos}(i:Nat)(hN:X.N.Nodup)(hc:X.calm=true)(S:Wg X.env.scope sc [x] ns)(hj:bH X.N ns js)(hi:T1 X (.Name x px) iter wi)(ht:∀(C:Addr) (LN:Shared) (Mo:Hp) (fp:yae) (XE:yaa),Wh (bj X sc ns [x] C LN Mo fp XE) ifs tc)
  (he:∀(C:Addr) (LN:Shared) (Mo:Hp) (fp:yae) (XE:yaa),Mf (bj X sc ns [x] C LN Mo fp XE) elt te) (hy:X.N[i]?=some y:=by rfl) (hly:X.env.scope.names.lookup y=some .local:=by rfl) (To:closureFor sc X.env=pure (ft X.env ns):=by rfl) (hs:∀x,foldedSetIterable iter X.env x=pure x:=by intro _;rfl)
  (hsw:swapsWith (.ListComp elt [⟨.Name x px,iter,ifs,0⟩] sc pos) (some (.Name y py)) YZ.line X.env=pure true:=by rfl) :
  OF X (.Assign [.Name y py] (.ListComp elt [⟨.Name x px,iter,ifs,0⟩] sc pos) YZ) (DV i (n5 wi js tc te)):=by
 intro pins s σ H W ρ E I r h;rw[exec_Assign_Name_used _ _ _ _ hsw];refine LA (wpAny_standAt (LA ?_));show wpAny _ X.A (do let _←comprehension (.ListComp elt [⟨.Name x px,iter,ifs,0⟩] sc pos) sc X.env _ (newList []) false (eval iter X.env) (some (assign (.Name y py) X.env))) _ _ s;refine LA (PU (wpAny_comprehension_free (use:=some (assign (.Name y py) X.env)) (Q:=λ_ s'=>TY X pins W H E .next s') rfl hs To S.kind S.names
  (LK (hi pins s σ H W ρ _ I r h) λv s1 h1=>LK h1 λS9 s2 h2=>?_)) (λ_ s' hq=>Ma (Ma hq)) λ_ _ e=>e)
 obtain⟨it,fp,tn,J,H2,ds,e,I2,e2,T,LX,f2,yd,hz,Pv,p0,step,fin⟩:=h2;subst e;refine qJ (RR:=λacc C=>compPost (model X.prog X.w) X.A X.xe (some (assign (.Name y py) X.env)) (λ_ s'=>TY X pins W H E .next s') acc C) hc S hj (Ed:=λ_=>False) (λC LN Mo fp XE _=>he C LN Mo fp XE) (λC LN Mo fp XE _=>ht C LN Mo fp XE) (λ_ _=>eT.no) I2 (r.same e2) (λC LN Mo fp XE=>wR S) T LX f2 yd hz Pv p0 (FI step) ?_;intro D C s' H' m' out I' sm Va YO hC1 hC2 hC3 hC4 ⟨hn,hk,vs,hD,Ni⟩ pv;have Pc:Den X.K W.bad H' (.lst true out) (.ref D):=Den.lst ((r.same e2).fresh hn) (.new hD hk) (Ni.Ml λ_ _ z=>.inl z);have rr:=(r.same e2).same sm;show wpAny _ X.A (assign (.Name y py) X.env (.ref D)) _ _ _;refine wpAny_assign_Name (uB (v:=.ref D) I' hN hy (.inl hly) rfl (λs3 I3 LO=>?_) (.inr hly));obtain⟨a,Wm,ha⟩:=LO;have NK:C≠a:=by
  rcases ha with z|z
  ·rw[z];exact hC1
  ·exact λq=>hC3 y a z q.symm
 refine⟨m',Va.sameBut Wm NK,λh' hsb'=>?_⟩;refine⟨W.drop i,_,H',I3.turned (t':=s3.toks) (λb o hb e=>(hsb'.2 b hb).trans e) YO hC1 (.inr hC2) hC3 hC4,(Mt.same (e2.trans sm)).trans (Mt.drop W H' i),_,rr.put (Inv.Sy I' hy) Pc,fin out pv⟩
end
noncomputable def Ih(osc sc:Scope)(xs ns:yah):Bool :=
 decide (sc.kind=.function) && (sc.names.all λy=>decide (y.2 ≠ .cell)) && (sc.names.all λy=>decide (y.2=.local->sc.names.lookup y.1=some .local)) && (xs.all λx=>decide (sc.names.lookup x=some .local)) &&
 (sc.names.all λy=>decide (y.2=.free->y.1∈ns/\osc.names.lookup y.1=some .cell)) && (ns.all λn=>decide (sc.names.lookup n=some .free/\osc.names.lookup n=some .cell)) && decide (xs++ns).Nodup
def bP(h:Ih osc sc xs ns=true):Wg osc sc xs ns:=by unfold Ih at h;simp only[SU]at h;obtain⟨⟨⟨⟨⟨⟨h1,h2⟩,h3⟩,h4⟩,h5⟩,h6⟩,h7⟩:=h;exact⟨OP h1,λy hy=>OP (XX.mp h2 y hy),λy hy=>OP (XX.mp h3 y hy),λx hx=>OP (XX.mp h4 x hx),λy hy=>OP (XX.mp h5 y hy),λn hn=>OP (XX.mp h6 n hn),OP h7⟩
inductive Nms:yai->yah->Prop where
 |nil:Nms [] []
 |cons {x:Str} {p:Pos} {es:yai} {xs:yah} (h:Nms es xs):Nms (.Name x p::es) (x::xs)
def Jg(k:Bool)(R:Int->Prop)(S:Bool->Prop):((∃i:Int,[D.bl k]=[.int i]/\R i)∨∃ j:Bool,[D.bl k]=[.bl j]/\S j)=S k:=by
 apply propext;constructor
 ·rintro(⟨_,e,_⟩| ⟨_,e,q⟩)
  ·cases e
  ·cases e;exact q
 ·intro q;exact .inr ⟨k,rfl,q⟩
def Jx(b:Bool):okD (.bl b):=by unfold okD;rw[Nv,Q5]<;>first|exact⟨rfl,rfl⟩| (intros;contradiction)
def Ex(i:Int):okD (.int i)=True:=eq_true (GX i)
def GW(b:Bool):okD (.bl b)=True:=eq_true (Jx b)
def Ey:okD .Mj=True:=eq_true GY
def GZ(a b c:Int):okD (.tup [.int a,.int b,.int c])=True:=eq_true (Jy a b c)
def oh(i j:Int):eqD (.int i) (.int j)=decide (i=j):=by unfold eqD;rw[Nv,Nv];rfl
def B3(i j:Bool):eqD (.bl i) (.bl j)=decide (i=j):=by unfold eqD;rw[Nv,Nv];cases i<;>cases j<;>rfl
def Ji(t:Bool)(xs:yas)(R:yas->Prop):(∃t' ds,D.lst t xs=.lst t' ds/\R ds)=R xs:=by
 apply propext;constructor
 ·rintro⟨_,_,e,q⟩;cases e;exact q
 ·intro q;exact⟨t,xs,rfl,q⟩
def Gj(ds:yas)(r:Ro)(R:yas->Prop):(∃SD,(some (Sl.own ds)::r)[0]?=some (some (Sl.own SD))/\R SD)=R ds:=by
 apply propext;constructor
 ·rintro⟨_,e,q⟩;have e':some (some (Sl.own ds))=some (some (Sl.own _)):=e;cases e';exact q
 ·intro q;exact⟨ds,rfl,q⟩
theorem Gk(n:Nat)(x:Option Sl)(r:Ro)(R:yas->Prop):(∃SD,(x::r)[n+1]?=some (some (Sl.own SD))/\R SD)=(∃SD,r[n]?=some (some (Sl.own SD))/\R SD):=rfl
theorem Jc(d:D)(r:Ro):b5 (some (.val d)::r) 0=some (.val d):=rfl
theorem Je(r:Ro):b5 (none::r) 0=none:=rfl
theorem Jd(n:Nat)(x:Option Sl)(r:Ro):b5 (x::r) (n+1)=b5 r n:=rfl
def dW{t g:Int}(hg:g≠0)(hd:g∣t)(h:Bd n t):Bd n (t.fdiv g):=VH (PM.o7 hg hd) h
def Bt{x y z:Int}(h:¬(x=0/\y=0/\z=0))(hx:Bd n x)(hy:Bd n y)(hz:Bd n z):Bd n (PM.ML x y z l):=by
 unfold Bd at *;rw[PM.sN];have d1:=UT.mpr (PM.gn x y z);have d2:=UT.mpr (PM.iS x y z);have d3:=UT.mpr (PM.iT x y z);simp only[Int.natAbs_natCast]at d1 d2 d3;by_cases h1:x=0
 ·by_cases h2:y=0
  ·have h3:z≠0:=λe=>h ⟨h1,h2,e⟩
   have:=U4 (by lia) d3
   lia
  ·have:=U4 (by lia) d2
   lia
 ·have:=U4 (by lia) d1
  lia
def fQ(ha:Bd 200 a)(hb:Bd 200 b)(hc:Bd 200 c)(hd:Bd 200 d):Bd 1000 (a*b - c*d):=((ha.mul hb).sub (hc.mul hd)).mono (by decide)
noncomputable def sg(n:Int):Int:=if 0<n then 1 else if n<0 then -1 else 0
def rk(a0 a1 a2 b0 b1 b2:Int):Int:=if sg (a1*b0 - b1*a0)=0 then sg (a2*b0 - b2*a0)else sg (a1*b0 - b1*a0)
noncomputable def sw(a0 a1 a2 b0 b1 b2 c0 c1 c2:Int):Int:=a0*(b1*c2 - c1*b2)+b0*(c1*a2 - a1*c2)+c0*(a1*b2 - b1*a2)
structure Pl(n:Nat)(a b c:Int):Prop where
 pos:0<a
 low:PM.g3 a b c=1
 b0:Bd n a
 b1:Bd n b
 b2:Bd n c
def je{d k x y z:Int}(h1:d∣k*x)(h2:d∣k*y)(h3:d∣k*z)(hg:PM.g3 x y z=1):d∣k:=by
 have e1:d∣(Int.gcd (k*x) (k*y):Int):=WZ h1 h2;rw[Int.gcd_mul_left]at e1;have e2:d∣k*(Int.gcd x y:Int):=by
  have:((k.natAbs*Int.gcd x y:Nat):Int)∣k*(Int.gcd x y:Int):=by rw[Int.natCast_mul];exact X1 (Int.natAbs_dvd.mpr (Ui _)) (Ui _)
  exact Xa e1 this
 have e3:d∣(Int.gcd (k*(Int.gcd x y:Int)) (k*z):Int):=WZ e2 h3;rw[Int.gcd_mul_left]at e3;have e4:Int.gcd (Int.gcd x y:Int) z=1:=hg;rw[e4,Nat.mul_one]at e3;exact Xa e3 (Int.natAbs_dvd.mpr (Ui _))
def xr(b x y:Int):D:=T3 (b.fdiv (PM.ML b x y b)) (x.fdiv (PM.ML b x y b)) (y.fdiv (PM.ML b x y b))
structure J4(d:D)(b x y:Int):Prop where
 ex:∃p q r,d=T3 p q r/\Bd 4000 p/\Bd 4000 q/\Bd 4000 r/\0<p/\p*x=b*q/\p*y=b*r/\PM.g3 p q r=1
def AN{b:Int}(hb:b≠0)(h0:Bd 4000 b)(h1:Bd 4000 x)(h2:Bd 4000 y):J4 (xr b x y) b x y:=by
 have hz:¬(b=0/\x=0/\y=0):=λz=>hb z.1
 have e1:=PM.bR (l:=b) (PM.gn b x y);have e2:=PM.bR (l:=b) (PM.iS b x y);have e3:=PM.bR (l:=b) (PM.iT b x y);refine⟨_,_,_,rfl,dW (PM.cX hz) (PM.cW (PM.gn _ _ _)) h0,dW (PM.cX hz) (PM.cW (PM.iS _ _ _)) h1,dW (PM.cX hz) (PM.cW (PM.iT _ _ _)) h2,PM.oH hb (PM.gn _ _ _) hz,?_,?_,PM.xx hz⟩
 ·generalize b.fdiv (PM.ML b x y b)=p at *;generalize x.fdiv (PM.ML b x y b)=q at *;rw[<- e2]
  conv=>rhs;rw[<- e1]
  rw[M4 q,<- U3]
 ·generalize b.fdiv (PM.ML b x y b)=p at *;generalize y.fdiv (PM.ML b x y b)=q at *;rw[<- e3]
  conv=>rhs;rw[<- e1]
  rw[M4 q,<- U3]
end PD
namespace PZ
open PySem PySem.Spec PyProof.Rows
def Y0:Bool->Heap->Addr->Addr->Nat->Prop
 |true,h,it,a,i=>h.IsListIter it a i
 |false,h,it,a,i=>h.IsTupleIter it a i
structure Ap(z TI TO i1 i2:Addr):Prop where
 a1:TI≠z
 a2:TO≠z
 a3:i1≠z
 a4:i2≠z
 a5:TI≠TO
 a6:TI≠i1
 a7:TI≠i2
 a8:TO≠i1
 a9:TO≠i2
 b1:i1≠i2
structure Out(z TO i1 i2 l:Addr):Prop where
 c1:l≠z
 c2:l≠TO
 c3:l≠i1
 c4:l≠i2
structure ZSt(k1 k2:Bool)(z TI TO i1 i2 l1 l2:Addr)(i:Nat)(h:Heap):Prop where
 z:IsZip h z TI TO .none
 ti:IsPair h TI (.ref i1) (.ref i2)
 to:∃a b,IsPair h TO a b
 s1:Y0 k1 h i1 l1 i
 s2:Y0 k2 h i2 l2 i
end PZ
namespace PD
open PySem PySem.Spec PyProof.Rows L2 PZ
def E1:D->Option (Bool×yas)
 |.lst _ ds=>some (true,ds)
 |.tup ds=>some (false,ds)
 |_=>none
open PySem PySem.Spec PyProof.Rows L2
def Qo(X:Cx)(e:Expr)(t:DA):Prop :=
 ∀ (pins:yab) (s:Shared) (σ:St) (H:Hp) (W:Own) (ρ:Ro) (Q:yas->Prop),Inv X pins σ H s->Rel X W H σ ρ->t ρ Q →
  wpAny (model X.prog X.w) X.A (eval e X.env) (λu s'=>∃a vs H' ds,u=.ref a/\Inv X pins σ H' s'/\au H H'/\H a=none/\X.K.lookup a=none/\H' a=some (.lst vs)/\ag X.K (λt b=>W.bad t b∨b=a) H' ds vs/\Q ds) X.xe s
def Ir(t:DA):DE:=λρ Q=>t ρ λds=>Q (.lst true ds)
section
variable{X:Cx}{e:Expr}{t:DA}{pos:Pos}
def Qo.SE(h:Qo X e t):Mf X e (Ir t):=by
 intro pins s σ H W ρ Q I r hw;refine LK (h pins s σ H W ρ _ I r hw) λu s1 LO=>?_
 obtain⟨a,vs,H',ds,e,I1,sm,n,k,ha,hd,q⟩:=LO;subst e;exact⟨.ref a,H',_,I1,rfl,sm,Den.lst (r.fresh n) (.new ha k) (hd.Ml λ_ _ z=>.inl z),q⟩
def Qo.of(h:PE X e te)(k:∀σ H W ρ Q,Rel X W H σ ρ->t ρ Q->te σ H λv H'=>∃a vs ds H1,v=.ref a/\au H H1/\H1 a=none/\H'=L2.upd H1 a (.lst vs)/\ag X.K W.bad H1 ds vs/\Q ds)(hK:∀pins σ H s a vs,Inv X pins σ H s->H a=some (.lst vs)->X.K.lookup a=none):Qo X e t:=by
 intro pins s σ H W ρ Q I r hw;refine LK (h pins s σ H _ I (k σ H W ρ Q r hw)) λu s1 LO=>?_
 obtain⟨v,H',I1,rv,a,vs,ds,H1,e,sm,n,eH,hd,q⟩:=LO;subst e eH;cases rv;exact⟨a,vs,_,ds,rfl,I1,sm.trans (au.upd n),sm.free n,hK _ _ _ _ a vs I1 aV,aV,ag.apart n (hK _ _ _ _ a vs I1 aV) hd,q⟩
def Inv.kno{o:HO}(I:Inv X pins σ H s)(h:H a=some o):X.K.lookup a=none:=by
 cases e:X.K.lookup a with
 |none=>rfl
 |some ob =>
  have:=(I.bs a ob (I.ok.mod.O9 a ob e)).2;rw[h]at this;cases this
def Fp(i:Nat)(t:DA):DS:=λE ρ=>t ρ λds=>E.nx (ρ.set i (some (.own ds)))
def F9{x:Str}(i:Nat)(hN:X.N.Nodup)(he:Qo X e t)(hi:X.N[i]?=some x:=by rfl)(hx:Loc X.env.scope x:=by first|exact Or.inl rfl|exact Or.inr rfl)(hs:swapsWith e (some (.Name x pos')) pos.line X.env=pure false:=by rfl)
  (hf:X.fn x=true∨X.env.scope.names.lookup x=some .local:=by first|exact .inl rfl|exact .inr rfl|assumption):OF X (.Assign [.Name x pos'] e pos) (Fp i t):=by
 intro pins s σ H W ρ E I r h;refine wpAny_Assign_Name (LK (he pins s σ H W ρ _ I r h) λu s1 LO=>?_) hs;obtain⟨a,vs,H1,ds,e1,I1,sm,n,k,ha,hd,q1⟩:=LO;subst e1;obtain⟨r',f'⟩:=r.RT (Inv.Sy I1 hi) sm n k ha hd;exact eO (v:=.ref a) I1 hN hi hx rfl (λs2 I2=>⟨_,_,H1,I2,f',_,r',q1⟩) hf
end
mutual
def pZ:D->Bool
 |.tup ds=>fF ds
 |.obj _ _ ds=>fF ds
 |.PW _ ds=>fF ds
 |.lst _ _=>false
 |_=>true
def fF:yas->Bool
 |[]=>true
 |d::ds=>pZ d && fF ds
end
mutual
def fP:D->Bool
 |.tup ds=>dZ ds
 |.obj _ _ ds=>dZ ds
 |.PW _ ds=>dZ ds
 |.lst t ds=>t && dZ ds
 |_=>true
def dZ:yas->Bool
 |[]=>true
 |d::ds=>fP d && dZ ds
end
section
variable{K:yac}{P P':yak}{H:Hp}
mutual
theorem Den.Wn:∀(d:D) (v:V),pZ d=true->Den K P H d v->Den K P' H d v
 |.Mj,_,_,h=>by simpa only[Den]using h
 |.bl _,_,_,h=>by simpa only[Den]using h
 |.int _,_,_,h=>by simpa only[Den]using h
 |.str _,_,_,h=>by simpa only[Den]using h
 |.exc _,_,_,h=>by simpa only[Den]using h
 |.obj C ns ds,_,n,h=>by rw[pZ]at n;simp only[Den]at h ⊢;obtain⟨a,dx,vs,e,q,l,k,r⟩:=h;exact⟨a,dx,vs,e,q,l,k,ag.Wn ds vs n r⟩
 |.Qm,_,_,h=>by simpa only[Den]using h
 |.PW ks ds,_,n,h=>by rw[pZ]at n;simp only[Den]at h ⊢;obtain⟨a,o,Mx,vs,e,q,l,k,r⟩:=h;exact⟨a,o,Mx,vs,e,q,l,k,ag.Wn ds vs n r⟩
 |.lst _ _,_,n,_=>by rw[pZ]at n;cases n
 |.tup ds,_,n,h=>by rw[pZ]at n;simp only[Den]at h ⊢;obtain⟨a,vs,e,q,r⟩:=h;exact⟨a,vs,e,q,ag.Wn ds vs n r⟩
theorem ag.Wn:∀(ds:yas) (vs:yar),fF ds=true->ag K P H ds vs->ag K P' H ds vs
 |[],_,_,h=>by simpa only[ag]using h
 |d::ds,_,n,h=>by rw[fF,SU]at n;simp only[ag]at h ⊢;obtain⟨v,r,e,h1,h2⟩:=h;exact⟨v,r,e,Den.Wn d v n.1 h1,ag.Wn ds r n.2 h2⟩
end
mutual
theorem Den.Q8(k:∀a,P' true a->P true a):∀(d:D) (v:V),fP d=true->Den K P H d v->Den K P' H d v
 |.Mj,_,_,h=>by simpa only[Den]using h
 |.bl _,_,_,h=>by simpa only[Den]using h
 |.int _,_,_,h=>by simpa only[Den]using h
 |.str _,_,_,h=>by simpa only[Den]using h
 |.exc _,_,_,h=>by simpa only[Den]using h
 |.obj C ns ds,_,n,h=>by rw[fP]at n;simp only[Den]at h ⊢;obtain⟨a,dx,vs,e,q,l,kk,r⟩:=h;exact⟨a,dx,vs,e,q,l,kk,ag.Q8 k ds vs n r⟩
 |.Qm,_,_,h=>by simpa only[Den]using h
 |.PW ks ds,_,n,h=>by rw[fP]at n;simp only[Den]at h ⊢;obtain⟨a,o,Mx,vs,e,q,l,kk,r⟩:=h;exact⟨a,o,Mx,vs,e,q,l,kk,ag.Q8 k ds vs n r⟩
 |.lst t ds,_,n,h=>by rw[fP,SU]at n;obtain⟨n1,n2⟩:=n;subst n1;simp only[Den]at h ⊢;obtain⟨a,vs,e,p,q,r⟩:=h;exact⟨a,vs,e,λz=>p (k a z),q,ag.Q8 k ds vs n2 r⟩
 |.tup ds,_,n,h=>by rw[fP]at n;simp only[Den]at h ⊢;obtain⟨a,vs,e,q,r⟩:=h;exact⟨a,vs,e,q,ag.Q8 k ds vs n r⟩
theorem ag.Q8(k:∀a,P' true a->P true a):∀(ds:yas) (vs:yar),dZ ds=true->ag K P H ds vs->ag K P' H ds vs
 |[],_,_,h=>by simpa only[ag]using h
 |d::ds,_,n,h=>by rw[dZ,SU]at n;simp only[ag]at h ⊢;obtain⟨v,r,e,h1,h2⟩:=h;exact⟨v,r,e,Den.Q8 k d v n.1 h1,ag.Q8 k ds r n.2 h2⟩
end
end
def Own.soft(W:Own)(i:Nat)(a:Addr):Own:=⟨W.B,λj=>if j=i then none else W.O j,λb=>W.S b∨b=a⟩
section
variable{X:Cx}
theorem Rel.soft{i:Nat}(r:Rel X W H σ ρ)(e:ρ[i]?=some (some (.own ds))):∃a,W.O i=some a/\Rel X (W.soft i a) H σ (ρ.set i (some (.val (.lst false ds))))/\∀b,W.bad true b->(W.soft i a).bad true b:=by
 obtain⟨a,vs,oa,sa,ha,Ni⟩:=r.Rp i ds e;have QD:i<ρ.length:=(OC.mp e).1;have hO:∀j b,(W.soft i a).O j=some b->j≠i/\W.O j=some b:=λj b h=>by
  have h1:(if j=i then none else W.O j)=some b:=h;by_cases z:j=i
  ·rw[Lx z]at h1;cases h1
  ·rw[Lw z]at h1;exact⟨z,h1⟩
 have low:∀t b,(W.soft i a).bad t b->W.bad t b:=λt b z=>by
  rcases z with z|⟨j,z⟩| ⟨z1,z2⟩
  ·exact .inl z
  ·exact .inr (.inl ⟨j,(hO j b z).2⟩)
  ·rcases z2 with z2|z2
   ·exact .inr (.inr ⟨z1,z2⟩)
   ·subst z2;exact .inr (.inl ⟨i,oa⟩)
 have nb:¬(W.soft i a).bad false a:=λz=>by
  rcases z with z|⟨j,z⟩| ⟨z1,_⟩
  ·exact(r.kn i a oa).2.1.1 z
  ·exact(hO j a z).1 (r.inj j i a (hO j a z).2 oa)
  ·cases z1
 refine⟨a,oa,⟨λj d h=>?_,λj x h=>?_,λj k b h1 h2=>r.inj j k b (hO j b h1).2 (hO k b h2).2,λj b h=>?_,λj b h=>r.ke j b (hO j b h).2,r.bt,λb h=>?_,r.ent,r.tab⟩,λb z=>?_⟩
 ·by_cases hj:j=i
  ·subst hj;rw[TL QD]at h;cases h;exact⟨.ref a,sa,Den.lst nb (.any (SqL.of ha)) (Ni.Ml low)⟩
  ·rw[Qi (Ne.symm hj)]at h;obtain⟨w,h1,h2⟩:=r.val j d h;exact⟨w,h1,h2.Ml low⟩
 ·by_cases hj:j=i
  ·subst hj;rw[TL QD]at h;cases h
  ·rw[Qi (Ne.symm hj)]at h;obtain⟨b,ws,h1,h2,h3,h4⟩:=r.own j x h;exact⟨b,ws,by show(if j=i then none else W.O j)=_;rw[Lw hj];exact h1,h2,h3,h4.Ml low λk c q=>(by show(if V7 σ.length j k=i then none else W.O (V7 σ.length j k))=_;rw[Lw (sj (OC.mp sa).1)];exact q)⟩
 ·obtain⟨k1,⟨k2,k3⟩,k4⟩:=r.kn j b (hO j b h).2;refine⟨k1,⟨k2,λz=>z.elim k3 λz=>?_⟩,k4⟩;subst z;exact(hO j b h).1 (r.inj j i b (hO j b h).2 oa)
 ·rcases h with h|h
  ·exact r.st b h
  ·subst h;exact⟨_,ha⟩
 ·rcases z with z|⟨j,z⟩| ⟨_,z⟩
  ·exact .inl z
  ·by_cases hj:j=i
   ·subst hj;rw[oa]at z;cases z;exact .inr (.inr ⟨rfl,.inr rfl⟩)
   ·exact .inr (.inl ⟨j,by show(if j=i then none else W.O j)=_;rw[Lw hj];exact z⟩)
  ·exact .inr (.inr ⟨rfl,.inl z⟩)
variable{e:Expr}{te:DE}{tt:DT}{ta:DA}
def Ft(i:Nat)(t:DE):DE:=λρ Q=>∃ds,ρ[i]?=some (some (.own ds))/\t (ρ.set i (some (.val (.lst false ds)))) λd=>fP d=true/\Q d
def BO(i:Nat)(t:DT):DT:=λρ Q=>∃ds,ρ[i]?=some (some (.own ds))/\t (ρ.set i (some (.val (.lst false ds)))) Q
def y6(i:Nat)(h:Mf X e te):Mf X e (Ft i te):=by intro pins s σ H W ρ Q I r hw;obtain⟨ds,eo,hw⟩:=hw;obtain⟨a,oa,r',up⟩:=r.soft eo;exact LK (h pins s σ H _ _ _ I r' hw) λu s1 MP=>(by obtain⟨v,H',d,I1,rv,e1,hd,al,q⟩:=MP;exact⟨v,H',d,I1,rv,e1,Den.Q8 up d v al hd,q⟩)
def Gb(i:Nat)(h:Q4 X e tt):Q4 X e (BO i tt):=by intro pins s σ H W ρ Q I r hw;obtain⟨ds,eo,hw⟩:=hw;obtain⟨a,oa,r',up⟩:=r.soft eo;exact h pins s σ H _ _ _ I r' hw
end
section
variable{X:Cx}{pos:Pos}
theorem ag.set{K:yac}{P:yak}{H:Hp}{d:D}{v:V}(hd:Den K P H d v):∀{ds:yas} {vs:yar} (j:Nat),ag K P H ds vs->ag K P H (ds.set j d) (vs.set j v)
 |[],_,_,h=>by simp only[ag]at h;subst h;exact ag.nil
 |x::r,_,0,h=>by simp only[ag]at h;obtain⟨u,w,rfl,h1,h2⟩:=h;exact ag.cons hd h2
 |x::r,_,j+1,h=>by simp only[ag]at h;obtain⟨u,w,rfl,h1,h2⟩:=h;exact ag.cons h1 (ag.set hd j h2)
theorem ag.take{K:yac}{P:yak}{H:Hp}:∀{ds:yas} {vs:yar} (n:Nat),ag K P H ds vs->ag K P H (ds.take n) (vs.take n)
 |_,_,0,_=>by simp only[List.take_zero];exact ag.nil
 |[],_,_+1,h=>by simp only[ag]at h;subst h;exact ag.nil
 |x::r,_,n+1,h=>by simp only[ag]at h;obtain⟨u,w,rfl,h1,h2⟩:=h;exact ag.cons h1 (ag.take n h2)
theorem ag.drop{K:yac}{P:yak}{H:Hp}:∀{ds:yas} {vs:yar} (n:Nat),ag K P H ds vs->ag K P H (ds.drop n) (vs.drop n)
 |_,_,0,h=>by simpa only[X3]using h
 |[],_,_+1,h=>by simp only[ag]at h;subst h;exact ag.nil
 |x::r,_,n+1,h=>by simp only[ag]at h;obtain⟨u,w,rfl,h1,h2⟩:=h;exact ag.drop n h2
theorem ag.rev{K:yac}{P:yak}{H:Hp}:∀{ds:yas} {vs:yar},ag K P H ds vs->ag K P H ds.reverse vs.reverse
 |[],_,h=>by simp only[ag]at h;subst h;exact ag.nil
 |x::r,_,h=>by simp only[ag]at h;obtain⟨u,w,rfl,h1,h2⟩:=h;rw[VL,VL];exact(ag.rev h2).append (ag.one h1)
def BN(i:Nat)(tk te:DE):DS:=λE ρ=>∃ds,ρ[i]?=some (some (.own ds))/\te ρ λd=>tk ρ λk=>∃n j,k=.int n/\ixN ds.length n=some j/\E.nx (ρ.set i (some (.own (ds.set j d))))
def D3{x:Str}(i:Nat)(hk:Mf X k tk)(he:Mf X e te)(hi:X.N[i]?=some x:=by rfl)(hv:S6 X.env.scope x:=by first|exact Or.inl rfl|exact Or.inr (Or.inl rfl)|exact Or.inr (Or.inr rfl))
  (hd:(x==("__debug__" : Str))=false:=by decide) (O4:(x==("__classdict__" : Str))=false:=by decide)
  (ha:∀v,assign (.Subscript (.Name x px) k tp) X.env v=(do
   let ov←holding [v] (eval (.Name x px) X.env)
   let iv←holding [v,ov] (eval k X.env)
   standAt tp
   holding [v,ov,iv] (setItem ov iv v)
   release [v,ov,iv] []):=by intro _;rfl)
  (hs:swapsWithSole [.Subscript (.Name x px) k tp] e pos.line X.env=pure false:=by rfl) (hw:swappedStores [.Subscript (.Name x px) k tp] e X.env=pure none:=by rfl)
  (h1:(assignEach [.Subscript (.Name x px) k tp] X.env).map (·.2)=[assign (.Subscript (.Name x px) k tp) X.env]:=by rfl):OF X (.Assign [.Subscript (.Name x px) k tp] e pos) (BN i tk te):=by
 intro pins s σ H W ρ E I r h;obtain⟨ds,eo,h⟩:=h;refine wpAny_Assign_stores (LK (he pins s σ H W ρ _ I r h) λu s1 LO=>?_) hs hw;obtain⟨v,H1,d,I1,r1,e1,Uv,q1⟩:=LO;rw[h1];show wpAny _ _ (assign (.Subscript (.Name x px) k tp) X.env u) _ _ _;rw[ha];have rr:=r.same e1;obtain⟨a,_,oa,sa,_,_⟩:=rr.Rp i ds eo;refine LA (QN (LK (iJ hi hv hd O4 pins s1 σ H1 (λo H'=>H'=H1/\o=.ref a) I1 ⟨.ref a,sa,rfl,rfl⟩) λov s2 LO=>?_));obtain⟨o,H2,I2,ro,eH,so⟩:=LO;subst eH so;refine LA (QN (LK (hk pins s2 σ H2 W ρ _ I2 rr q1) λiv s3 LO=>?_));obtain⟨kv,H3,kd,I3,r3,e3,hd3,q3⟩:=LO;obtain⟨n,j,ek,hj,q⟩:=q3;subst ek;have hz:=hd3.MN;subst hz;have r4:=rr.same e3;obtain⟨a',vs,oa',sa',SA,Ni⟩:=r4.Rp i ds eo;rw[oa]at oa';cases oa';refine LA (wpAny_standAt (LA (QN (LK (set_list pins s3 σ H3 (.ref a) (.int n) v ov iv u (λH'=>H'=L2.upd H3 a (.lst (vs.set j v))) I3 ro r3 r1 ⟨a,vs,n,j,rfl,rfl,SA,by rw[Ni.len];exact hj,rfl⟩) λ_ s4 LO=>?_))));obtain⟨H4,I4,e4⟩:=LO;subst e4;obtain⟨r5,f5⟩:=r4.Sd eo oa sa SA (ag.set (Uv.same e3) j Ni);exact wpAny_release ⟨W,σ,_,I4,(Mt.same (e1.trans e3)).trans f5,_,r5,q⟩
def Al(i:Nat)(C:yas->Prop)(f:yas->yas):DS:=λE ρ=>∃ds,ρ[i]?=some (some (.own ds))/\C ds/\E.nx (ρ.set i (some (.own (f ds))))
def D2 {x name:Str} {id:String} {px apos Me:Pos} {rm:V->yar->Hp->VK->Prop} {C:yas->Prop} {f:yas->yas} (g:yar->yar) (i:Nat) (slot:Slot "list" name id) (Yi:typeOf (.builtin id)=pure (.type "method_descriptor")) (hm:MtM X id rm)
  (hr:∀(a:Addr) (vs:yar) (ds:yas) (H:Hp) (Q:VK),H a=some (.lst vs)->vs.length=ds.length->C ds->(∀v,Q v (L2.upd H a (.lst (g vs))))->rm (.ref a) [] H Q) (hg:∀(K:yac) (P:yak) (H:Hp) (ds:yas) (vs:yar),ag K P H ds vs->ag K P H (f ds) (g vs))
  (hi:X.N[i]?=some x:=by rfl) (hv:S6 X.env.scope x:=by first|exact Or.inl rfl|exact Or.inr (Or.inl rfl)|exact Or.inr (Or.inr rfl)) (hd:(x==("__debug__" : Str))=false:=by decide) (O4:(x==("__classdict__" : Str))=false:=by decide)
  (N7:attributeBase (.Name x px) name X.env (eval (.Name x px) X.env)=eval (.Name x px) X.env:=by rfl) (N8:(apos.endLine==Me.line)=true:=by rfl)
  (hs:swapsWith (.Call (.Attribute (.Name x px) name apos) [] [] Me) none pos.line X.env=pure false:=by rfl):OF X (.Expr (.Call (.Attribute (.Name x px) name apos) [] [] Me) pos) (Al i C f):=by
 have P0:=tE (pos:=pos) (JH PySem.F.plainAttrs_list slot Yi hm (iJ hi hv hd O4) N7 N8) hs;refine OF.of P0 λσ H W ρ E r hl h=>?_
 obtain⟨ds,eo,hc,h⟩:=h;obtain⟨a,vs,oa,sa,ha,Ni⟩:=r.Rp i ds eo;obtain⟨r',f'⟩:=r.Sd eo oa sa ha (hg _ _ _ ds vs Ni);exact⟨.ref a,sa,.inl ⟨rfl,_,SqL.of ha⟩,hr a vs ds H _ ha Ni.len hc λv=>⟨W,_,f',r',h⟩⟩
theorem ag.dropLast{K:yac}{P:yak}{H:Hp}{ds:yas}{vs:yar}(h:ag K P H ds vs):ag K P H ds.dropLast vs.dropLast:=by rw[List.dropLast_eq_take,List.dropLast_eq_take,h.len];exact h.take _
def IJ {x:Str} {px apos Me:Pos} (i:Nat) (hi:X.N[i]?=some x:=by rfl) (hv:S6 X.env.scope x:=by first|exact Or.inl rfl|exact Or.inr (Or.inl rfl)|exact Or.inr (Or.inr rfl)) (hd:(x==("__debug__" : Str))=false:=by decide) (O4:(x==("__classdict__" : Str))=false:=by decide)
  (N7:attributeBase (.Name x px) "pop" X.env (eval (.Name x px) X.env)=eval (.Name x px) X.env:=by rfl) (N8:(apos.endLine==Me.line)=true:=by rfl)
  (hs:swapsWith (.Call (.Attribute (.Name x px) "pop" apos) [] [] Me) none pos.line X.env=pure false:=by rfl):OF X (.Expr (.Call (.Attribute (.Name x px) "pop" apos) [] [] Me) pos) (Al i (λds=>0<ds.length) List.dropLast) :=
 D2 List.dropLast i PySem.F.slot_list_pop PySem.F.type_list_pop Jt (λa vs ds H Q ha hl hc q=>by
  have hp:vs.length - 1<vs.length:=by omega
  exact⟨a,vs,vs[vs.length - 1],rfl,rfl,ha,by simp[hp],q _⟩) (λ_ _ _ _ _ h=>h.dropLast) hi hv hd O4 N7 N8 hs
variable{e:Expr}{te:DE}{p:Pos}
def Fs(te:DE):DA:=λρ Q=>te ρ λd=>∃k ds,E1 d=some (k,ds)/\Q ds
def wH{K:yac}{P:yak}{H:Hp}{d:D}{v:V}{k:Bool}{ds:yas}(h:Den K P H d v)(e:E1 d=some (k,ds)):∃a vs,v=.ref a/\(SqL K H a vs∨M6 K H a vs)/\ag K P H ds vs:=by
 cases d with
 |lst t es =>
  cases e;obtain⟨a,vs,e1,p,q,hd⟩:=h.OJ;exact⟨a,vs,e1,.inl q,hd⟩
 |tup es =>
  cases e;obtain⟨a,vs,e1,q,hd⟩:=h.Qc;exact⟨a,vs,e1,.inr q,hd⟩
 |Mj=>cases e
 |bl _=>cases e
 |int _=>cases e
 |str _=>cases e
 |exc _=>cases e
 |obj _ _ _=>cases e
 |Qm=>cases e
 |PW _ _=>cases e
def y9 (hg:Gl X "list") (hm:X.mg "list" = none) (he:Mf X e te) (OK:starEach [e] X.env=(false,eval e X.env)::starEach [] X.env:=by rfl) (M9:(backTo pos (starEach [] X.env)).any (·.1)=false:=by rfl):Qo X (.Call (.Name "list" p) [e] [] pos) (Fs te):=by
 refine Qo.of (CQ vW hg hm boot_list (gT he.pe nG OK) (by decide) (by decide) OK M9) (λσ H W ρ Q r h=>?_) λ_ _ _ _ _ _ I h=>Inv.kno I h
 refine⟨W,ρ,_,r,h,λv H' d e1 hd q=>?_⟩;obtain⟨k,ds,es,q⟩:=q;obtain⟨a,vs,ev,hq,Ni⟩:=wH hd es;subst ev;exact⟨a,vs,rfl,hq.imp id M6.w,λl hl=>⟨l,vs,ds,H',rfl,e1,hl,rfl,Ni,q⟩⟩
theorem jE{K:yac}{P:yak}{H:Hp}:∀{ns:yaf} {vs:yar},ag K P H (ns.map D.int) vs->vs=ns.map V.int
 |[],_,h=>by simpa only[R7,ag]using h
 |n::r,_,h=>by simp only[MR,ag]at h;obtain⟨v,w,rfl,h1,h2⟩:=h;rw[h1.MN,jE h2];rfl
def vZ (hc:X.calm=true):dE X (.builtin "sum") (λds Q=>∃(t:Bool) (ns:yaf),ds=[.lst t (ns.map D.int)]/\Q (.int ns.sum)):=by
 intro pins s σ H W ds vs us Q I tr r hd q;obtain⟨t,ns,e,q⟩:=q;subst e;obtain⟨v,rfl,h1⟩:=n9 hd;obtain⟨a,ws,ev,_,hq,hw⟩:=h1.OJ;subst ev;cases r with
 |cons r1 rr =>
  cases rr;cases r1;obtain⟨LC,rv,pl,_⟩:=I.list hq;rw[jE hw]at rv;have ia:=intsAre_of rv;obtain⟨xs,ex⟩:=ia.allInts.items;have hl:s.heap.IsList a (intItems xs):=by rw[<- ex];exact pl.isList
  refine sum_intListG (I.ok.hd hc) hl λh' tk t' kp=>?_
  have es:preSum (numAt xs) xs.size=ns.sum:=by rw[preSum_eq,Rk (by simp),<- nums_intItems,<- ex,show LC.toArray.toList=LC from rfl,ia.numsOf]
  rw[es];exact⟨.int ns.sum,H,_,I.kept kp,⟨_,rfl⟩,au.refl H,Den.int _,q⟩
theorem Vals.rev:∀{xs:yar} {us:yad},Vals xs us->Vals xs.reverse us.reverse
 |_,_,.nil=>.nil
 |_,_,.cons r t=>by rw[VL,VL];exact(Vals.rev t).append (.cons r .nil)
def cutD(xs:yas)(lo hi:yaq):yas:=(xs.drop (HT.Oj xs.length 0 lo)).take (HT.Oj xs.length xs.length hi - HT.Oj xs.length 0 lo)
def ag.cut{K:yac}{P:yak}{H:Hp}{ds:yas}{vs:yar}(lo hi:yaq)(h:ag K P H ds vs):ag K P H (cutD ds lo hi) (sE vs lo hi):=by unfold cutD sE;rw[h.len];exact(h.drop _).take _
abbrev DO:=Ro->(yaq->Prop)->Prop
def Vl(X:Cx)(e:Option Expr)(t:DO):Prop :=
 ∀ (pins:yab) (s:Shared) (σ:St) (H:Hp) (W:Own) (ρ:Ro) (Q:yaq->Prop),Inv X pins σ H s->Rel X W H σ ρ->t ρ Q →
  wpAny (model X.prog X.w) X.A (evalPart e X.env) (λu s'=>∃o H',Inv X pins σ H' s'/\IsPart u o/\au H H'/\Q o) X.xe s
def eU:DO:=λ_ Q=>Q none
def qM(te:DE):DO:=λρ Q=>te ρ λd=>∃i,d=.int i/\Q (some i)
def eV:Vl X none eU:=by intro pins s σ H W ρ Q I r h;rw[evalPart_none];exact Ma ⟨none,H,I,.none,au.refl H,h⟩
def eW(he:Mf X e te):Vl X (some e) (qM te):=by
 intro pins s σ H W ρ Q I r h;rw[evalPart_some];refine LK (he pins s σ H W ρ _ I r h) λu s1 LO=>?_
 obtain⟨v,H1,d,I1,rv,e1,hd,i,ed,q⟩:=LO;subst ed;have z:=hd.MN;subst z;obtain⟨t,rfl⟩:=rv;exact⟨some i,H1,I1,.int i t,e1,q⟩
variable{lo hi st:Option Expr}{tl th ts:DO}{p2:Pos}
def xO{R:D->yaq->yaq->yaq->Prop}(he:Mf X e te)(hl:Vl X lo tl)(hh:Vl X hi th)(ht:Vl X st ts)(I:Inv X pins σ H s)(r:Rel X W H σ ρ)
  (h:te ρ λd=>tl ρ λl=>th ρ λu=>ts ρ λk=>R d l u k)
  (hk:∀(v:V) (vv vl vu vk:Value) (l u k:yaq) (d:D) (sl:Addr) (H':Hp) (s':Shared),Inv X pins σ H' s'->au H H'->RelV v vv->Den X.K W.bad H' d v->s'.heap.IsSliceOf sl vl vu vk->IsPart vl l->IsPart vu u->IsPart vk k->R d l u k →
   ∃ T id,typeLookup (.type T) "__getitem__" = pure (some (.builtin id))/\s'.TypeIs vv T/\wpAny (model X.prog X.w) X.A (getItem vv (.ref sl)) Q X.xe s')
  (Y1:∀vv sl,∃ops,subscripted (.Slice lo hi st p2) false vv sl=operate ops (getItem vv sl)):wpAny (model X.prog X.w) X.A (eval (.Subscript e (.Slice lo hi st p2) pos) X.env) Q X.xe s:=by
 refine Subscript_ (LK (he pins s σ H W ρ _ I r h) λvv s1 LO=>?_);obtain⟨v,H1,d,I1,rv,e1,hd,q1⟩:=LO;have r1:=r.same e1;refine wpAny_Slice (LK (hl pins s1 σ H1 W ρ _ I1 r1 q1) λvl s2 ⟨l,H2,I2,pl,e2,q2⟩=>LK (hh pins s2 σ H2 W ρ _ I2 (r1.same e2) q2) λvu s3 ⟨u,H3,I3,pu,e3,q3⟩=>LK (ht pins s3 σ H3 W ρ _ I3 ((r1.same e2).same e3) q3) λvk s4 LO=>?_);obtain⟨k,H4,I4,pk,e4,q4⟩:=LO;have I5:Inv X pins σ H4 {s4 with heap:=s4.heap.push {cls:=.type "slice", data:=.fields #[vl,vu,vk]} }:=I4.kept (t':=s4.toks) λb ob q=>Oi _ q
 obtain⟨T,id,hT,ht',hg⟩:=hk v vv vl vu vk l u k d s4.heap.objs.size H4 _ I5 (e1.trans (e2.trans (e3.trans e4))) rv (hd.same (e2.trans (e3.trans e4))) (Heap.IsSliceOf.new ..) pl pu pk q4;show wpAny (model X.prog X.w) X.A (subscriptTail e (.Slice lo hi st p2) vv (.ref s4.heap.objs.size)) Q X.xe _;obtain⟨ops,ho⟩:=Y1 vv (.ref s4.heap.objs.size);exact tail_any (ops:=ops) ht' hT hg ho
def IA(te:DE)(tl th:DO):DA:=λρ Q=>te ρ λd=>tl ρ λl=>th ρ λu=>∃t ds,d=.lst t ds/\Q (cutD ds l u)
def pf(f:yar->yar)(g:yas->yas)(I:Inv X pins σ H' s)(r:Rel X W H' σ ρ)(sm:au H H')(rv:RelV v vv)(hd:Den X.K W.bad H' (.lst tg ds) v)(hs:s.heap.IsSliceOf sl vl vu vk)(pl:IsPart vl l)(pu:IsPart vu u)(pk:IsPart vk k)(k0:k≠some 0)
  (hp:∀LC:yad,∃g':yad->yad,slicePick LC.toArray l u k=(g' LC).toArray/\∀vs,Vals vs LC->Vals (f vs) (g' LC)/\(f vs).length<=vs.length) (hg:∀vs,ag X.K W.bad H' ds vs->ag X.K W.bad H' (g ds) (f vs)) {Q:yas->Prop} (q:Q (g ds)) :
  ∃ T id,typeLookup (.type T) "__getitem__" = pure (some (.builtin id))/\s.TypeIs vv T/\wpAny (model X.prog X.w) X.A (getItem vv (.ref sl)) (λuu s'=>∃a vs H'' ds,uu=.ref a/\Inv X pins σ H'' s'/\au H H''/\H a=none/\X.K.lookup a=none/\H'' a=some (.lst vs)/\ag X.K (λt b=>W.bad t b∨b=a) H'' ds vs/\Q ds) X.xe s:=by
 obtain⟨a,vs,ev,_,hq,Ni⟩:=hd.OJ;subst ev;cases rv;obtain⟨LC,rr,ht,hz⟩:=I.list hq;have hlen:=rr.length;refine⟨"list", _,slot_list_getitem.lookup,ht.isList.typeIs,?_⟩;refine wpAny_getItem_list_slice ht.isList hs pl pu pk k0 ?_ (by rw[Ot]<;>lia);obtain⟨g',e,hv⟩:=hp LC;rw[e];obtain⟨rv',QD⟩:=hv vs rr;have hf:H' s.heap.objs.size=none:=I.Mh.fresh (Mw _);refine⟨s.heap.objs.size,f vs,_,g ds,rfl,I.laid (t':=s.toks) (o:=.lst (f vs)) (λb ob q=>Oi _ q) (Mw _) ⟨NM QD hz,_,0,rv',Qu _ rfl⟩,sm.trans (au.upd hf),sm.free hf,Inv.N9 I,aV,ag.apart hf (Inv.N9 I) (hg vs Ni),q⟩
def fR(he:Mf X e te)(hl:Vl X lo tl)(hh:Vl X hi th):Qo X (.Subscript e (.Slice lo hi none p2) pos) (IA te tl th):=by
 intro pins s σ H W ρ Q I r h;refine xO (st:=none) (ts:=eU) (R:=λd l u k=>k=none/\∃t ds,d=.lst t ds/\Q (cutD ds l u)) he hl hh eV I r ?_ ?_ (λ_ _=>⟨_,rfl⟩)
 ·have e1:(λd=>tl ρ λl=>th ρ λu=>eU ρ λk=>k=none/\∃t ds,d=D.lst t ds/\Q (cutD ds l u))=λd=>tl ρ λl=>th ρ λu=>∃t ds,d=D.lst t ds/\Q (cutD ds l u):=by
   funext d
   congr 1
   funext l
   congr 1
   funext u
   exact propext ⟨λz=>z.2,λz=>⟨rfl,z⟩⟩
  rw[e1];exact h
 ·intro v vv vl vu vk l u k d sl H' s' I' sm rv hd hs pl pu pk hR;obtain⟨ek,t,ds,ed,q⟩:=hR;subst ek ed;exact pf (λvs=>sE vs l u) (λds=>cutD ds l u) I' (r.same sm) sm rv hd hs pl pu pk (by simp) (λLC=>⟨λLC=>(LC.drop (HT.Oj LC.length 0 l)).take (HT.Oj LC.length LC.length u - HT.Oj LC.length 0 l),uV LC l u,λvs rr=>⟨by unfold sE;rw[rr.length];exact(rr.drop _).take _,yh vs l u⟩⟩) (λvs Ni=>Ni.cut l u) q
def Iz(te:DE):DA:=λρ Q=>te ρ λd=>∃t ds,d=.lst t ds/\Q ds.reverse
def IG(he:Mf X e te):Qo X (.Subscript e (.Slice none none (some (.UnaryOp .USub (.Constant (.int 1) j pc) pu)) p2) pos) (Iz te):=by
 intro pins s σ H W ρ Q I r h;refine xO (ts:=qM (wB (dC (.int 1)))) (tl:=eU) (th:=eU) (R:=λd l u k=>l=none/\u=none/\k=some (-1)/\∃t ds,d=.lst t ds/\Q ds.reverse) he eV eV (eW (cu aa)) I r ?_ ?_ (λ_ _=>⟨_,rfl⟩)
 ·have e1:(λd=>eU ρ λl=>eU ρ λu=>qM (wB (dC (.int 1))) ρ λk=>l=none/\u=none/\k=some (-1)/\∃t ds,d=D.lst t ds/\Q ds.reverse)=λd=>∃t ds,d=D.lst t ds/\Q ds.reverse:=by
   funext d
   apply propext;simp only[eU,qM,wB,dC,true_and];constructor
   ·rintro⟨i,e1,i',e2,e3,z⟩;exact z
   ·intro z;exact⟨1,rfl,-1,rfl,rfl,z⟩
  rw[e1];exact h
 ·intro v vv vl vu vk l u k d sl H' s' I' sm rv hd hs pl pu pk hR;obtain⟨e1,e2,e3,t,ds,ed,q⟩:=hR;subst e1 e2 e3 ed;exact pf List.reverse List.reverse I' (r.same sm) sm rv hd hs pl pu pk (by decide) (λLC=>⟨List.reverse,PySem.W.krv_pick LC.toArray,λvs rr=>⟨Vals.rev rr,by rw[TN];exact Mw _⟩⟩) (λvs Ni=>Ni.rev) q
end
section
variable{prog:Program}{w:World}{A:Around}{E:yaa}{s:Shared}{p q:Addr}{us ws:yad}{Q:yaa}
def K0(hp:s.heap.IsList p us.toArray)(hq:s.heap.IsList q ws.toArray)(hz:us.length+ws.length<=sizeLine)
  (h:Q (.ref s.heap.objs.size) {s with heap:=s.heap.push {cls:=.type "list", data:=.seq (us++ws).toArray} }):wpAny (model prog w) A (binaryOp .Add (.ref p) (.ref q)) Q E s:=by
 obtain⟨⟨c1,k1,x1,y1⟩,g1,g2,n1,g3⟩:=id hp;obtain⟨⟨c2,k2,x2,y2⟩,f1,f2,n2,f3⟩:=id hq;simp only at g2 g3 f2 f3;subst g2 g3 f2 f3;refine concat_meets ⟨_,g1,rfl⟩ ⟨_,f1,rfl⟩ noFill_list_add seq_list_add PySem.F.slot_list_add PySem.F.entry_list_add (PySem.F.args_list_add_2 _ _) (list_addW p q us.toArray ws.toArray n1 n2 k1 k2 y1 y2 (by simpa using hz)) ⟨g1,f1,?_⟩;rw[show us.toArray++ws.toArray=(us++ws).toArray by simp];exact h
def K1(hp:IsTup s.heap p us.toArray)(hq:IsTup s.heap q ws.toArray)(hz:us.length+ws.length<=sizeLine)(h0:us=[]->Q (.ref q) s)(h1:ws=[]->Q (.ref p) s)
  (h:Q (.ref s.heap.objs.size) {s with heap:=s.heap.push {cls:=.type "tuple", data:=.seq (us++ws).toArray} }):wpAny (model prog w) A (binaryOp .Add (.ref p) (.ref q)) Q E s:=by
 obtain⟨⟨c1,k1,x1,y1⟩,g1,g2,n1,g3⟩:=id hp;obtain⟨⟨c2,k2,x2,y2⟩,f1,f2,n2,f3⟩:=id hq;simp only at g2 g3 f2 f3;subst g2 g3 f2 f3;by_cases hv:us=[]
 ·exact concat_meets ⟨_,g1,rfl⟩ ⟨_,f1,rfl⟩ noFill_tuple_add seq_tuple_add PySem.F.slot_tuple_add PySem.F.entry_tuple_add (PySem.F.args_tuple_add_2 _ _) (tuple_addW0 p q us.toArray ws.toArray n1 n2 k1 k2 y1 y2 (by simp[hv])) ⟨g1,f1,h0 hv⟩
 ·by_cases hw:ws=[]
  ·exact concat_meets ⟨_,g1,rfl⟩ ⟨_,f1,rfl⟩ noFill_tuple_add seq_tuple_add PySem.F.slot_tuple_add PySem.F.entry_tuple_add (PySem.F.args_tuple_add_2 _ _) (tuple_addW1 p q us.toArray ws.toArray n1 n2 k1 k2 y1 y2 (by simpa using hv) (by simp[hw])) ⟨g1,f1,h1 hw⟩
  ·refine concat_meets ⟨_,g1,rfl⟩ ⟨_,f1,rfl⟩ noFill_tuple_add seq_tuple_add PySem.F.slot_tuple_add PySem.F.entry_tuple_add (PySem.F.args_tuple_add_2 _ _) (tuple_addW2 p q us.toArray ws.toArray n1 n2 k1 k2 y1 y2 (by simpa using hv) (by simpa using hw) (by simpa using hz)) ⟨g1,f1,?_⟩;rw[show us.toArray++ws.toArray=(us++ws).toArray by simp];exact h
end
section
variable{X:Cx}{pos:Pos}
def vt:RD2:=λx y Q=>match x,y with
 |.int i,.int j=>Q (.int (i+j))
 |.tup xs,.tup ys=>xs.length+ys.length<=sizeLine/\Q (.tup (xs++ys))
 |.lst _ xs,.lst _ ys=>xs.length+ys.length<=sizeLine/\Q (.lst true (xs++ys))
 |_,_=>False
theorem Bp(i j:Int)(Q:D->Prop):vt (.int i) (.int j) Q=Q (.int (i+j)):=rfl
theorem Bq(t u:Bool)(xs ys:yas)(Q:D->Prop):vt (.lst t xs) (.lst u ys) Q=(xs.length+ys.length<=sizeLine/\Q (.lst true (xs++ys))):=rfl
def GR{W:Own}{H:Hp}{t:Bool}(tr:∀t a,W.bad t a->∃o,H a=some o)(h:H a=none):¬W.bad t a:=λz=>by obtain⟨o,q⟩:=tr _ _ z;rw[h]at q;cases q
set_option tactic.hygienic true in
def aG:Nq X (binaryOp .Add) vt:=by
 intro pins s σ H W x y v u vv uu Q I tr rv ru hx hy q;cases x<;>cases y<;>first|exact q.elim|skip
 ·exact Jw pins s σ H W _ _ v u vv uu Q I tr rv ru hx hy q
 ·rename_i xs ys;obtain⟨p,vs,e1,hq1,Uv⟩:=hx.Qc;obtain⟨p',vs',e2,hq2,hd2⟩:=hy.Qc;subst e1 e2;cases rv;cases ru;obtain⟨LC,r1,t1,_⟩:=I.tuple hq1.w;obtain⟨its',r2,t2,_⟩:=I.tuple hq2.w;obtain⟨hz,q⟩:=q;have l1:=Uv.len;have l2:=hd2.len;have m1:=r1.length;have m2:=r2.length;have Qp:LC.length+its'.length<=sizeLine:=by omega
  have hf:H s.heap.objs.size=none:=I.Mh.fresh (Mw _);refine K1 t1 t2 Qp (λe=>?_) (λe=>?_) ?_
  ·subst e;have:vs=[]:=UQ (by simpa using m1);subst this;have:xs=[]:=UQ (by simpa using l1.symm);subst this;exact⟨.ref p',H,_,I,rfl,au.refl H,hy,q⟩
  ·subst e;have:vs'=[]:=UQ (by simpa using m2);subst this;have:ys=[]:=UQ (by simpa using l2.symm);subst this;rw[QM]at q;exact⟨.ref p,H,_,I,rfl,au.refl H,hx,q⟩
  ·exact⟨.ref s.heap.objs.size,L2.upd H s.heap.objs.size (.tup (vs++vs')),_,I.laid (t':=s.toks) (λb u e=>Oi _ e) (Mw _) ⟨by rw[Nz];omega,LC++its',r1.append r2,⟨_,Qu _ rfl,rfl,_,rfl⟩⟩,rfl,au.upd hf,Den.tup (M6.of aV) ((Uv.append hd2).same (au.upd hf)),q⟩
 ·obtain⟨p,vs,e1,_,hq1,Uv⟩:=hx.OJ;obtain⟨p',vs',e2,_,hq2,hd2⟩:=hy.OJ;subst e1 e2;cases rv;cases ru;obtain⟨LC,r1,t1,_⟩:=I.list hq1;obtain⟨its',r2,t2,_⟩:=I.list hq2;obtain⟨hz,q⟩:=q;have l1:=Uv.len;have l2:=hd2.len;have m1:=r1.length;have m2:=r2.length;have hf:H s.heap.objs.size=none:=I.Mh.fresh (Mw _);refine K0 t1.isList t2.isList (by omega) ?_;exact⟨.ref s.heap.objs.size,L2.upd H s.heap.objs.size (.lst (vs++vs')),_,I.laid (t':=s.toks) (λb u e=>Oi _ e) (Mw _) ⟨by rw[Nz];omega,LC++its',0,r1.append r2,Qu _ rfl⟩,rfl,au.upd hf,Den.lst (GR tr hf) (.new aV (Inv.N9 I)) ((Uv.append hd2).same (au.upd hf)),q⟩
def okI(x:D):Prop:=okD x/\(Nv x).depth<64
def Hl:RD2:=λx y Q=>okI x/\okD y/\∃ys,(y=.tup ys∨∃ t,y=.lst t ys)/\Q (.bl (!ys.any λz=>eqD z x))
theorem vQ(x:D):∀ys:yas,(b7 ys).any (λy=>PyData.eqv y (Nv x))=ys.any λz=>eqD z x
 |[]=>by rw[b7];rfl
 |y::r=>by rw[b7,List.any_cons,List.any_cons,vQ x r];rfl
def zj{A:Around}{d:PyData}(hd:d.depth<64)(hu:A.units+64<cLine):A.units+1+min (PyData.depthAll xs) d.depth<cLine:=by
 have:min (PyData.depthAll xs) d.depth<=d.depth:=Nat.min_le_right _ _
 lia
def Ew(hu:X.A.units+64<cLine):Nq X (compareOp .NotIn) Hl:=by
 intro pins s σ H W x y v u vv uu Q I _ rv ru hx hy q;obtain⟨h1,h2,ys,e,q⟩:=q;obtain⟨as,ra⟩:=d9 I x v vv hx rv h1.1.1;obtain⟨bs,rb⟩:=d9 I y u uu hy ru h2.1;have fin:DP X pins σ W H Q (.bool (!(b7 ys).any λy=>PyData.eqv y (Nv x))) s:=by rw[vQ];exact⟨.bl _,H,_,I,rfl,au.refl H,Den.bl _,q⟩
 rcases e with e|⟨t,e⟩
 ·subst e;have sh:=h2.2;rw[Nv]at rb sh;exact SeqAt.notIn_tuple_reads rb ra (SeqAt.canLay_of_shaped sh) (SeqAt.canLay_of_shaped h1.1.2) (zj h1.2 hu) fin
 ·subst e;have sh:=h2.2;rw[Nv]at rb sh;exact SeqAt.notIn_list_reads rb ra (SeqAt.canLay_of_shaped sh) (SeqAt.canLay_of_shaped h1.1.2) (zj h1.2 hu) fin
end
def kwG{α:Type}(us ws:List α):List α:=match ws with
 |[w]=>us++[w]
 |_=>[]
def GJ(r:Vals vs us)(rz:Vals zs ws):Vals (kwG vs zs) (kwG us ws):=by
 cases rz with
 |nil=>exact .nil
 |cons a b =>
  cases b with
  |nil=>exact r.append (.cons a .nil)
  |cons c d=>exact .nil
def sv(P:Program)(w:World)(K:yac)(mg:yam)(base:Heap)(x:Str)(k:Nat)(ps:yah)(kn:Str)(sp:DSp):Prop :=
 ∃ f fd,aJ P w K mg base (CX1 P w) k f fd ps (aM K sp)/\mg x=some (.ref f)/\PySem.W.keepIn K (.ref f)=true/\Binds K fd ps []/\Binds K fd ps [.none]/\Bo K fd ps [kn] kwG kwG
def PKD(X:Cx)(Mx:List Keyword)(t:DA):Prop :=
 ∀ (pos:Pos) (pins:yab) (s:Shared) (σ:St) (H:Hp) (W:Own) (ρ:Ro) (Q:yas->Prop),Inv X pins σ H s->Rel X W H σ ρ->t ρ Q →
  wpAny (model X.prog X.w) X.A (evalAll ((backToKw pos (keywordEach Mx X.env)).map (·.2))) (DAP X pins σ W H Q) X.xe s
section
variable{X:Cx}{k:Nat}{ps:yah}{kn:Str}{sp:DSp}{x:Str}{p pos kpos:Pos}{e:Expr}{es:yai}{t tk:DA}{te:DE}{nm:Option Str}{Mx:List Keyword}
def nc (h:sv X.prog X.w X.K X.mg X.base x k ps kn sp) (hr:bN k X.A) (ha:Qn X (e::es) t) (hg:Gl X x:=by rfl) (Px:(x==("__debug__" : Str))=false:=by decide)
  (he:starEach (e::es) X.env=(false,eval e X.env)::starEach es X.env:=by rfl) (M9:(backTo pos (starEach es X.env)).any (·.1)=false:=by rfl):Mf X (.Call (.Name x p) (e::es) [] pos) (qK sp [.Mj] t):=by
 obtain⟨f,fd,F,hm,hk,_,hb,_⟩:=h;exact wD (dds:=[.Mj]) (dsv:=[.none]) F hr hg hm hk hb (.cons rfl .nil) (by intro d hd;simp at hd;subst hd;exact True.intro) AM ha Px he M9
def BK(sp:DSp)(t:DA):DA:=λρ Q=>t ρ λds=>sp (bq ds) (λd=>∃ys,d=.lst true ys/\fF ys=true/\Q ys) λ_=>False
def F7 (h:MU X.prog X.w X.K X.mg X.base x k ps sp) (hr:bN k X.A) (ha:Qn X (e::es) t) (hg:Gl X x:=by rfl) (Px:(x==("__debug__" : Str))=false:=by decide)
  (he:starEach (e::es) X.env=(false,eval e X.env)::starEach es X.env:=by rfl) (M9:(backTo pos (starEach es X.env)).any (·.1)=false:=by rfl):Qo X (.Call (.Name x p) (e::es) [] pos) (BK sp t):=by
 obtain⟨f,fd,F,hm,hk,hb⟩:=h;intro pins s σ H W ρ Q I rr h;refine TP (jw I hg hm ?_ Px);refine PySem.W.callWith_K (h₀:=X.base) I.ok.mod.O9 hk (LK (ha pos pins s σ H W ρ _ I rr h) λus s1 ⟨vs,H1,ds,I1,r,e1,Ni,q⟩=>⟨I1.Qa,?_⟩) he M9;have Xj:=rr.same e1;refine LK (C3 (us:=us) (ds:=[]) (dvs:=[]) (Q:=λv H'=>au H1 H'/\∃ys,Den X.K (λt a=>W.bad false a∨(t=true/\∃o,H1 a=some o)) H' (.lst true ys) v/\fF ys=true/\Q ys) F hr hb .nil AM I1 r
  ⟨W.bad false,bq ds,_,λ_=>False,Xj.tab,Xj.tracked false,by rw[QM];exact ag.aX (λ_ _=>Own.QB) ds vs Ni,q,λd v H' e h1 h2=>?_,λ_ _ _ _ z=>z.elim⟩) λu s2 ⟨v,H2,I2,r2,e2,ys,hd,nl,qy⟩=>?_
 ·obtain⟨ys,rfl,nl,qy⟩:=h2;exact⟨e,ys,h1,nl,qy⟩
 ·obtain⟨a,ws,ev,np,sq,hw⟩:=hd.Td;subst ev;cases r2;have hn:H1 a=none:=by
   cases z:H1 a with
   |none=>rfl
   |some o=>exact absurd (.inr ⟨rfl,o,z⟩) np
  exact⟨a,ws,H2,ys,rfl,I2,e1.trans e2,e1.free hn,(sq.2 rfl).2,(sq.2 rfl).1,ag.Wn ys ws nl hw,qy⟩
end
def nu:Key->D
 |.inl i=>.int i
 |.inr x=>.str x
section
variable{κ:Type} [DecidableEq κ] {K:yac}{P:yak}{H:Hp}
noncomputable def fE(kvs:List (κ×D))(k:κ):Option D:=(kvs.find? λkv=>decide (kv.1=k)).map (·.2)
def putD(kvs:List (κ×D))(k:κ)(d:D):List (κ×D):=if(fE kvs k).isSome=true then kvs.map (λkv=>if kv.1=k then(kv.1,d)else kv)else kvs++[(k,d)]
def Ay(p:κ×D)(r:List (κ×D))(k:κ):fE (p::r) k=if p.1=k then some p.2 else fE r k:=by
 unfold fE;rw[U1];by_cases e:p.1=k
 ·rw[Lx e,NL e];rfl
 ·rw[Lw e,R5 e]
theorem pU:∀{kvs:List (κ×D)} {Mx:List (κ×V)} {k:κ},Mx.map (·.1)=kvs.map (·.1)->ag K P H (kvs.map (·.2)) (Mx.map (·.2))->match fE kvs k with|some d=>∃v,dq Mx k=some v/\Den K P H d v|none=>dq Mx k=none
 |[],Mx,k,e,_=>by
  have:Mx=[]:=by simpa using e
  subst this;exact E8
 |p::r,[],k,e,_=>by simp at e
 |p::r,q::s,k,e,h=>by
  simp only[MR,PQ]at e;simp only[MR,ag]at h;obtain⟨v,u,e1,h1,h2⟩:=h;simp only[PQ]at e1;obtain⟨e1,e2⟩:=e1;subst e2;rw[Ay];by_cases z:p.1=k
  ·rw[Lx z,mH (e.1.trans z)];exact⟨v,by rw[e1],h1⟩
  ·rw[Lw z,mG (λy=>z (e.1.symm.trans y))];exact pU e.2 h2
def sP{kvs:List (κ×D)}{Mx:List (κ×V)}{d:D}(e:Mx.map (·.1)=kvs.map (·.1))(h:ag K P H (kvs.map (·.2)) (Mx.map (·.2)))(l:fE kvs k=some d):∃v,dq Mx k=some v/\Den K P H d v:=by have:=pU (k:=k) e h;rw[l]at this;exact this
def Er{kvs:List (κ×D)}{Mx:List (κ×V)}(e:Mx.map (·.1)=kvs.map (·.1))(h:ag K P H (kvs.map (·.2)) (Mx.map (·.2)))(l:fE kvs k=none):dq Mx k=none:=by have:=pU (k:=k) e h;rw[l]at this;exact this
def E2{kvs:List (κ×D)}{Mx:List (κ×V)}(e:Mx.map (·.1)=kvs.map (·.1))(h:ag K P H (kvs.map (·.2)) (Mx.map (·.2))):(dq Mx k).isSome=(fE kvs k).isSome:=by
 cases l:fE kvs k with
 |none=>rw[Er e h l];rfl
 |some d =>
  obtain⟨v,q,_⟩:=sP e h l;rw[q];rfl
theorem xA:∀{kvs:List (κ×D)} {Mx:List (κ×V)} {k:κ} {d:D} {v:V},Mx.map (·.1)=kvs.map (·.1)->ag K P H (kvs.map (·.2)) (Mx.map (·.2))->Den K P H d v →
  (Mx.map λkv=>if kv.1=k then(kv.1,v)else kv).map (·.1)=(kvs.map λkv=>if kv.1=k then(kv.1,d)else kv).map (·.1)/\ag K P H ((kvs.map λkv=>if kv.1=k then(kv.1,d)else kv).map (·.2)) ((Mx.map λkv=>if kv.1=k then(kv.1,v)else kv).map (·.2))
 |[],Mx,k,d,v,e,_,_=>by
  have:Mx=[]:=by simpa using e
  subst this;exact⟨rfl,ag.nil⟩
 |p::r,[],k,d,v,e,_,_=>by simp at e
 |p::r,q::s,k,d,v,e,h,hd=>by
  simp only[MR,PQ]at e;simp only[MR,ag]at h;obtain⟨v',u,e1,h1,h2⟩:=h;simp only[PQ]at e1;obtain⟨e1,e2⟩:=e1;subst e2;obtain⟨i1,i2⟩:=xA (k:=k) e.2 h2 hd;rw[MR,MR,MR,MR,MR,MR];by_cases z:p.1=k
  ·rw[Lx z,Lx (e.1.trans z)];exact⟨by rw[i1,e.1],ag.cons hd i2⟩
  ·rw[Lw z,Lw (λy=>z (e.1.symm.trans y))];exact⟨by rw[i1,e.1],ag.cons (by rw[e1];exact h1) i2⟩
def Hh{kvs:List (κ×D)}{Mx:List (κ×V)}(e:Mx.map (·.1)=kvs.map (·.1))(h:ag K P H (kvs.map (·.2)) (Mx.map (·.2)))(hd:Den K P H d v) :
  (putK Mx k v).map (·.1)=(putD kvs k d).map (·.1)/\ag K P H ((putD kvs k d).map (·.2)) ((putK Mx k v).map (·.2)):=by
 unfold putK putD;rw[jZ,E2 e h];by_cases z:(fE kvs k).isSome=true
 ·rw[Lx z,Lx z];exact xA e h hd
 ·rw[Lw z,Lw z,OQ,OQ,OQ,OQ,e];exact⟨rfl,h.append (ag.one hd)⟩
end
def sH{K:yac}{P:yak}{H:Hp}{k:Key}{v:V}(h:Den K P H (nu k) v):v=kV k:=by
 cases k with
 |inl i=>exact h.MN
 |inr x=>exact h.Ur
theorem ue{K:yac}{P:yak}{H:Hp}:∀{ks:List Key} {vs:yar},ag K P H (ks.map nu) vs->vs=ks.map kV
 |[],_,h=>by simpa only[R7,ag]using h
 |k::r,_,h=>by simp only[MR,ag]at h;obtain⟨v,u,e,h1,h2⟩:=h;rw[e,sH h1,ue h2];rfl
theorem xj:∀(ks:List Key) (ps:List (V×V)),ps.map (·.1)=ks.map kV->ps=(ks.zip (ps.map (·.2))).map λkv=>(kV kv.1,kv.2)
 |[],ps,e=>by
  have:ps=[]:=by simpa using e
  subst this;rfl
 |k::r,[],e=>by simp at e
 |k::r,p::q,e=>by simp only[MR,PQ]at e;rw[MR,List.zip_cons_cons,MR,<- xj r q e.2,<- e.1]
def Cz{more:List (Key×V)}:∀{kvs:List (Key×V)},(kvs.map (·.1)++more.map (·.1)).Nodup->rj kvs more=kvs++more:=by
 induction more with
 |nil=>intro kvs _;show kvs=kvs++[];rw[QM]
 |cons p r ih =>
  intro kvs h;show rj (putK kvs p.1 p.2) r=_;have hn:dq kvs p.1=none:=by
   cases q:dq kvs p.1 with
   |none=>rfl
   |some x =>
    have ha:(kvs.any λkv=>decide (kv.1=p.1))=true:=by rw[jZ,q];rfl
    obtain⟨kv,hm,he⟩:=List.any_eq_true.mp ha;have:=(List.nodup_append.mp h).2.2 kv.1 (List.mem_map_of_mem hm) p.1 (by simp);exact absurd (OP he) this
  rw[EK p.2 hn,ih (by rw[OQ];simpa using h)];simp
def Y2(X:Cx)(pos:Pos)(keys:List (Option Expr))(values:yai)(t:Ro->(List (D×D)->Prop)->Prop):Prop :=
 ∀ (pins:yab) (s:Shared) (σ:St) (H:Hp) (W:Own) (ρ:Ro) (Q:List (D×D)->Prop),Inv X pins σ H s->Rel X W H σ ρ->t ρ Q →
  wpAny (model X.prog X.w) X.A (evalPairs (pairTrees keys values X.env pos)) (λvs s'=>∃ps H' ds,Inv X pins σ H' s'/\VV ps vs/\au H H'/\ag X.K W.bad H' (ds.map (·.1)) (ps.map (·.1))/\ag X.K W.bad H' (ds.map (·.2)) (ps.map (·.2))/\Q ds) X.xe s
section
variable{X:Cx}{pos:Pos}
def Fv:Ro->(List (D×D)->Prop)->Prop:=λ_ Q=>Q []
def BV(tk tv:DE)(t:Ro->(List (D×D)->Prop)->Prop):Ro->(List (D×D)->Prop)->Prop:=λρ Q=>tk ρ λk=>tv ρ λv=>t ρ λr=>Q ((k,v)::r)
def IH:Y2 X pos [] [] Fv:=λpins s σ H W ρ Q I r h=>pairTrees_nil_walk ⟨[],H,[],I,.nil,au.refl H,ag.nil,ag.nil,h⟩
def sJ(hk:Mf X k tk)(hv:Mf X v tv)(hr:Y2 X pos ks vs t):Y2 X pos (some k::ks) (v::vs) (BV tk tv t):=by
 intro pins s σ H W ρ Q I r h;refine pairTrees_cons_walk (LK (hk pins s σ H W ρ _ I r h) λu s1 ⟨x,H1,dx,I1,rx,e1,hx,q1⟩=>LK (hv pins s1 σ H1 W ρ _ I1 (r.same e1) q1) λw2 s2 ⟨y,H2,dy,I2,ry,e2,hy,q2⟩=>
  LK (hr pins s2 σ H2 W ρ _ I2 ((r.same e1).same e2) q2) λws s3 ⟨ps,H3,ds,I3,rel,e3,h1,h2,q3⟩=>?_)
 exact⟨(x,y)::ps,H3,(dx,dy)::ds,I3,.cons ⟨rx,ry⟩ rel,e1.trans (e2.trans e3),ag.cons (hx.same (e2.trans e3)) h1,ag.cons (hy.same e3) h2,q3⟩
def ag.Wo{K:yac}{H:Hp}{o:HO}(n:H a=some o)(m:(∀xs,o ≠ .lst xs)/\(∀xs,o ≠ .tup xs)/\(∀b u,o ≠ .frz b u)/\¬TX o)(k:K.lookup a=none)(h:ag K P H ds us):ag K (λt b=>P t b∨b=a) (L2.upd H a o') ds us:=by
 have hT:∀b ws,M6 K H b ws->M6 K (L2.upd H a o') b ws:=λb ws q=>by show L2.upd _ _ _ _=_;rw[aD (lW q n λz=>m.2.1 _ z.symm)];exact q
 refine ag.map hT (λt b ws p q=>?_) (λb u v q=>by rw[aD (lW q n λz=>m.2.2.2 (z ▸ v))];exact q) ds us h;have NK:b≠a:=λz=>by
  subst z;rcases q.1 with(q|⟨u,q⟩)|⟨u,LC,j,q,_⟩
  ·rw[n]at q;exact m.1 _ (ON q)
  ·rw[n]at q;exact m.2.2.1 _ _ (ON q)
  ·rw[k]at q;cases q
 refine⟨λz=>z.elim p NK,?_,λz=>⟨by rw[aD NK];exact(q.2 z).1,(q.2 z).2⟩⟩;rcases q.1 with(q|⟨u,q⟩)|q
 ·exact .inl (.inl (by rw[aD NK];exact q))
 ·exact .inl (.inr ⟨u,by rw[aD NK];exact q⟩)
 ·exact .inr q
def BM(i:Nat)(t:Ro->(List (D×D)->Prop)->Prop):DS:=λE ρ=>t ρ λps=>∃kvs:List (Key×D),ps=kvs.map (λkv=>(nu kv.1,kv.2))/\kvs.length<=15/\(kvs.map (·.1)).Nodup/\E.nx (ρ.set i (some (.ob (.dk kvs))))
def D1{x:Str}{pos' Wq:Pos}{keys:List (Option Expr)}{values:yai}{t:Ro->(List (D×D)->Prop)->Prop}(i:Nat)(hN:X.N.Nodup)(h:Y2 X Wq keys values t)(hi:X.N[i]?=some x:=by rfl)(NA:keys.all (·.isSome)=true:=by rfl)(hl:keys.length=values.length:=by rfl)(h0:keys ≠ []:=by simp)
  (h15:keys.length<=15:=by decide) (hx:Loc X.env.scope x:=by first|exact Or.inl rfl|exact Or.inr rfl) (hs:swapsWith (.Dict keys values Wq) (some (.Name x pos')) pos.line X.env=pure false:=by rfl)
  (hf:X.fn x=true∨X.env.scope.names.lookup x=some .local:=by first|exact .inl rfl|exact .inr rfl|assumption):OF X (.Assign [.Name x pos'] (.Dict keys values Wq) pos) (BM i t):=by
 intro pins s σ H W ρ E I r hq;have hn:=I.Mh.fresh (Mw s.heap.objs.size);have Uw:=Inv.N9 I;have I1:=I.laid (a:=s.heap.objs.size) (o:=.dK []) (h':=s.heap.push {cls:=.type "dict", data:=.dict #[]}) (t':=s.toks) (λ_ _ q=>Oi _ q) (Mw _) (D0 s.heap I.big);refine wpAny_Assign_Name (wpAny_Dict_walk (knd:=bV X.prog X.w) NA hl h0 h15 (LK (h pins _ σ _ W ρ _ I1 (r.same (au.upd hn)) hq) λws s2 LO=>?_)) hs;obtain⟨ps,H2,ds,I2,rel,sm,d1,d2,kvs,ek,lk,nd,q⟩:=LO;subst ek;have e:=sm _ _ (aV (H:=H) (a:=s.heap.objs.size) (o:=.dK []));have Xo:ps.map (·.1)=(kvs.map (·.1)).map kV:=ue (by
  have:(kvs.map λkv=>(nu kv.1,kv.2)).map (·.1)=(kvs.map (·.1)).map nu:=by simp[OH,Function.comp_def]
  rw[this]at d1;exact d1)
 have d2':ag X.K W.bad H2 (kvs.map (·.2)) (ps.map (·.2)):=by
  have:(kvs.map λkv=>(nu kv.1,kv.2)).map (·.2)=kvs.map (·.2):=by simp[OH,Function.comp_def]
  rw[this]at d2;exact d2
 have hlen:(kvs.map (·.1)).length=(ps.map (·.2)).length:=by have:=d2'.len;simp at this;simp[this]
 have ep:=xj _ ps Xo;generalize hkw:(kvs.map (·.1)).zip (ps.map (·.2))=Mx at ep;have f1:Mx.map (·.1)=kvs.map (·.1):=by rw[<- hkw,List.map_fst_zip (Uj hlen)]
 have f2:Mx.map (·.2)=ps.map (·.2):=by rw[<- hkw,List.map_snd_zip (Uj hlen.symm)]
 rw[ep]at rel;obtain⟨rs,c,rk⟩:=qH (P:=X.prog) (w:=X.w) rel;obtain⟨z,hd,vs0,r0,dd⟩:=Fu I2.Mh e;cases r0;refine⟨rs,c,dd,λh' V4 Wm=>?_⟩;have lkw:Mx.length=kvs.length:=by have:=congrArg List.length f1;simpa using this
 have hm:rj [] Mx=Mx:=by rw[Cz (by rw[f1];simpa using nd)];rfl
 have hz:Mx.length<=sizeLine:=by rw[lkw,sizeLine_eq];lia
 have he:∃q,h'.get? s.heap.objs.size=some q:=let ⟨q,_,_,hq,_⟩:=V4;⟨q,hq⟩;have I3:=sF (t':=s2.toks+ws.length) I2 (by rw[e];exact True.intro) Wm he (BU (kvs:=Mx) hz hd (by rw[<- hm];exact rk.merge .nil) V4);have rp:=r.YK (x:=.dk kvs) (Inv.Sy I2 hi) (H':=L2.upd H2 s.heap.objs.size (.dK Mx)) (((au.upd hn).trans sm).ins hn e True.intro True.intro) hn Uw aV
  (.dk f1 (by rw[f2];exact ag.Wo e ⟨(λ_ z=>by cases z),(λ_ z=>by cases z),(λ_ _ z=>by cases z),λz=>z⟩ Uw d2'))
 exact eO (v:=.ref s.heap.objs.size) I3 hN hi hx rfl (λs3 I4=>⟨_,_,_,I4,rp.2,_,rp.1,q⟩) hf
def Rel.Y3(r:Rel X W H σ ρ){i:Nat}(h:ρ[i]?=some (some (.ob (.dk kvs)))):∃a Mx,W.O i=some a/\σ[i]?=some (some (.ref a))/\H a=some (.dK Mx)/\Mx.map (·.1)=kvs.map (·.1)/\ag X.K W.bad H (kvs.map (·.2)) (Mx.map (·.2)):=by
 obtain⟨a,o,h1,h2,h3,h4⟩:=r.own i _ h;cases h4 with
 |dk e h5=>exact⟨a,_,h1,h2,h3,e,h5⟩
def Im(i:Nat)(tb:DE):DE:=λρ Q=>∃kvs,ρ[i]?=some (some (.ob (.dk kvs)))/\tb ρ λk=>∃key d,k=nu key/\fE kvs key=some d/\Q d
def wF {x:Str} (i:Nat) (hu:X.A.units+1<cLine) (hb:Mf X b tb) (hN:X.N[i]?=some x:=by rfl) (hv:S6 X.env.scope x:=by first|exact Or.inl rfl|exact Or.inr (Or.inl rfl)|exact Or.inr (Or.inr rfl)) (hd:(x==("__debug__" : Str))=false:=by decide)
  (O4:(x==("__classdict__" : Str))=false:=by decide) (hs:Dx b:=by intro _ _;rfl):Mf X (.Subscript (.Name x px) b pos) (Im i tb):=by
 refine Mf.of (Hb hu (iJ hN hv hd O4) hb.pe hs) λσ H W ρ Q r h=>?_
 obtain⟨kvs,eo,h⟩:=h;obtain⟨a,Mx,oa,sa,ha,e,Pc⟩:=r.Y3 eo;refine⟨.ref a,sa,W,ρ,_,r,h,λv H1 d e1 hd q=>?_⟩;obtain⟨key,d',rfl,l,q⟩:=q;obtain⟨v',l',hv'⟩:=sP e Pc l;have:=sH hd;subst this;refine⟨a,v',rfl,?_,e1,d',hv'.same e1,q⟩;rw[<- l'];exact mZ.k (e1 _ _ ha)
def Fj(i:Nat)(tk te:DE):DS:=λE ρ=>∃kvs,ρ[i]?=some (some (.ob (.dk kvs)))/\tk ρ λk=>∃key n,k=nu key/\fE kvs key=some (.int n)/\te ρ λd=>∃m,d=.int m/\kvs.length<sizeLine/\E.nx (ρ.set i (some (.ob (.dk (putD kvs key (.int (n+m)))))))
def F8 {x:Str} (i:Nat) (hu:X.A.units+1<cLine) (hb:Mf X b tb) (he:Mf X e te) (hN:X.N[i]?=some x:=by rfl) (hv:S6 X.env.scope x:=by first|exact Or.inl rfl|exact Or.inr (Or.inl rfl)|exact Or.inr (Or.inr rfl)) (hd:(x==("__debug__" : Str))=false:=by decide)
  (O4:(x==("__classdict__" : Str))=false:=by decide) (ha:∀ov iv new,augStore b ov iv new=(do holding [new,ov,iv] (setItem ov iv new);release [new,ov,iv] [];pure .next):=by intros;rfl):OF X (.AugAssign (.Subscript (.Name x px) b tpos) .Add e pos) (Fj i tb te):=by
 refine OF.of (Hg hu (iJ hN hv hd O4) hb.pe he.pe Jf ha) λσ H W ρ E r hl h=>?_
 obtain⟨kvs,eo,h⟩:=h;obtain⟨a,Mx,oa,sa,ha,ek,Pc⟩:=r.Y3 eo;refine⟨.ref a,sa,W,ρ,_,r,h,λv H1 d e1 hd q=>?_⟩;obtain⟨key,n,rfl,l,q⟩:=q;obtain⟨v',l',hv'⟩:=sP ek Pc l;have z1:=sH hd;have z2:=hv'.MN;subst z1 z2;refine⟨a,_,rfl,by rw[<- l'];exact mZ.k (e1 _ _ ha),W,ρ,_,r.same e1,q,λv2 H2 d2 e2 hd2 q2=>?_⟩;obtain⟨m,rfl,hz,q2⟩:=q2;have z3:=hd2.MN;subst z3;have lz:Mx.length<sizeLine:=by have:=congrArg List.length ek;simp at this;lia
 have ha2:=e2 _ _ (e1 _ _ ha);obtain⟨p1,p2⟩:=Hh (k:=key) ek (Pc.same (e1.trans e2)) (Den.int (n+m));obtain⟨r2,f2⟩:=((r.same e1).same e2).YL eo oa sa ha2 True.intro (.dk p1 p2);exact⟨n,m,rfl,rfl,_,vE.k ha2 lz,W,_,(Mt.same (e1.trans e2)).trans f2,r2,q2⟩
end
def IU(kvs:List (Key×D))(r:Ro)(R:List (Key×D)->Prop):(∃ys,(some (Sl.ob (.dk kvs))::r)[0]?=some (some (Sl.ob (.dk ys)))/\R ys)=R kvs:=by
 apply propext;constructor
 ·rintro⟨_,e,q⟩;have e':some (some (Sl.ob (.dk kvs)))=some (some (Sl.ob (.dk _))):=e;cases e';exact q
 ·intro q;exact⟨kvs,rfl,q⟩
theorem IV(n:Nat)(x:Option Sl)(r:Ro)(R:List (Key×D)->Prop):(∃ys,(x::r)[n+1]?=some (some (Sl.ob (.dk ys)))/\R ys)=(∃ys,r[n]?=some (some (Sl.ob (.dk ys)))/\R ys):=rfl
def Hu(t:Bool)(xs:yas)(R:yas->Prop):(∃k ds,E1 (.lst t xs)=some (k,ds)/\R ds)=R xs:=by
 apply propext;constructor
 ·rintro⟨_,_,e,q⟩;cases e;exact q
 ·intro q;exact⟨_,_,rfl,q⟩
def lL(b:Int):fP (.int b)=true:=by rw[fP]<;>(intros;contradiction)
def Bs{ds:yas}{k:Int}{Q:D->Prop}(h0:0<=k)(h1:k<ds.length)(h:∀d∈ds,Q d):∃d,NY ds k=some d/\Q d:=by
 have e:k=((k.toNat:Nat):Int):=by lia
 have hl:k.toNat<ds.length:=by lia
 refine⟨ds[k.toNat],?_,h _ (Qw hl)⟩;have q:NY ds ((k.toNat:Nat):Int)=some ds[k.toNat]:=dU (by simp);rw[<- e]at q;exact q
def comp_map{α:Type}{wi:DA}{js:yag}{tc:DT}{te:DE}{Q:D->Prop}(xs:List α)(f:α->D)(c:α->Bool)(g:α->D)(hw:∀R:yas->Prop,R (xs.map f)->wi ρ R)(hz:xs.length<=sizeLine)
  (hc:∀x∈xs,∀K:Bool->Prop,K (c x)->tc (some (.val (f x))::js.map (b5 ρ)) K) (he:∀x∈xs,c x=true->∀K:D->Prop,K (g x)->te (some (.val (f x))::js.map (b5 ρ)) K) (q:Q (.lst true ((xs.filter c).map g))):n5 wi js tc te ρ Q:=by
 refine hw _ ⟨by rw[LJ];exact hz,λj out=>out=((xs.take j).filter c).map g,by simp,λj d out hd ho=>?_,λout ho=>?_⟩
 ·rw[OD]at hd;cases ex:xs[j]? with
  |none=>rw[ex]at hd;cases hd
  |some x =>
   rw[ex]at hd;cases hd;have hm:x∈xs:=OL ex;have ht:xs.take (j+1)=xs.take j++[x]:=by rw[List.take_succ,ex];rfl
   refine hc x hm _ ?_;by_cases z:c x=true
   ·rw[Lx z];refine he x hm z _ ?_;show _=List.map g (List.filter c (List.take (j+1) xs));rw[ht,ho,ZZ,OQ];simp[z]
   ·rw[Lw z];show _=List.map g (List.filter c (List.take (j+1) xs));rw[ht,ho,ZZ];simp[z]
 ·rw[LJ,Rk (Mw _)]at ho;rw[ho];exact q
def oq{α:Type}{wi:DA}{g:DG}{tb:DS}{E:j3}(xs:List α)(f:α->D)(Pv:List α->Ro->Prop)(hw:∀R:yas->Prop,R (xs.map f)->wi ρ R)(p0:Pv [] ρ)
  (turn:∀(done:List α) (x:α) (Ly:Ro),x∈xs->done.length<xs.length->Pv done Ly->g (f x) Ly λNP=>tb {E with nx:=Pv (done++[x]),ct:=Pv (done++[x]),bk:=E.nx} NP) (fin:∀Ly,Pv xs Ly->E.nx Ly):pM wi g tb E ρ:=by
 refine hw _ ⟨λj=>Pv (xs.take j),by simpa using p0,λj d Ly hd hp=>?_,λLy hp=>fin Ly (by rw[LJ,Rk (Mw _)]at hp;exact hp)⟩;rw[OD]at hd;cases ex:xs[j]? with
 |none=>rw[ex]at hd;cases hd
 |some x =>
  rw[ex]at hd;cases hd;have hj:=(OC.mp ex).1;have ht:xs.take (j+1)=xs.take j++[x]:=by rw[List.take_succ,ex];rfl
  show g (f x) Ly λNP=>tb {E with nx:=Pv (xs.take (j+1)),ct:=Pv (xs.take (j+1)),bk:=E.nx} NP
  rw[ht];exact turn (xs.take j) x Ly (OL ex) (by rw[P8];lia) hp
structure Pj(n:Nat)(d:D):Prop where
 pl:Q5 d=true
 lay:(Nv d).canLay0=true
 dp:(Nv d).depth<=n
structure iO(n:Nat)(ds:yas):Prop where
 pl:l4 ds=true
 lay:PyData.canLayAll0 (b7 ds)=true
 dp:PyData.depthAll (b7 ds)<=n
def Pj.ok(h:Pj n d)(hn:n<=64:=by decide):okD d:=⟨h.pl,by unfold SeqAt.shaped;rw[h.lay,NL (NM h.dp hn)];rfl⟩
theorem Pj.okI(h:Pj n d)(hn:n<64:=by decide):okI d:=⟨h.ok (S4 hn),VH h.dp hn⟩
theorem Pj.int(n:Nat)(i:Int):Pj n (.int i):=⟨by rw[Q5]<;>(intros;contradiction),by rw[Nv,PyData.canLay0],by rw[Nv,PyData.depth];exact OE _⟩
def iO.nil(n:Nat):iO n []:=⟨by rw[l4],by rw[b7,PyData.canLayAll0],by rw[b7,PyData.depthAll];exact OE _⟩
def iO.cons(h:Pj n d)(h':iO n ds):iO n (d::ds):=⟨by rw[l4,h.pl,h'.pl];rfl,by rw[b7,PyData.canLayAll0,h.lay,h'.lay];rfl,by rw[b7,PyData.depthAll];exact Nat.max_le.mpr ⟨h.dp,h'.dp⟩⟩
theorem iO.of:∀{ds:yas},(∀d∈ds,Pj n d)->iO n ds
 |[],_=>.nil n
 |d::r,h=>.cons (h d O0) (iO.of λx hx=>h x (MO _ hx))
theorem Pj.tup(h:iO n ds):Pj (n+1) (.tup ds):=⟨by rw[Q5];exact h.pl,by rw[Nv,PyData.canLay0];exact h.lay,by rw[Nv,PyData.depth];exact Nat.succ_le_succ h.dp⟩
theorem Pj.lst(h:iO n ds):Pj (n+1) (.lst t ds):=⟨by rw[Q5];exact h.pl,by rw[Nv,PyData.canLay0];exact h.lay,by rw[Nv,PyData.depth];exact Nat.succ_le_succ h.dp⟩
theorem Pj.map{α:Type}{f:α->D}{xs:List α}(h:∀x,Pj n (f x)):Pj (n+1) (.lst t (xs.map f)):=Pj.lst (iO.of λd hd=>by obtain⟨x,_,rfl⟩:=Ms.mp hd;exact h x)
def iR(xs ys:yas):Bool:=PyData.eqvAll (b7 xs) (b7 ys)
def ze(t u:Bool)(xs ys:yas):eqD (.lst t xs) (.lst u ys)=iR xs ys:=by unfold eqD iR;rw[Nv,Nv,PyData.eqv]
def zf(xs ys:yas):eqD (.tup xs) (.tup ys)=iR xs ys:=by unfold eqD iR;rw[Nv,Nv,PyData.eqv]
def wM:iR [] []=true:=by unfold iR;rw[b7,PyData.eqvAll]
def nj(x y:D)(xs ys:yas):iR (x::xs) (y::ys)=(eqD x y && iR xs ys):=by unfold iR eqD;rw[b7,b7,PyData.eqvAll]
def Gg(y:D)(ys:yas):iR (y::ys) []=false:=by unfold iR;rw[b7,b7,PyData.eqvAll]
def Gf(x y:Str):eqD (.str x) (.str y)=(x==y):=by unfold eqD;rw[Nv,Nv,PyData.eqv]
def Ge:eqD .Mj .Mj=true:=by unfold eqD;rw[Nv,PyData.eqv]
mutual
theorem wL:∀d:D,eqD d d=true
 |.Mj=>Ge
 |.bl b=>by rw[B3];simp
 |.int i=>by rw[oh];simp
 |.str x=>by rw[Gf];simp
 |.exc _=>by unfold eqD;rw[Nv,PyData.eqv]
 |.obj _ _ _=>by unfold eqD;rw[Nv,PyData.eqv]
 |.Qm=>by unfold eqD;rw[Nv,PyData.eqv]
 |.PW _ _=>by unfold eqD;rw[Nv,PyData.eqv]
 |.tup ds=>by rw[zf];exact nk ds
 |.lst t ds=>by rw[ze];exact nk ds
theorem nk:∀ds:yas,iR ds ds=true
 |[]=>wM
 |d::r=>by rw[nj,wL d,nk r];rfl
end
section
variable{X:Cx}{a b c:Expr}{ta tb tc:DE}{pos:Pos}
def BL(r r':RD2)(ta tb tc:DE):DE:=λρ Q=>ta ρ λx=>tb ρ λy=>r x y λz=>∃k,z=.bl k/\if k=true then tc ρ λu=>r' y u Q else Q (.bl false)
variable{e:Expr}{te:DE}{lo hi:Option Expr}{tl th:DO}{p2:Pos}
def qG{K:yac}{ps:yah}(h:∀(s:Shared) (us:yad),K.In s.heap->us.length=ps.length->BindsTo s fd ⟨us,[]⟩ (ps.zip us)):Binds K fd ps []:=λs us O9 hl=>by rw[QM]at hl ⊢;exact h s us O9 hl
def qF{K:yac}{ps:yah}(n:Nat)(hp:ps.length=n+1)(h:∀(s:Shared) (us:yad),K.In s.heap->us.length=n->BindsTo s fd ⟨us,[]⟩ (ps.zip (us++[.none]))):Binds K fd ps [.none]:=λs us O9 hl=>h s us O9 (by rw[Nz,hp]at hl;simpa using hl)
def q9{K:yac}{ps:yah}{kn:Str}(n:Nat)(hp:ps.length=n+1)(h:∀(s:Shared) (us:yad) (w:Value),K.In s.heap->us.length=n->BindsTo s fd ⟨us,[(kn,w)]⟩ (ps.zip (us++[w]))):Bo K fd ps [kn] kwG kwG:=⟨λs us ws O9 hl=>by
 cases ws with
 |nil =>
  have QD:0=ps.length:=hl
  lia
 |cons w r =>
  cases r with
  |nil =>
   have QD:(us++[w]).length=ps.length:=hl;rw[Nz,hp]at QD;exact h s us w O9 (by simpa using QD)
  |cons _ _ =>
   have QD:0=ps.length:=hl
   lia,GJ⟩
end
section
variable{X:Cx}{pos:Pos}
def PFL(X:Cx)(i:Nat)(es:yai)(t:Ro->(List (yas)->Prop)->Prop):Prop :=
 ∀ (pos:Pos) (pins:yab) (s:Shared) (σ:St) (H:Hp) (W:Own) (ρ:Ro) (k:Nat) (Q:List (yas)->Prop),Inv X pins σ H s->Rel X W H σ ρ->i<σ.length->ρ[i]?=some none->t ρ Q →
  wpAny (model X.prog X.w) X.A (spliced (backTo pos (starEach es X.env))) (λus s'=>∃vs H' W' xss,Inv X pins σ H' s'/\Vals vs us/\au H H'/\Rel X W' H' σ ρ/\Mt W H W' H'/\aN X.K W'.bad H' (W'.sub σ.length i) k (xss.map LI.own) vs/\(∀l,l<k->W'.sub σ.length i l=W.sub σ.length i l)/\Q xss) X.xe s
variable{e:Expr}{te:DE}{tt:DT}{ta:DA}
end
section
variable{X:Cx}{pins:yab}{σ:St}{H:Hp}
structure Lq(X:Cx)(pins:yab)(H:Hp)(s:Shared)(l f S I:Addr)(fo:Obj)(j:Nat)(vb:Value)(k:Int):Prop where
 fo:s.heap.get? f=some fo
 ff:fO X pins H f
 so:∃tb n,s.heap.get? S=some (seqObj "list" #[vb,.int k tb] n)
 sf:fO X pins H S
 io:s.heap.IsListIter I l j
 jf:fO X pins H I
 fS:f≠S
 fI:f≠I
 SI:S≠I
 lI:l≠I
end
section
variable{X:Cx}{pos:Pos}
def yZ(i:Nat)(te:DE):DS:=λE ρ=>∃ds,ρ[i]?=some (some (.own ds))/\te ρ λd=>∃xs,d=.lst true xs/\ds.length+xs.length<=sizeLine/\E.nx (ρ.set i (some (.own (ds++xs))))
def BW{x:Str}{apos:Pos}(i:Nat)(he:Mf X e te)(hi:X.N[i]?=some x:=by rfl)(hv:S6 X.env.scope x:=by first|exact Or.inl rfl|exact Or.inr (Or.inl rfl)|exact Or.inr (Or.inr rfl))
  (hd:(x==("__debug__" : Str))=false:=by decide) (O4:(x==("__classdict__" : Str))=false:=by decide)
  (N7:attributeBase (.Name x px) "extend" X.env (eval (.Name x px) X.env)=eval (.Name x px) X.env:=by rfl)
  (Tb:((backTo Me (starEach [e] X.env)).all (λx=>!x.1) && (backToKw Me (keywordEach [] X.env)).all (λx=>x.1.isSome) && decide ([e].length+([]:List Keyword).length+(if([]:List Keyword).isEmpty then 0 else 1)<30))=true:=by rfl)
  (N8:(apos.endLine==Me.line)=true:=by rfl) (OK:starEach [e] X.env=(false,eval e X.env)::starEach [] X.env:=by rfl) (Py:(backTo Me (starEach [] X.env)).any (·.1)=false:=by rfl)
  (hs:swapsWith (.Call (.Attribute (.Name x px) "extend" apos) [e] [] Me) none pos.line X.env=pure false:=by rfl) :
  OF X (.Expr (.Call (.Attribute (.Name x px) "extend" apos) [e] [] Me) pos) (yZ i te):=by
 have P0:=tE (pos:=pos) (FC PySem.F.plainAttrs_list PySem.F.slot_list_extend PySem.F.type_list_extend CA (iJ hi hv hd O4) (gT he.pe nG OK) N7 Tb N8 OK Py) hs;refine OF.of P0 λσ H W ρ E r hl h=>?_
 obtain⟨ds,eo,h⟩:=h;obtain⟨a,vs,oa,sa,ha,Ni⟩:=r.Rp i ds eo;refine⟨.ref a,sa,.inl ⟨rfl,_,SqL.of ha⟩,W,ρ,_,r,h,λv H' d e1 Rf q=>?_⟩;obtain⟨xs,rfl,z,q⟩:=q;obtain⟨b,us,rfl,_,hb,Z7⟩:∃b us,v=.ref b/\¬W.bad true b/\OI X.K H' true b us/\ag X.K W.bad H' xs us:=by simpa only[Den]using Rf
 have SA:=e1 _ _ ha;have r':=r.same e1;have Rt:=Ni.same e1;refine⟨a,b,vs,us,rfl,rfl,SA,(hb.2 rfl).1,by rw[Rt.len,Z7.len];exact z,?_⟩;obtain⟨r2,f2⟩:=r'.Sd (vs':=vs++us) eo oa sa SA (Rt.append Z7);exact⟨W,_,(Mt.same e1).trans f2,r2,q⟩
def PEK(X:Cx)(e:Expr)(t:DE):Prop :=
 ∀ (pins:yab) (s:Shared) (σ:St) (H:Hp) (W:Own) (ρ:Ro) (Q:D->Prop),Inv X pins σ H s->Rel X W H σ ρ->t ρ Q →
  wpAny (model X.prog X.w) X.A (eval e X.env) (λu s'=>∃b vs H' ds,u=.ref b/\Inv X pins σ H' s'/\au H H'/\H' b=some (.tup vs)/\ag X.K W.bad H' ds vs/\Q (.tup ds)) X.xe s
end
def Kf(ys:yas)(R:yas->Prop):(∃xs,D.lst true ys=.lst true xs/\R xs)=R ys:=by
 apply propext;constructor
 ·rintro⟨xs,e,q⟩;cases e;exact q
 ·intro q;exact⟨ys,rfl,q⟩
def jG{α:Type}{wi:DA}{g:DG}{tb:DS}{E:j3}(xs:List α)(f:α->D)(Pv:Nat->Ro->Prop)(hw:∀R:yas->Prop,R (xs.map f)->wi ρ R)(p0:Pv 0 ρ)
  (turn:∀(j:Nat) (x:α) (Ly:Ro),xs[j]?=some x->Pv j Ly->g (f x) Ly λNP=>tb {E with nx:=Pv (j+1),ct:=Pv (j+1),bk:=E.nx} NP) (fin:∀Ly,Pv xs.length Ly->E.nx Ly):pM wi g tb E ρ:=by
 refine hw _ ⟨Pv,p0,λj d Ly hd hp=>?_,λLy hp=>fin Ly (by rw[LJ]at hp;exact hp)⟩;rw[OD]at hd;cases ex:xs[j]? with
 |none=>rw[ex]at hd;cases hd
 |some x =>
  rw[ex]at hd;cases hd;exact turn j x Ly ex hp
inductive KPs (K:yac) (P:yak) (H:Hp):List (yas×D)->List (Value×Value)->Prop
 |nil:KPs K P H [] []
 |cons {b:Addr} {vs:yar} {ks:yas} {d:D} {x:V} {u:Value} {ds:List (yas×D)} {ws:List (Value×Value)} (hb:H b=some (.tup vs)) (hk:ag K P H ks vs) (hd:Den K P H d x) (r:RelV x u) (t:KPs K P H ds ws):KPs K P H ((ks,d)::ds) ((.ref b,u)::ws)
def PPK(X:Cx)(pos:Pos)(keys:List (Option Expr))(values:yai)(t:Ro->(List (yas×D)->Prop)->Prop):Prop :=
 ∀ (pins:yab) (s:Shared) (σ:St) (H:Hp) (W:Own) (ρ:Ro) (Q:List (yas×D)->Prop),Inv X pins σ H s->Rel X W H σ ρ->t ρ Q →
  wpAny (model X.prog X.w) X.A (evalPairs (pairTrees keys values X.env pos)) (λws s'=>∃H' ds,Inv X pins σ H' s'/\au H H'/\KPs X.K W.bad H' ds ws/\Q ds) X.xe s
section
variable{X:Cx}{pos:Pos}
inductive KPi (H:Hp):List (List Key×Int)->List (Value×Value)->Prop
 |nil:KPi H [] []
 |cons {b:Addr} {k:List Key} {n:Int} {u:Value} {ds:List (List Key×Int)} {ws:List (Value×Value)} (hb:H b=some (.tup (k.map kV))) (r:RelV (.int n) u) (t:KPi H ds ws):KPi H ((k,n)::ds) ((.ref b,u)::ws)
end
end PD
namespace PZ
open PySem PySem.Spec PyProof.Rows
abbrev Fd (h:Heap) (T:Addr) (a b c:Value):Prop:=h.get? T=some {cls:=.type "tuple", data:=.seq #[a,b,c]}
structure Ap3(z TI TO i1 i2 i3:Addr):Prop where
 a1:TI≠z
 a2:TO≠z
 a3:i1≠z
 a4:i2≠z
 a5:i3≠z
 b1:TI≠TO
 b2:TI≠i1
 b3:TI≠i2
 b4:TI≠i3
 c1:TO≠i1
 c2:TO≠i2
 c3:TO≠i3
 d1:i1≠i2
 d2:i1≠i3
 d3:i2≠i3
structure Lr(z TO i1 i2 i3 l:Addr):Prop where
 c1:l≠z
 c2:l≠TO
 c3:l≠i1
 c4:l≠i2
 c5:l≠i3
structure Lu(z TI TO i1 i2 i3 l1 l2 l3:Addr)(i:Nat)(h:Heap):Prop where
 z:IsZip h z TI TO .none
 ti:Fd h TI (.ref i1) (.ref i2) (.ref i3)
 to:∃a b c,Fd h TO a b c
 s1:Y0 true h i1 l1 i
 s2:Y0 true h i2 l2 i
 s3:Y0 true h i3 l3 i
end PZ
namespace PD
open PySem PySem.Spec PyProof.Rows L2 PZ
section
variable{X:Cx}
noncomputable def Ol(xs ys zs:yas):yas:=List.zipWith (λf z=>f z) (List.zipWith (λx y z=>D.tup [x,y,z]) xs ys) zs
end
end PD
namespace ST
open PySem PySem.SetTable
def S:Nat->Nat
 |0=>0
 |n+1=>5*S n+1
theorem qD:∀n,5 ^ n=4*S n+1
 |0=>rfl
 |n+1=>by rw[Rm,qD n];show _=4*(5*S n+1)+1;lia
theorem Ab(m:Nat):∀n,S (n+m)=5 ^ m*S n+S m
 |0=>by simp[S]
 |n+1=>by rw[show n+1+m=(n+m)+1 by lia];show 5*S (n+m)+1=5 ^ m*(5*S n+1)+S m;rw[Ab m n,qD m];grind
theorem Fe:∀k,∃o,S (2 ^ k)=2 ^ k*(2*o+1)
 |0=>⟨0,rfl⟩
 |k+1=>by obtain⟨o,e⟩:=Fe k;refine⟨o+(2*o+1)*(2 ^ k*(2*o+1)),?_⟩;rw[show 2 ^ (k+1)=2 ^ k+2 ^ k by rw[Rm];lia,Ab,qD,e];grind
theorem round:∀(k x e:Nat),e<2 ^ k->∃n,n<2 ^ k/\(5 ^ n*x+S n) % 2 ^ k=e
 |0,x,e,h=>⟨0,by decide,by lia⟩
 |k+1,x,e,h=>by
  obtain⟨n,hn,q⟩:=round k x (e % 2 ^ k) (P9 _ (Nat.two_pow_pos k));obtain⟨o,eo⟩:=Fe k;have hp:=Nat.two_pow_pos k;have h2:2 ^ (k+1)=2*2 ^ k:=by rw[Rm];lia
  generalize hv:5 ^ n*x+S n=v at q;have PY:5 ^ (n+2 ^ k)*x+S (n+2 ^ k)=v+2 ^ k+2 ^ (k+1)*(o+2*(2*o+1)*v):=by rw[Ab,Nat.pow_add,qD (2 ^ k),eo,h2,<- hv];grind
  generalize 2 ^ k=p at *;rw[h2]at h ⊢;by_cases z:v % (2*p)=e
  ·exact⟨n,by lia,by rw[hv];exact z⟩
  ·refine⟨n+p,by lia,?_⟩;rw[PY,h2,Nat.add_mul_mod_self_left];have a1:v % (2*p) % p=v % p:=Nat.mod_mul_left_mod v 2 p;have l1:v % (2*p)<2*p:=P9 _ (by lia);rw[Nat.add_mod,Pf (show p<2*p by lia)];generalize v % (2*p)=u at *;have eu:u=u % p∨u=u % p+p:=by
    by_cases c:u<p
    ·left;rw[Pf c]
    ·right
     have:u % p=u - p:=by rw[Nat.mod_eq_sub_mod (by lia),Pf (by lia)]
     lia
   have ee:e=e % p∨e=e % p+p:=by
    by_cases c:e<p
    ·left;rw[Pf c]
    ·right
     have:e % p=e - p:=by rw[Nat.mod_eq_sub_mod (by lia),Pf (by lia)]
     lia
   have lt:e % p<p:=P9 _ hp;rcases eu with eu|eu<;>rcases ee with ee|ee
   ·lia
   ·rw[Pf (by lia)];lia
   ·rw[Nat.mod_eq_sub_mod (by lia),Pf (by lia)];lia
   ·lia
noncomputable def runs(mask:Nat):Nat->Nat->Nat->yag
 |0,_,_=>[]
 |c+1,i,pt=>List.range' i (runEnd mask i+1 - i)++runs mask c (leap mask i pt).1 (leap mask i pt).2
theorem nK(mask c i pt:Nat):runs mask (c+1) i pt=List.range' i (runEnd mask i+1 - i)++runs mask c (leap mask i pt).1 (leap mask i pt).2:=rfl
def b9(mask:Nat)(h:Int):yag:=runs mask (turns mask) (bits h % (mask+1)) (bits h)
def iK{mask i:Nat}(h:i<=mask):i<=runEnd mask i/\runEnd mask i<=mask/\runEnd mask i<=i+9:=by unfold runEnd;split<;>lia
def oC(mask i pt:Nat):(leap mask i pt).1<=mask:=by
 have:(leap mask i pt).1<mask+1:=P9 _ (QO _)
 lia
theorem zJ{mask:Nat}:∀{c i pt:Nat},i<=mask->∀x∈runs mask c i pt,x<=mask
 |0,_,_,_,x,h=>by cases h
 |c+1,i,pt,hi,x,h=>by
  rcases MC.mp h with z|z
  ·rw[UZ]at z;have:=iK hi;omega
  ·exact zJ (oC _ _ _) x z
theorem xC{mask:Nat}:∀{c i pt:Nat},i<=mask->(runs mask c i pt).length<=10*c
 |0,_,_,_=>Mw _
 |c+1,i,pt,hi=>by have ih:=xC (c:=c) (pt:=(leap mask i pt).2) (oC mask i pt);have:=iK hi;unfold runs;rw[Nz,QU];omega
def cJ(mask:Nat):Nat->Nat×Nat->Nat×Nat
 |0,p=>p
 |n+1,p=>cJ mask n (leap mask p.1 p.2)
theorem rJ{mask:Nat}:∀{n c i pt:Nat},∀x∈runs mask c (cJ mask n (i,pt)).1 (cJ mask n (i,pt)).2,x∈runs mask (n+c) i pt
 |0,c,i,pt,x,h=>by rw[QX];exact h
 |n+1,c,i,pt,x,h=>by have:=rJ (n:=n) (c:=c) (i:=(leap mask i pt).1) (pt:=(leap mask i pt).2) x h;rw[show n+1+c=(n+c)+1 by lia];exact Oq _ this
def C4{mask c i:Nat}(h:i<=mask):i∈runs mask (c+1) i pt:=by
 refine Qj _ ?_;rw[UZ];have:=iK h
 lia
theorem w4(mask:Nat):∀(n:Nat) (p:Nat×Nat),(cJ mask n p).2=p.2 / 32 ^ n
 |0,p=>by simp[cJ]
 |n+1,p=>by show(cJ mask n (leap mask p.1 p.2)).2=_;rw[w4 mask n];show p.2 / 32 / 32 ^ n=_;rw[Nat.div_div_eq_div_mul,Rm,Nat.mul_comm]
theorem rf{mask k:Nat}(hk:mask+1=2 ^ k):∀(n i:Nat),i<=mask->(cJ mask n (i,0)).1=(5 ^ n*i+S n) % 2 ^ k
 |0,i,h=>by show i=_;rw[Nat.pow_zero,Nat.one_mul];show i=(i+0) % 2 ^ k;rw[Nat.add_zero,Pf (by lia)]
 |n+1,i,h=>by
  have e:leap mask i 0=((i*5+1) % (mask+1),0):=by unfold leap;simp
  show(cJ mask n (leap mask i 0)).1=_;rw[e,rf hk n _ (by have:=P9 (i*5+1) (show 0<mask+1 by lia);lia),hk];have a:(5 ^ n*((i*5+1) % 2 ^ k)+S n) % 2 ^ k=(5 ^ n*(i*5+1)+S n) % 2 ^ k:=by rw[Nat.add_mod,Nat.mul_mod,Nat.mod_mod,<- Nat.mul_mod,<- Nat.add_mod]
  rw[a,Rm];congr 1;show _=5 ^ n*5*i+(5*S n+1);have:=qD n;rw[this];grind
theorem ur(mask:Nat):∀(m n:Nat) (p:Nat×Nat),cJ mask (m+n) p=cJ mask n (cJ mask m p)
 |0,n,p=>by rw[QX];rfl
 |m+1,n,p=>by rw[show m+1+n=(m+n)+1 by lia];exact ur mask m n _
theorem wZ(mask:Nat):∀(n:Nat) (p:Nat×Nat),p.1<=mask->(cJ mask n p).1<=mask
 |0,_,h=>h
 |n+1,p,_=>wZ mask n _ (oC _ _ _)
def cover{mask k:Nat}(hk:mask+1=2 ^ k)(h:Int){e:Nat}(he:e<=mask):e∈b9 mask h:=by
 have hb:bits h<2 ^ 64:=by
  unfold bits;have:=Int.emod_lt_of_pos h (show(0:Int)<2 ^ 64 by decide);have:=Int.emod_nonneg h (show(2 ^ 64:Int)≠0 by decide)
  lia
 have hi:bits h % (mask+1)<=mask:=by have:=P9 (bits h) (show 0<mask+1 by lia);lia
 generalize hp:(bits h % (mask+1),bits h)=p;have p1:p.1<=mask:=by rw[<- hp];exact hi
 have z:(cJ mask 13 p).2=0:=by rw[w4,<- hp];exact Nat.div_eq_of_lt (OM hb (by decide))
 have q1:=wZ mask 13 p p1;obtain⟨n,hn,en⟩:=round k (cJ mask 13 p).1 e (by lia);have ee:(cJ mask (13+n) p).1=e:=by rw[ur];have:cJ mask 13 p=((cJ mask 13 p).1,0):=N2 rfl z;rw[this,rf hk n _ q1];exact en
 have:=rJ (mask:=mask) (n:=13+n) (c:=(mask - n)+2) (i:=bits h % (mask+1)) (pt:=bits h) e (by have Vm:(bits h % (mask+1),bits h)=p:=hp;rw[Vm,ee];exact C4 he)
 unfold b9 turns;rw[show mask+15=13+n+(mask - n+2)by lia];exact this
def iP(xs:yap):Prop:=∀a b:Nat,a<b->b<xs.size->xs.getD a 0<xs.getD b 0
theorem pJ{j:Nat}(hr:iP xs):∀(fuel lo hi:Nat),lo<=hi->hi<=xs.size->hi - lo<=fuel->(∀a,a<lo->xs.getD a 0<j)->(∀a,hi<=a->a<xs.size->j<=xs.getD a 0) →
  (below.go xs j fuel lo hi<=xs.size)/\(∀a,a<below.go xs j fuel lo hi->xs.getD a 0<j)/\∀a,below.go xs j fuel lo hi<=a->a<xs.size->j<=xs.getD a 0
 |0,lo,hi,h1,h2,h3,h4,h5=>by
  have:lo=hi:=by omega
  subst this;exact⟨h2,h4,h5⟩
 |fuel+1,lo,hi,h1,h2,h3,h4,h5=>by
  unfold below.go;by_cases NZ:lo<hi
  ·rw[Lx NZ];have hm:(lo+hi) / 2<hi/\lo<=(lo+hi) / 2:=by omega
   have hg:xs.getD ((lo+hi) / 2) j=xs.getD ((lo+hi) / 2) 0:=by
    have:(lo+hi) / 2<xs.size:=by omega
    simp[Array.getD,this]
   simp only[hg];split
   ·rename_i z;refine pJ hr fuel _ hi (by omega) h2 (by omega) (λa ha=>?_) h5;by_cases e:a=(lo+hi) / 2
    ·rw[e];exact z
    ·exact Nat.lt_trans (hr a ((lo+hi) / 2) (by omega) (by omega)) z
   ·rename_i z;refine pJ hr fuel lo _ (by omega) (by omega) (by omega) h4 λa ha hs=>?_
    by_cases e:a=(lo+hi) / 2
    ·rw[e];omega
    ·have:=hr ((lo+hi) / 2) a (by omega) hs;omega
  ·rw[Lw NZ];have:lo=hi:=by omega
   subst this;exact⟨h2,h4,h5⟩
def jc(hr:iP xs)(j:Nat):below xs j<=xs.size/\(∀a,a<below xs j->xs.getD a 0<j)/\∀a,below xs j<=a->a<xs.size->j<=xs.getD a 0 :=
 pJ hr xs.size 0 xs.size (OE _) (Mw _) (by lia) (λa h=>absurd h (Nat.not_lt_zero _)) λa h h'=>by lia
def dX{xs:yap}{a x:Nat}(h:xs[a]?=some x):xs.getD a 0=x/\a<xs.size:=by obtain⟨l,e⟩:=UR.mp h;exact⟨by simp[Array.getD,l,e],l⟩
def qV{xs:yap}{a:Nat}(h:a<xs.size):xs[a]?=some (xs.getD a 0):=by simp[Array.getD,h]
def below_at(hr:iP xs){a j:Nat}(h:xs[a]?=some j):below xs j=a:=by
 obtain⟨e,l⟩:=dX h;obtain⟨b1,b2,b3⟩:=jc hr j;have h1:¬a<below xs j:=λz=>by have:=b2 a z;omega
 have h2:¬below xs j<a:=λz=>by have:=b3 (below xs j) (Mw _) (by omega);have:=hr _ a z l;omega
 omega
def uA{t:SetTable}(hr:iP t.place){a j:Nat}(h:t.place[a]?=some j):t.slot j=.live a:=by unfold SetTable.slot;rw[below_at hr h];simp[h]
def AZ{t:SetTable}(hr:iP t.place)(hd:t.dummies=#[]){j:Nat}(h:j∉t.place.toList):t.slot j=.empty:=by
 have n:¬((t.place[below t.place j]?==some j)=true):=λz=>by
  have e:t.place[below t.place j]?=some j:=by simpa using z
  exact h (by obtain⟨l,q⟩:=UR.mp e;rw[<- q];exact Array.getElem_mem_toList l)
 unfold SetTable.slot;simp only[n,hd];have:has #[] j=false:=by unfold has;simp
 simp[this]
def ahead(mask:Nat)(c:Nat)(p:Probe):yag:=List.range' p.j (p.more+1)++runs mask c (leap mask p.i p.perturb).1 (leap mask p.i p.perturb).2
def xY(t:SetTable)(h:Int):∃c,b9 t.mask h=ahead t.mask c (t.probeStart h):=by
 refine⟨t.mask+14,?_⟩;unfold b9 ahead turns probeStart;show runs t.mask ((t.mask+14)+1) _ _=_;rw[nK];have hi:bits h % (t.mask+1)<=t.mask:=by have:=P9 (bits h) (show 0<t.mask+1 by lia);lia
 have:=iK hi;simp only;rw[show runEnd t.mask (bits h % (t.mask+1))+1 - bits h % (t.mask+1)=runEnd t.mask (bits h % (t.mask+1)) - bits h % (t.mask+1)+1 by lia]
def Ac(t:SetTable){x:Nat}{r:yag}(e:ahead t.mask c p=x::r):p.j=x/\(r=[]∨∃ c',r=ahead t.mask c' (t.advance p)):=by
 unfold ahead at e;rw[List.range'_succ,O5]at e;obtain⟨e1,e2⟩:=List.cons.inj e;refine⟨e1,?_⟩;unfold SetTable.advance;by_cases hm:p.more > 0
 ·right
  refine⟨c,?_⟩;rw[Lx hm,<- e2];unfold ahead;simp only;rw[show p.more - 1+1=p.more by lia]
 ·have m0:p.more=0:=by lia
  rw[m0]at e2;simp only[List.range'_zero,PR]at e2;cases c with
  |zero=>left;rw[<- e2];rfl
  |succ c =>
   right
   refine⟨c,?_⟩;rw[Lw hm,<- e2];have hl:=oC t.mask p.i p.perturb;have:=iK hl;unfold ahead;rw[nK];simp only;rw[show runEnd t.mask (leap t.mask p.i p.perturb).1+1 - (leap t.mask p.i p.perturb).1=runEnd t.mask (leap t.mask p.i p.perturb).1 - (leap t.mask p.i p.perturb).1+1 by lia]
theorem xt{t:SetTable}(hr:iP t.place)(hd:t.dummies=#[])(hashAt:Nat->Int)(h:Int):∀(l:yag) (fuel c:Nat) (p:Probe),ahead t.mask c p=l->l.length<=fuel->(∃x∈l,x∉t.place.toList)->p.dummy=none →
  (∃pre j post,l=pre++j::post/\(∀x∈pre,∃a,t.place[a]?=some x/\hashAt a≠h)/\j∉t.place.toList/\probe.go t hashAt h fuel p=some (.empty j none)) ∨
  ∃ pre j post a q c',l=pre++j::post/\(∀x∈pre,∃a,t.place[a]?=some x/\hashAt a≠h)/\t.place[a]?=some j/\hashAt a=h/\post=ahead t.mask c' q/\q.dummy=none/\probe.go t hashAt h fuel p=some (.candidate j a q)
 |[],_,_,_,_,_,hx,_=>by obtain⟨x,hx,_⟩:=hx;cases hx
 |x::r,0,_,_,_,hl,_,_=>by simp at hl
 |x::r,fuel+1,c,p,e,hl,hx,hdm=>by
  obtain⟨ej,er⟩:=Ac t e;subst ej;unfold probe.go;by_cases UA:p.j∈t.place.toList
  ·obtain⟨a,hla,ea⟩:=RL UA;have ha:t.place[a]?=some p.j:=by
    rw[<- NH,MZ hla,ea]
   rw[uA hr ha];have Qb:∃x∈r,x∉t.place.toList:=by
    obtain⟨y,hy,ny⟩:=hx;rcases L9.mp hy with z|z
    ·subst z;exact absurd UA ny
    ·exact⟨y,z,ny⟩
   have er':∃c',r=ahead t.mask c' (t.advance p):=by
    rcases er with z|z
    ·obtain⟨y,hy,_⟩:=Qb;rw[z]at hy;cases hy
    ·exact z
   have hda:(t.advance p).dummy=none:=by unfold SetTable.advance;split<;>exact hdm
   obtain⟨c',ec⟩:=er';simp only;by_cases hh:hashAt a=h
   ·right
    rw[Lx (by simpa using hh)];exact⟨[],p.j,r,a,t.advance p,c',rfl,by simp,ha,hh,ec,hda,rfl⟩
   ·rw[Lw (by simpa using hh)];have good:∃a,t.place[a]?=some p.j/\hashAt a≠h:=⟨a,ha,hh⟩;rcases xt hr hd hashAt h r fuel c' (t.advance p) ec.symm (by simp at hl;omega) Qb hda with⟨pre,j,post,e1,e2,e3,e4⟩| ⟨pre,j,post,b,q,c2,e1,e2,e3,e4,e5,e6,e7⟩
    ·left
     refine⟨p.j::pre,j,post,by rw[e1];rfl,λy hy=>?_,e3,e4⟩;rcases L9.mp hy with z|z
     ·rw[z];exact good
     ·exact e2 y z
    ·right
     refine⟨p.j::pre,j,post,b,q,c2,by rw[e1];rfl,λy hy=>?_,e3,e4,e5,e6,e7⟩;rcases L9.mp hy with z|z
     ·rw[z];exact good
     ·exact e2 y z
  ·left
   rw[AZ hr hd UA];exact⟨[],p.j,r,rfl,by simp,UA,by simp[hdm]⟩
structure Tab(t:SetTable)(hs:yaf):Prop where
 k:∃k,t.mask+1=2 ^ (k+1)
 rise:iP t.place
 le:∀x∈t.place.toList,x<=t.mask
 dum:t.dummies=#[]
 len:t.place.size=hs.length
 room:t.place.size<=t.mask
 reach:∀(a x:Nat) (h:Int),t.place[a]?=some x->hs[a]?=some h->∃pre post,b9 t.mask h=pre++x::post/\∀y∈pre,y∈t.place.toList
theorem Tab.fits(T:Tab t hs):t.fits hs.length=true:=by
 unfold SetTable.fits SetTable.fill;rw[T.dum];simp[T.len];have:=T.len;have:=T.room
 lia
def Tab.stays(T:Tab t hs):t.gaveWay=false:=by
 obtain⟨k,e⟩:=T.k;unfold SetTable.gaveWay;rw[Rm]at e;have:t.mask % 2=1:=by lia
 rw[this];rfl
def ER(hr:iP xs){a b x y:Nat}(ha:xs[a]?=some x)(hb:xs[b]?=some y)(h:x<y):a<b:=by
 obtain⟨e1,l1⟩:=dX ha;obtain⟨e2,l2⟩:=dX hb;rcases XW a b with z|z|z
 ·exact z
 ·subst z;lia
 ·have:=hr b a z l1
  lia
def zw{xs:yap}{x:Nat}(h:x∈xs.toList):∃a:Nat,xs[a]?=some x:=by obtain⟨a,hla,ea⟩:=RL h;exact⟨a,by rw[<- NH,MZ hla,ea]⟩
def get_mem{xs:yap}{a x:Nat}(h:xs[a]?=some x):x∈xs.toList:=by obtain⟨l,q⟩:=UR.mp h;rw[<- q];exact Array.getElem_mem_toList l
def Gr(hr:iP xs){mask:Nat}(hs:xs.size<=mask):∃e,e<=mask/\e∉xs.toList:=by
 refine XC λno=>?_
 have all:∀e,e<=mask->e∈xs.toList:=λe he=>XC λn=>no ⟨e,he,n⟩
 have up:∀j,j<=mask->∃a,xs[a]?=some j/\j<=a:=by
  intro j
  induction j with
  |zero=>intro h;obtain⟨a,ha⟩:=zw (all 0 h);exact⟨a,ha,OE _⟩
  |succ j ih =>
   intro h;obtain⟨a,ha,hja⟩:=ih (by lia);obtain⟨b,hb⟩:=zw (all (j+1) h);have:=ER hr ha hb (by lia);exact⟨b,hb,by lia⟩
 obtain⟨a,ha,hm⟩:=up mask (Mw _);have:=(dX ha).2
 lia
def Tab.empty(T:Tab t hs)(h:Int):∃x∈b9 t.mask h,x∉t.place.toList:=by obtain⟨e,he,ne⟩:=Gr T.rise T.room;obtain⟨k,hk⟩:=T.k;exact⟨e,cover hk h he,ne⟩
def si(mask:Nat)(h:Int):(b9 mask h).length<=10*turns mask:=xC (by have:=P9 (bits h) (show 0<mask+1 by lia);lia)
def nW(mask:Nat)(h:Int):∀x∈b9 mask h,x<=mask:=zJ (by have:=P9 (bits h) (show 0<mask+1 by lia);lia)
def lU{α:Type}(xs:Array α)(p:Nat)(x:α):(insertAt xs p x).toList=xs.toList.take p++x::xs.toList.drop p:=by unfold insertAt;simp;exact Rk (by rw[Qy,P6];exact Mw _)
def get_ins{α:Type}{l:List α}{p:Nat}(hp:p<=l.length)(x:α)(a:Nat):(l.take p++x::l.drop p)[a]?=if a<p then l[a]? else if a=p then some x else l[a - 1]?:=by
 by_cases h:a<p
 ·rw[Lx h,QT (by rw[P8];lia),XO,Lx h]
 ·rw[Lw h,P5 (by rw[P8];lia),P8,R4 hp];by_cases e:a=p
  ·rw[Lx e,e,VT];rfl
  ·rw[Lw e,show a - p=(a - p - 1)+1 by lia,List.getElem?_cons_succ,VG,show p+(a - p - 1)=a - 1 by lia]
theorem Tab.put(T:Tab t hs){j:Nat}{pre post:yag}(hj:j∉t.place.toList)(hv:b9 t.mask h=pre++j::post)(hp:∀y∈pre,y∈t.place.toList)(Y4:t.place.size+1<=t.mask) :
  Tab (t.put j).1 (hs.take (t.put j).2++h::hs.drop (t.put j).2)/\(t.put j).2<=hs.length/\(t.put j).1.mask=t.mask/\(t.put j).1.place.size=t.place.size+1:=by
 have e1:(t.put j).1.place=insertAt t.place (below t.place j) j:=rfl;have e2:(t.put j).2=below t.place j:=rfl;have e3:(t.put j).1.mask=t.mask:=rfl;have e4:(t.put j).1.dummies=#[]:=by
  show(if has t.dummies j then _ else t.dummies)=_;rw[T.dum];have:has #[] j=false:=by unfold has;simp
  rw[this];rfl
 obtain⟨b1,b2,b3⟩:=jc T.rise j;have bp:below t.place j<=t.place.toList.length:=by rw[P6];exact b1
 have bh:below t.place j<=hs.length:=by rw[<- T.len];exact b1
 have gl:∀a,(t.put j).1.place[a]?=if a<below t.place j then t.place[a]? else if a=below t.place j then some j else t.place[a - 1]?:=λa=>by rw[e1,<- NH,lU,get_ins bp,NH,NH]
 have sz:(t.put j).1.place.size=t.place.size+1:=by
  rw[e1,<- P6,lU,Nz,P8,Qx,Qy,P6]
  lia
 have mem:∀x,x∈(t.put j).1.place.toList↔x=j∨x∈t.place.toList:=λx=>by
  rw[e1,lU,MC,L9];constructor
  ·rintro(z|z|z)
   ·exact .inr (UW z)
   ·exact .inl z
   ·exact .inr (UU z)
  ·rintro(z|z)
   ·exact .inr (.inl z)
   ·rw[<- Qh (below t.place j) t.place.toList]at z;rcases MC.mp z with q|q
    ·exact .inl q
    ·exact .inr (.inr q)
 refine⟨⟨T.k,?_,?_,e4,?_,by rw[sz];exact Y4,?_⟩,bh,e3,sz⟩
 ·intro a b Vn hb;rw[sz]at hb;have ga:=qV (xs:=(t.put j).1.place) (a:=a) (by rw[sz];lia);have gb:=qV (xs:=(t.put j).1.place) (a:=b) (by rw[sz];exact hb);rw[gl a]at ga;rw[gl b]at gb;have jn:∀c,c<t.place.size->t.place.getD c 0≠j:=λc hc e=>hj (by rw[<- e];exact get_mem (qV hc))
  by_cases a1:a<below t.place j
  ·rw[Lx a1]at ga;obtain⟨ea,la⟩:=dX ga;have:=b2 a a1;by_cases c1:b<below t.place j
   ·rw[Lx c1]at gb;obtain⟨eb,lb⟩:=dX gb;have:=T.rise a b Vn lb
    lia
   ·rw[Lw c1]at gb;by_cases c2:b=below t.place j
    ·rw[Lx c2]at gb;have:=ON gb
     lia
    ·rw[Lw c2]at gb;obtain⟨eb,lb⟩:=dX gb;have:=T.rise a (b - 1) (by lia) lb
     lia
  ·rw[Lw a1]at ga;have c1:¬b<below t.place j:=by lia
   have c2:¬b=below t.place j:=by lia
   rw[Lw c1,Lw c2]at gb;obtain⟨eb,lb⟩:=dX gb;by_cases a2:a=below t.place j
   ·rw[Lx a2]at ga;have:=ON ga;have:=b3 (b - 1) (by lia) lb;have:=jn (b - 1) lb
    lia
   ·rw[Lw a2]at ga;obtain⟨ea,la⟩:=dX ga;have:=T.rise (a - 1) (b - 1) (by lia) lb
    lia
 ·intro x hx;rcases(mem x).mp hx with z|z
  ·subst z;exact nW t.mask h x (by rw[hv];simp)
  ·exact T.le x z
 ·rw[sz,e2,Nz,P8,Qx,Qy,<- T.len]
  lia
 ·intro a x h' hx hh;rw[gl a]at hx;rw[e2,get_ins bh]at hh;have up:∀{l:yag},(∀y∈l,y∈t.place.toList)->∀y∈l,y∈(t.put j).1.place.toList:=λhl y hy=>(mem y).mpr (.inr (hl y hy))
  by_cases a1:a<below t.place j
  ·rw[Lx a1]at hx hh;obtain⟨p1,p2,q1,q2⟩:=T.reach a x h' hx hh;exact⟨p1,p2,q1,up q2⟩
  ·rw[Lw a1]at hx hh;by_cases a2:a=below t.place j
   ·rw[Lx a2]at hx hh;cases hx;cases hh;exact⟨pre,post,hv,up hp⟩
   ·rw[Lw a2]at hx hh;obtain⟨p1,p2,q1,q2⟩:=T.reach (a - 1) x h' hx hh;exact⟨p1,p2,q1,up q2⟩
theorem uj(mask:Nat)(owner:Array (Option Nat)):∀(fuel i pt:Nat),layClean.free mask owner fuel i pt=(runs mask fuel i pt).find? λy=>(owner.getD y (some 0)).isNone
 |0,_,_=>rfl
 |fuel+1,i,pt=>by
  rw[nK,List.find?_append,List.range'_eq_map_range,List.find?_map];unfold layClean.free;have ih:=uj mask owner fuel (leap mask i pt).1 (leap mask i pt).2;have ef:((λy=>(owner.getD y (some 0)).isNone)∘λx=>i+x)=λk=>(owner.getD (i+k) (some 0)).isNone:=rfl
  rw[ef];cases(List.range (runEnd mask i+1 - i)).find? λk=>(owner.getD (i+k) (some 0)).isNone with
  |some k=>rfl
  |none=>exact ih
structure Ow(mask:Nat)(hs:yaf)(owner:Array (Option Nat)):Prop where
 size:owner.size=mask+1
 cnt:(owner.toList.filter Option.isSome).length=hs.length
 at_:∀(i:Nat) (h:Int),hs[i]?=some h->∃j:Nat,owner[j]?=some (some i)/\∃pre post,b9 mask h=pre++j::post/\∀y∈pre,∃q,owner[y]?=some (some q)
 lt:∀j i:Nat,owner[j]?=some (some i)->i<hs.length
 inj:∀j j' i:Nat,owner[j]?=some (some i)->owner[j']?=some (some i)->j=j'
theorem qT{α:Type}{p:α->Bool}:∀{l:List α} {x:α},l.find? p=some x->∃pre post,l=pre++x::post/\p x=true/\∀y∈pre,p y=false
 |[],_,h=>by cases h
 |a::r,x,h=>by
  rw[U1]at h;cases pa:p a with
  |true=>rw[pa]at h;cases h;exact⟨[],r,rfl,pa,by simp⟩
  |false =>
   rw[pa]at h;obtain⟨pre,post,e,q1,q2⟩:=qT h;refine⟨a::pre,post,by rw[e];rfl,q1,λy hy=>?_⟩;rcases L9.mp hy with z|z
   ·rw[z];exact pa
   ·exact q2 y z
theorem qS{α:Type}{p:α->Bool}:∀{l:List α} {j:Nat} {a b:α},l[j]?=some a->p a=false->p b=true->((l.set j b).filter p).length=(l.filter p).length+1
 |[],_,_,_,h,_,_=>by simp at h
 |x::r,0,a,b,h,ha,hb=>by simp at h;subst h;rw[List.set_cons_zero,XH hb,XG (by simp[ha]),Qx]
 |x::r,j+1,a,b,h,ha,hb=>by
  have ih:=qS (l:=r) (j:=j) (by simpa using h) ha hb;rw[List.set_cons_succ];by_cases c:p x=true
  ·rw[XH c,XH c,Qx,Qx,ih]
  ·rw[XG c,XG c,ih]
def Ow.step{mask k:Nat}(hk:mask+1=2 ^ k){hs:yaf}{owner:Array (Option Nat)}(O:Ow mask hs owner)(hn:hs.length<=mask)(h:Int) :
  ∃ j,layClean.free mask owner (turns mask) (bits h % (mask+1)) (bits h)=some j/\Ow mask (hs++[h]) (owner.setIfInBounds j (some hs.length)):=by
 have ex:∃e:Nat,e<=mask/\owner[e]?=some none:=by
  refine XC λno=>?_
  have all:∀x∈owner.toList,Option.isSome x=true:=λx hx=>by
   obtain⟨e,le,ee⟩:=RL hx;rw[P6,O.size]at le;cases x with
   |some _=>rfl
   |none=>exact absurd ⟨e,by lia,by rw[<- NH,MZ (by rw[P6,O.size];exact le),ee]⟩ no
  have:=O.cnt;rw[RK.mpr all,P6,O.size]at this
  lia
 have emp:∀y,y<=mask->((owner.getD y (some 0)).isNone=true↔owner[y]?=some none):=λy hy=>by
  have l:y<owner.size:=by rw[O.size];lia
  rw[RH l];simp[Array.getD,l]
 obtain⟨e,he,ee⟩:=ex;have fs:((b9 mask h).find? λy=>(owner.getD y (some 0)).isNone).isSome=true:=by rw[List.find?_isSome];exact⟨e,cover hk h he,(emp e he).mpr ee⟩
 obtain⟨j,fj⟩:=Option.isSome_iff_exists.mp fs;obtain⟨pre,post,ev,pj,pp⟩:=qT fj;have jm:j<=mask:=nW mask h j (by rw[ev];simp);have oj:=(emp j jm).mp pj;have jl:j<owner.size:=by rw[O.size];lia
 refine⟨j,by rw[uj];exact fj,?_⟩;have gs:∀y:Nat,(owner.setIfInBounds j (some hs.length))[y]?=if j=y then some (some hs.length)else owner[y]?:=λy=>by
  rw[Array.getElem?_setIfInBounds];by_cases c:j=y
  ·rw[Lx c,Lx c,Lx jl]
  ·rw[Lw c,Lw c]
 have keep:∀(y q:Nat),owner[y]?=some (some q)->(owner.setIfInBounds j (some hs.length))[y]?=some (some q):=λy q hy=>by rw[gs,Lw (λc=>by subst c;rw[oj]at hy;cases hy)];exact hy
 refine⟨by rw[Array.size_setIfInBounds];exact O.size,?_,?_,?_,?_⟩
 ·rw[zDN,qS (a:=none) (by rw[NH];exact oj) rfl rfl,O.cnt,Nz];rfl
 ·intro i h' hi;by_cases c:i<hs.length
  ·rw[QT c]at hi;obtain⟨j',o',p1,p2,q1,q2⟩:=O.at_ i h' hi;exact⟨j',keep _ _ o',p1,p2,q1,λy hy=>let ⟨q,z⟩:=q2 y hy;⟨q,keep _ _ z⟩⟩
  ·rw[P5 (by lia)]at hi;have ei:i=hs.length:=by
    have:=(OC.mp hi).1;simp at this
    lia
   subst ei;simp at hi;subst hi;refine⟨j,by rw[gs,Lx rfl],pre,post,ev,λy hy=>?_⟩;have ym:y<=mask:=nW mask h y (by rw[ev];simp[hy]);have ny:=pp y hy;have yl:y<owner.size:=by rw[O.size];lia
   cases oy:owner[y]with
   |none =>
    have:=(emp y ym).mpr (by rw[RH yl,oy]);rw[this]at ny;cases ny
   |some q=>exact⟨q,keep y q (by rw[RH yl,oy])⟩
 ·intro y i hy;rw[gs]at hy;rw[Nz];by_cases c:j=y
  ·rw[Lx c]at hy;cases hy;simp
  ·rw[Lw c]at hy;have:=O.lt y i hy;simp
   lia
 ·intro y y' i hy Sa;rw[gs]at hy Sa;by_cases c:j=y<;>by_cases c':j=y'
  ·lia
  ·rw[Lx c]at hy;rw[Lw c']at Sa;cases hy;have:=O.lt y' _ Sa
   lia
  ·rw[Lw c]at hy;rw[Lx c']at Sa;cases Sa;have:=O.lt y _ hy
   lia
  ·rw[Lw c]at hy;rw[Lw c']at Sa;exact O.inj y y' i hy Sa
theorem wY{mask k:Nat}(hk:mask+1=2 ^ k):∀(rest hs:yaf) (owner:Array (Option Nat)),Ow mask hs owner->hs.length+rest.length<=mask+1 →
  ∃ Tp,rest.foldl (λ(acc:Option (Array (Option Nat)×Nat)) h=>do
   let (owner,k)←acc
   let j←layClean.free mask owner (turns mask) (bits h % (mask+1)) (bits h)
   pure (owner.setIfInBounds j (some k),k+1)) (some (owner,hs.length))=some (Tp,(hs++rest).length)/\Ow mask (hs++rest) Tp
 |[],hs,owner,O,_=>⟨owner,by simp,by rw[QM];exact O⟩
 |h::r,hs,owner,O,hl=>by
  rw[Qx]at hl;obtain⟨j,fj,O'⟩:=O.step hk (by lia) h;obtain⟨o',e',Q⟩:=wY hk r (hs++[h]) _ O' (by rw[Nz];simp;lia);refine⟨o',?_,by rw[Pn]at Q;exact Q⟩;rw[List.foldl_cons];have:(do
   let (owner,k)←(some (owner,hs.length):Option (Array (Option Nat)×Nat))
   let j←layClean.free mask owner (turns mask) (bits h % (mask+1)) (bits h)
   pure (owner.setIfInBounds j (some k),k+1))=some (owner.setIfInBounds j (some hs.length),(hs++[h]).length):=by
   show(layClean.free mask owner (turns mask) (bits h % (mask+1)) (bits h) >>= _)=_;rw[fj];simp
  rw[this,e'];simp
def yq{mask k:Nat}(hk:mask+1=2 ^ k)(hashes:Array Int)(hl:hashes.size<=mask+1):∃owner,layClean mask hashes=some owner/\Ow mask hashes.toList owner:=by
 have O:Ow mask [] (Array.replicate (mask+1) none):=by
  refine⟨by simp,by simp,by simp,λj i h=>?_,λj j' i h _=>?_⟩
  ·rw[Array.getElem?_replicate]at h;split at h<;>cases h
  ·rw[Array.getElem?_replicate]at h;split at h<;>cases h
 obtain⟨o,e,Q⟩:=wY hk hashes.toList [] _ O (by rw[P6];simp;omega);refine⟨o,?_,by simpa using Q⟩;unfold layClean;rw[<- Array.foldl_toList];show Option.map _ (List.foldl _ (some (Array.replicate (mask+1) none,([]:yaf).length)) _)=_;rw[e];rfl
def live(mask:Nat)(owner:Array (Option Nat)):List (Nat×Nat):=(List.range (mask+1)).filterMap λj=>(owner.getD j none).map (j,·)
def gS{mask:Nat}{hs:yaf}{owner:Array (Option Nat)}(O:Ow mask hs owner){j i:Nat}:(j,i)∈live mask owner↔owner[j]?=some (some i):=by
 unfold live;rw[XQ];constructor
 ·rintro⟨y,hy,e⟩;rw[List.mem_range]at hy;obtain⟨q,e1,e2⟩:=Ud.mp e;cases e2;have l:j<owner.size:=by rw[O.size];exact hy
  rw[RH l,<- e1];simp[Array.getD,l]
 ·intro h;obtain⟨l,e⟩:=UR.mp h;refine⟨j,by rw[List.mem_range,<- O.size];exact l,?_⟩;rw[show owner.getD j none=some i by simp[Array.getD,l,e]];rfl
def pT(mask:Nat)(owner:Array (Option Nat)):(live mask owner).map (·.1)=(List.range (mask+1)).filter λj=>(owner.getD j none).isSome:=by
 unfold live
 induction List.range (mask+1)with
 |nil=>rfl
 |cons a r ih =>
  cases e:owner.getD a none with
  |none=>rw[List.filterMap_cons_none (by rw[e];rfl),XG (by simp[e]),ih]
  |some q=>rw[ZN (by rw[e];rfl),XH (by simp[e]),MR,ih]
def El{mask:Nat}{hs:yaf}{owner:Array (Option Nat)}(O:Ow mask hs owner):(live mask owner).length=hs.length:=by
 have e1:(live mask owner).length=((live mask owner).map (·.1)).length:=by simp
 have e2:owner.toList=(List.range (mask+1)).map λj=>owner.getD j none:=by
  apply List.ext_getElem?;intro j;rw[OD,NH];by_cases c:j<mask+1
  ·have l:j<owner.size:=by rw[O.size];exact c
   rw[List.getElem?_range c,RH l];simp[Array.getD,l]
  ·rw[List.getElem?_eq_none (by rw[List.length_range];lia),ZO (by rw[O.size];lia)];rfl
 rw[e1,pT,<- O.cnt,e2,List.filter_map,LJ];rfl
def uv(mask:Nat)(owner:Array (Option Nat)):((live mask owner).map (·.1)).Pairwise (·<·):=by rw[pT];exact List.Pairwise.filter _ List.pairwise_lt_range
def Hm{l:yag}(h:l.Pairwise (·<·)):iP l.toArray:=by
 intro a b Vn hb;have T4:b<l.length:=by simpa using hb
 have:=RJ.mp h a b (by lia) T4 Vn;simp[Array.getD,show a<l.length by lia,T4];exact this
def GK{mask k:Nat}(hk:mask+1=2 ^ (k+1))(finger moves:Nat)(led plain:Bool){V:Type}(es:Array (Int×V))(hl:es.size<=mask) :
  ∃ t order,laid mask finger moves led plain (es.map (·.1))=some (t,order)/\t.mask=mask/\t.led=led/\t.plain=plain ∧
   ∃ QP:List (Int×V),(order.filterMap (es[·]?)).toList=QP/\QP.length=es.size/\Tab t (QP.map (·.1))/\t.place.size=es.size ∧
    (∀(a:Nat) (e:Int×V),QP[a]?=some e->∃i:Nat,order[a]?=some i/\es[i]?=some e)/\(∀i:Nat,i<es.size->∃a:Nat,order[a]?=some i)/\∀(a b i:Nat),order[a]?=some i->order[b]?=some i->a=b:=by
 obtain⟨owner,eo,O⟩:=yq hk (es.map (·.1)) (by rw[Array.size_map];lia);have YG:(es.map (·.1)).toList.length=es.size:=by simp
 refine⟨{mask,place:=((live mask owner).map (·.1)).toArray,dummies:=#[],finger,led,moves,plain},((live mask owner).map (·.2)).toArray,by unfold laid;rw[eo];rfl,rfl,rfl,rfl,?_⟩;have ll:=El O;rw[YG]at ll;have lt:∀p∈live mask owner,p.2<es.size:=λp hp=>by have:=O.lt p.1 p.2 ((gS O).mp hp);rw[YG]at this;exact this
 have els:∀l:List (Nat×Nat),(∀p∈l,p.2<es.size)->(((l.map (·.2)).filterMap λi=>es[i]?).map some)=l.map λp=>es[p.2]?:=λl hl=>by
  induction l with
  |nil=>rfl
  |cons p r ih =>
   have lp:=hl p (by simp);rw[MR,ZN (RH lp),MR,MR,ih λq hq=>hl q (by simp[hq]),RH lp]
 have ge:∀a:Nat,((((live mask owner).map (·.2)).filterMap λi=>es[i]?)[a]?).map some=((live mask owner)[a]?).map λp=>es[p.2]?:=λa=>by have:=congrArg (λl=>l[a]?) (els _ lt);simp only[OD]at this;exact this
 refine⟨((live mask owner).map (·.2)).filterMap λi=>es[i]?,by simp,?_,?_,?_,?_,?_,?_⟩
 ·have:=congrArg List.length (els _ lt);rw[LJ,LJ]at this;rw[this,ll]
 ·refine⟨⟨k,hk⟩,Hm (uv mask owner),?_,rfl,?_,?_,?_⟩
  ·intro x hx;have Qb:x∈(live mask owner).map (·.1):=by simpa using hx
   rw[pT,Rb,List.mem_range]at Qb;show x<=mask
   lia
  ·have:=congrArg List.length (els _ lt);rw[LJ,LJ]at this;show((live mask owner).map (·.1)).toArray.size=_;rw[Ot,LJ,LJ,this]
  ·show((live mask owner).map (·.1)).toArray.size<=mask;rw[Ot,LJ,ll];exact hl
  ·intro a x h hx hh;have Qb:((live mask owner).map (·.1))[a]?=some x:=by simpa using hx
   rw[OD]at Qb;obtain⟨p,ep,e1⟩:=Ud.mp Qb;have g:=ge a;rw[ep]at g;have lp:=lt p (OL ep);rw[OD]at hh;obtain⟨e,ee,eh⟩:=Ud.mp hh;rw[ee,Option.map_some,Option.map_some,RH lp]at g;have ge':=ON (ON g);obtain⟨j',o',pre,post,ev,q⟩:=O.at_ p.2 h (by rw[<- eh,ge',<- NH]at *;rw[NH,Array.getElem?_map,RH lp];rfl)
   have oj:=(gS O).mp (show(p.1,p.2)∈live mask owner from OL ep);have:=O.inj j' p.1 p.2 o' oj;subst this;subst e1;refine⟨pre,post,ev,λy hy=>?_⟩;obtain⟨z,hz⟩:=q y hy;show y∈((live mask owner).map (·.1)).toArray.toList;simp only[Ms];exact⟨(y,z),(gS O).mpr hz,rfl⟩
 ·show((live mask owner).map (·.1)).toArray.size=_;rw[Ot,LJ,ll]
 ·intro a e he;have g:=ge a;rw[he]at g;cases ep:(live mask owner)[a]? with
  |none=>rw[ep]at g;cases g
  |some p =>
   rw[ep]at g;exact⟨p.2,by simp[ep],(ON g).symm⟩
 ·intro i hi;obtain⟨h,hh⟩:∃h,(es.map (·.1)).toList[i]?=some h:=⟨_,MZ (by rw[YG];exact hi)⟩;obtain⟨j,oj,_⟩:=O.at_ i h hh;obtain⟨a,la,ea⟩:=RL ((gS O).mpr oj);exact⟨a,by simp[MZ la,ea]⟩
 ·intro a b i ha hb;have SA:((live mask owner).map (·.2))[a]?=some i:=by simpa using ha
  have T4:((live mask owner).map (·.2))[b]?=some i:=by simpa using hb
  rw[OD]at SA T4;obtain⟨p,ep,e1⟩:=Ud.mp SA;obtain⟨q,eq,e2⟩:=Ud.mp T4;have o1:=(gS O).mp (show(p.1,p.2)∈live mask owner from OL ep);have o2:=(gS O).mp (show(q.1,q.2)∈live mask owner from OL eq);have ej:=O.inj p.1 q.1 i (by rw[<- e1];exact o1) (by rw[<- e2];exact o2);have r:=uv mask owner;have la:=(OC.mp ep);have lb:=(OC.mp eq);obtain⟨la1,la2⟩:=la;obtain⟨lb1,lb2⟩:=lb;rcases XW a b with z|z|z
  ·have:=RJ.mp r a b (by rw[LJ];exact la1) (by rw[LJ];exact lb1) z;rw[Rl,Rl,la2,lb2]at this
   lia
  ·exact z
  ·have:=RJ.mp r b a (by rw[LJ];exact lb1) (by rw[LJ];exact la1) z;rw[Rl,Rl,la2,lb2]at this
   lia
theorem vN:∀(fuel size n:Nat),n<size*2 ^ fuel->∃m,sizeAbove.go n fuel size=size*2 ^ m/\n<size*2 ^ m
 |0,size,n,h=>⟨0,by simp[sizeAbove.go],h⟩
 |fuel+1,size,n,h=>by
  unfold sizeAbove.go;by_cases c:size<=n
  ·rw[Lx c];obtain⟨m,e1,e2⟩:=vN fuel (size*2) n (by rw[Rm]at h;rw[Nat.mul_assoc,Nat.mul_comm 2];exact h);refine⟨m+1,?_,?_⟩
   ·rw[e1,Rm,Nat.mul_assoc,Nat.mul_comm 2]
   ·rw[Rm,Nat.mul_comm (2 ^ m),<- Nat.mul_assoc];exact e2
  ·rw[Lw c];exact⟨0,by simp,by simp;lia⟩
def above{n:Nat}(h:n<2 ^ 60):∃k,sizeAbove n - 1+1=2 ^ (k+1)/\n<=sizeAbove n - 1:=by
 obtain⟨m,e1,e2⟩:=vN 64 8 n (OM h (by decide));have e:sizeAbove n=8*2 ^ m:=e1;have hp:=Nat.two_pow_pos m;refine⟨m+2,?_,by lia⟩;rw[e,show 2 ^ (m+2+1)=8*2 ^ m by rw[Rm,Rm,Rm];lia]
 lia
end ST
namespace SW
open PySem PySem.SetTable ST
section
variable{prog:Program}{w:World}{A:Around}{E:yaa}{s:Shared}
abbrev TK(prog:Program)(w:World):HeapKind prog w (yaf):=tupleKind (intKind prog w)
theorem items_int:∀{ks:yaf} {vs:yad},ItemsAre (intKind prog w) ks vs->∀v∈vs,∃n t,v=Value.int n t
 |_,_,.nil,v,h=>by cases h
 |_,_,.cons h t,v,hv=>by
  rcases L9.mp hv with z|z
  ·subst z;obtain⟨t,e⟩:=Value.isInt_shape h;exact⟨_,t,e⟩
  ·exact items_int t v z
def GU(d:Nat)(n:Int)(t:Tok):ofAClassStatement d (.int n t)=pure false:=by cases d<;>rfl
def ux{Q:Bool->Shared->Prop}(hk:(TK prog w).is s.heap k b)(hQ:Q false s):wpAny (model prog w) A (ofAClassStatement 8 (.ref b)) Q E s:=by
 obtain⟨o,items,n,ho,hc,hd,hi⟩:=hk;unfold ofAClassStatement;refine LA (wpAny_typeOf (T := "tuple") ⟨o,ho,hc⟩ ?_);dsimp only;rw[Lx (by decide)];refine LA (Ma ?_);rw[Lw (by decide)];refine LA (wpAny_seqItems ho hd ?_);dsimp only;refine LA ?_;rw[<- Array.forIn_toList];refine wpAny_forIn_list _ (λrest r s'=>r.1=none/\s'=s/\∀v∈rest,∃n t,v=Value.int n t) _ ?_ ?_ _ _ ⟨rfl,rfl,items_int hi⟩
 ·rintro v rest r s' ⟨hr,rfl,NA⟩;obtain⟨m,t,rfl⟩:=NA v O0;rw[GU];refine LA (Ma ?_);simp only[QL,if_false];exact Ma ⟨rfl,rfl,λu SF=>NA u (MO _ SF)⟩
 ·rintro⟨r1,r2⟩ s' ⟨hr,rfl,_⟩;simp only at hr;subst hr;exact Ma hQ
def Gx(d:Nat)(n:Int)(t:Tok):hashByValue d (.int n t)=pure true:=by cases d<;>rfl
def Cb{Q:Bool->Shared->Prop}(hk:(TK prog w).is s.heap k b)(hQ:Q true s):wpAny (model prog w) A (hashByValue 8 (.ref b)) Q E s:=by
 obtain⟨o,items,n,ho,hc,hd,hi⟩:=hk;unfold hashByValue;refine LA (wpAny_specialOf (T := "tuple") ⟨o,ho,hc⟩ F.slot_tuple_hash.lookup ?_);show wpAny _ _ (seqItems? (.ref b) >>= _) _ _ s;refine LA (wpAny_seqItems ho hd ?_);dsimp only[Option.getD_some];refine LA ?_;rw[<- Array.forIn_toList];refine wpAny_forIn_list _ (λrest r s'=>r.1=none/\s'=s/\∀v∈rest,∃n t,v=Value.int n t) _ ?_ ?_ _ _ ⟨rfl,rfl,items_int hi⟩
 ·rintro v rest r s' ⟨hr,rfl,NA⟩;obtain⟨m,t,rfl⟩:=NA v O0;rw[Gx];refine LA (Ma ?_);simp only[Bool.not_true,QL,if_false];exact Ma ⟨rfl,rfl,λu SF=>NA u (MO _ SF)⟩
 ·rintro⟨r1,r2⟩ s' ⟨hr,rfl,_⟩;simp only at hr;subst hr;exact Ma hQ
def AY{vs:yad}{Q:Bool->Shared->Prop}(hk:(TK prog w).is s.heap k b)(hv:∀v∈vs,∃k' c,v=Value.ref c/\(TK prog w).is s.heap k' c)(hQ:Q false s) :
  wpAny (model prog w) A (searchCouldBeSeen (.ref b) vs) Q E s:=by
 unfold searchCouldBeSeen;refine LA (wpAny_forIn_list _ (λrest r s'=>r.1=none/\s'=s/\∀v∈rest,∃k' c,v=Value.ref c/\(TK prog w).is s.heap k' c) _ ?_ ?_ _ _ ⟨rfl,rfl,hv⟩)
 ·rintro v rest r s' ⟨hr,rfl,NA⟩;have Vo:∀u∈rest,∃k' c,u=Value.ref c/\(TK prog w).is s'.heap k' c:=λu hu=>NA u (MO _ hu)
  obtain⟨k',c,rfl,hc⟩:=NA v O0;dsimp only;by_cases Y5:((b==c) || (carriedByValue (.ref b) && carriedByValue (.ref c)))=true
  ·rw[Lx Y5];exact Ma ⟨rfl,rfl,Vo⟩
  ·rw[Lw Y5];refine LA ((TK prog w).quiet hk ?_);simp only[Bool.not_true,QL,if_false];refine LA ((TK prog w).quiet hc ?_);simp only[Bool.not_true,QL,if_false];refine LA (ux hk ?_);simp only[QL,if_false];refine LA (ux hc ?_);simp only[QL,if_false];exact Ma ⟨rfl,rfl,Vo⟩
 ·rintro⟨r1,r2⟩ s' ⟨hr,rfl,_⟩;simp only at hr;subst hr;exact Ma hQ
theorem ph{o:Obj}{xs:List (yaf×Addr)}{Q:SetFound->Shared->Prop}(hu:A.units<cLine)(hk:(TK prog w).is s.heap k b)
  (ho:s.heap.get? a=some o) (hd:o.data=.set es ep t) (he:es.toList=xs.map λx=>((TK prog w).hash x.1,Value.ref x.2)) (Tq:∀x∈xs,(TK prog w).is s.heap x.1 x.2) (T:Tab t (xs.map λx=>(TK prog w).hash x.1))
  (UA:k∈xs.map (·.1)->Q (.there none) s) (hno:k∉xs.map (·.1)->∀j pre post,b9 t.mask ((TK prog w).hash k)=pre++j::post->(∀y∈pre,y∈t.place.toList)->j∉t.place.toList->Q (.free j false) s) :
  ∀ (fuel:Nat) (l done:yag) (c:Nat) (st:Option Probe),ahead t.mask c (st.getD (t.probeStart ((TK prog w).hash k)))=l->b9 t.mask ((TK prog w).hash k)=done++l →
   (∀y∈done,∃(i:Nat) (x:yaf×Addr),t.place[i]?=some y/\xs[i]?=some x/\x.1≠k)->l.length<fuel->(st.getD (t.probeStart ((TK prog w).hash k))).dummy=none->wpAny (model prog w) A (setSearchFrom a (.ref b) ((TK prog w).hash k) true fuel st) Q E s
 |0,_,_,_,_,_,_,_,hf,_=>absurd hf (Nat.not_lt_zero _)
 |fuel+1,l,done,c,st,e1,e2,hdn,hf,hdm=>by
  have sz:es.size=xs.length:=by rw[<- P6,he,LJ]
  have fits:t.fits es.size=true:=by have:=T.fits;rw[LJ]at this;rw[sz];exact this
  have psz:t.place.size=xs.length:=by have:=T.len;rw[LJ]at this;exact this
  have entry:∀(i:Nat) (x:yaf×Addr),xs[i]?=some x->es[i]?=some ((TK prog w).hash x.1,Value.ref x.2):=λi x hx=>by rw[<- NH,he,OD,hx];rfl
  have ofPlace:∀i y:Nat,t.place[i]?=some y->∃x,xs[i]?=some x:=λi y hy=>by have:=(dX hy).2;exact⟨xs[i]'(by lia),MZ (by lia)⟩
  have hat:∀(i:Nat) (x:yaf×Addr),xs[i]?=some x->(es[i]?.map (·.1)).getD 0=(TK prog w).hash x.1:=λi x hx=>by rw[entry i x hx];rfl
  have dpl:∀y∈done,y∈t.place.toList:=λy hy=>let ⟨i,_,h1,_⟩:=hdn y hy;get_mem h1
  have emp:∃x∈l,x∉t.place.toList:=by
   obtain⟨x,hx,nx⟩:=T.empty ((TK prog w).hash k);rw[e2]at hx;rcases MC.mp hx with z|z
   ·exact absurd (dpl x z) nx
   ·exact⟨x,z,nx⟩
  have ll:l.length<=10*turns t.mask:=by
   have:=si t.mask ((TK prog w).hash k);rw[e2,Nz]at this
   lia
  unfold setSearchFrom;refine LA (Ss ho hd fits ?_);dsimp only;rw[T.stays];simp only[QL,if_false];generalize hm:t.probe _ ((TK prog w).hash k) (st.getD (t.probeStart ((TK prog w).hash k)))=m;rcases xt T.rise T.dum (λi=>(es[i]?.map (·.1)).getD 0) ((TK prog w).hash k) l (10*turns t.mask) c _ e1 ll emp hdm with⟨pre,j,post,q1,q2,q3,q4⟩| ⟨pre,j,post,i,q,c',q1,q2,q3,q4,q5,q6,q7⟩
  ·have em:m=some (.empty j none):=hm.symm.trans q4;subst em;dsimp only;have hv:b9 t.mask ((TK prog w).hash k)=(done++pre)++j::post:=by rw[e2,q1,Pn]
   have Y6:∀y∈done++pre,y∈t.place.toList:=λy hy=>by
    rcases MC.mp hy with z|z
    ·exact dpl y z
    ·obtain⟨i,h1,_⟩:=q2 y z;exact get_mem h1
   refine Ma (hno (λhin'=>?_) j _ post hv Y6 q3);obtain⟨x,hx,ek⟩:=Ms.mp hin';obtain⟨i0,li,ei⟩:=RL hx;have gx:xs[i0]?=some x:=by rw[MZ li,ei]
   have gp0:=qV (xs:=t.place) (a:=i0) (by lia);obtain⟨UB,post0,v0,p0⟩:=T.reach i0 _ ((TK prog w).hash k) gp0 (by rw[OD,gx,<- ek];rfl);have x0:t.place.getD i0 0∈done++pre:=by
    have hz:UB.length<(done++pre).length:=by
     refine XC λnl=>?_
     have g1:(b9 t.mask ((TK prog w).hash k))[(done++pre).length]?=some j:=by rw[hv,P5 (Mw _),VT];rfl
     rw[v0]at g1;by_cases c1:(done++pre).length<UB.length
     ·rw[QT c1]at g1;exact q3 (p0 j (OL g1))
     ·have c2:(done++pre).length=UB.length:=by lia
      rw[c2,P5 (Mw _),VT]at g1;have:t.place.getD i0 0=j:=ON g1;exact q3 (by rw[<- this];exact get_mem gp0)
    have g2:(b9 t.mask ((TK prog w).hash k))[UB.length]?=some (t.place.getD i0 0):=by rw[v0,P5 (Mw _),VT];rfl
    rw[hv,QT hz]at g2;exact OL g2
   have same:∀i':Nat,t.place[i']?=some (t.place.getD i0 0)->i'=i0:=λi' h'=>(below_at T.rise h').symm.trans (below_at T.rise gp0)
   rcases MC.mp x0 with z|z
   ·obtain⟨i',x',h1,h2,h3⟩:=hdn _ z;have:=same i' h1;subst this;rw[gx]at h2;cases h2;exact h3 ek
   ·obtain⟨i',h1,h2⟩:=q2 _ z;have:=same i' h1;subst this;exact h2 (by rw[hat i' x gx,ek])
  ·have em:m=some (.candidate j i q):=hm.symm.trans q7;subst em;dsimp only;obtain⟨x,gx⟩:=ofPlace i j q3;have hx:=Tq x (OL gx);have stored:∀v∈(es.filter (·.1==(TK prog w).hash k)).toList.map (·.2),∃k' c,v=Value.ref c/\(TK prog w).is s.heap k' c:=λv hv=>by
    obtain⟨e,he',rfl⟩:=Ms.mp hv;have he2:e∈es.toList:=by have:=Array.mem_toList_iff.mp he';exact Array.mem_toList_iff.mpr (Array.mem_filter.mp this).1
    rw[he]at he2;obtain⟨y,hy,rfl⟩:=Ms.mp he2;exact⟨y.1,y.2,rfl,Tq y hy⟩
   have go:wpAny (model prog w) A (do
     let some (_,y):=es[i]?|unsupported "internal:set-entry"
     let equal←holding [y] (eqBool y (.ref b))
     let (QP,_,t')←setState a
     if true && equal then return SetFound.there none
     let some same:=t'.sameMemory t.moves t.mask|unsupported "set.changed-during-lookup:is-the-new-block-at-the-old-address"
     let Y7←match(if same then t'.slot j else .empty)with
      |.live i'=>match QP[i']? with
       |some (_,y')=>do pure (if←isSame y' y then some i' else none)
       |none=>pure none
      |_=>pure none
     match Y7 with
     |none=>rule "set.search.anew"; setSearchFrom a (.ref b) ((TK prog w).hash k) true fuel none
     |some i'=>if equal then return .there (some i')else setSearchFrom a (.ref b) ((TK prog w).hash k) true fuel (some q)) Q E s:=by
    rw[entry i x gx];dsimp only;refine LA (QN ((TK prog w).eqBool hu hx hk ?_));refine LA (Ss ho hd fits ?_);dsimp only;by_cases ek:x.1=k
    ·rw[Lx (by simp[ek])];exact Ma (UA (Ms.mpr ⟨x,OL gx,ek⟩))
    ·rw[Lw (by simp[ek])];have sm:t.sameMemory t.moves t.mask=some true:=by unfold SetTable.sameMemory;simp
     rw[sm];dsimp only;rw[Lx rfl,uA T.rise q3];dsimp only;rw[entry i x gx];dsimp only;refine LA (wpAny_isSame_ref_self ?_);simp only[if_true];refine LA (Ma ?_);dsimp only;rw[Lw (by simp[ek])];refine ph hu hk ho hd he Tq T UA hno fuel post (done++pre++[j]) c' (some q) q5.symm (by rw[e2,q1];simp) (λy hy=>?_) (by rw[q1,Nz,Qx]at hf;lia) q6;rcases MC.mp hy with z|z
     ·rcases MC.mp z with z|z
      ·exact hdn y z
      ·obtain⟨i',h1,h2⟩:=q2 y z;obtain⟨x',gx'⟩:=ofPlace i' y h1;exact⟨i',x',h1,gx',λek'=>h2 (by rw[hat i' x' gx',ek'])⟩
     ·simp at z;subst z;exact⟨i,x,q3,gx,ek⟩
   by_cases Y8:t.led=true
   ·rw[Lw (by simp[Y8])];exact go
   ·rw[Lx (by simp[Y8])];refine LA (AY hk stored ?_);simp only[QL,if_false];exact go
theorem vO:∀(fuel size n:Nat),sizeAbove.go n fuel size<=max size (2*n)
 |0,size,n=>by unfold sizeAbove.go;lia
 |fuel+1,size,n=>by
  unfold sizeAbove.go;split
  ·have:=vO fuel (size*2) n
   lia
  ·lia
structure iQ(prog:Program)(w:World)(h:Heap)(a:Addr)(xs:List (yaf×Addr)):Prop where
 ex:∃o es ep t,h.get? a=some o/\o.ExactSet/\o.data=.set es ep t/\es.toList=xs.map (λx=>((TK prog w).hash x.1,Value.ref x.2))/\Tab t (xs.map λx=>(TK prog w).hash x.1)/\(t.plain=true/\t.led=!w.params.followText "set-order")/\t.place.size*5<t.mask*3/\t.mask<=8191
 is_:∀x∈xs,(TK prog w).is h x.1 x.2
 nd:(xs.map (·.1)).Nodup
def j6 {o:Obj} (hk:(TK prog w).is h k b) (ho:h.get? a=some o) (hc:o.cls=.type "set") (hs:Heap.SameBut a h h'):(TK prog w).is h' k b:=by
 obtain⟨o',items,n,Pq,RO,hd,hi⟩:=hk;have ne:b≠a:=λe=>by subst e;rw[ho]at Pq;cases Pq;rw[hc]at RO;injection RO with z;exact absurd z (by decide)
 exact⟨o',items,n,hs.extBut b o' ne Pq,RO,hd,hi⟩
def EM{xs:List (yaf×Addr)}{o:Obj}{wanted:Nat}{Q:Unit->Shared->Prop}(ho:s.heap.get? a=some o)(hex:o.ExactSet)(hd:o.data=.set es ep t)(he:es.toList=xs.map λx=>((TK prog w).hash x.1,Value.ref x.2))
  (T:Tab t (xs.map λx=>(TK prog w).hash x.1)) (M9:t.plain=true/\t.led=!w.params.followText "set-order") (Tq:∀x∈xs,(TK prog w).is s.heap x.1 x.2) (nd:(xs.map (·.1)).Nodup) (hw:wanted=4*xs.length) (hn:0<xs.length) (hl:xs.length<=1000)
  (hQ:∀h' ys,Heap.SameBut a s.heap h'->iQ prog w h' a ys->ys.length=xs.length->(∀y,y∈ys↔y∈xs)->Q () {s with heap:=h'}):wpAny (model prog w) A (setRelay a wanted) Q E s:=by
 have sz:es.size=xs.length:=by rw[<- P6,he,LJ]
 have fits:t.fits es.size=true:=by have:=T.fits;rw[LJ]at this;rw[sz];exact this
 obtain⟨k,ek,eb⟩:=above (n:=wanted) (by lia);have up:sizeAbove wanted<=max 8 (2*wanted):=vO 64 8 wanted;generalize hzs:(xs.map λx=>((TK prog w).hash x.1,x)).toArray=zs;have zz:zs.size=xs.length:=by rw[<- hzs];simp
 have zg:∀i:Nat,zs[i]?=xs[i]?.map λx=>((TK prog w).hash x.1,x):=λi=>by rw[<- hzs];simp
 have eg:∀i:Nat,es[i]?=xs[i]?.map λx=>((TK prog w).hash x.1,Value.ref x.2):=λi=>by rw[<- NH,he,OD]
 have em:es.map (·.1)=zs.map (·.1):=by apply Array.ext_getElem?;intro i;rw[Array.getElem?_map,Array.getElem?_map,zg,eg];cases xs[i]?<;>rfl
 obtain⟨t',order,el,m1,m2,m3,QP,f1,f2,T',f3,f4,f5,f6⟩:=GK ek t.finger (t.movedTo (sizeAbove wanted - 1)) t.led t.plain zs (by lia);have er:t.relaid (es.map (·.1)) wanted=some (t',order):=by unfold SetTable.relaid;rw[em];exact el
 generalize Y9:QP.map (·.2)=ys;have fo:∀l:yag,(l.filterMap λi=>es[i]?)=(l.filterMap λi=>zs[i]?).map λz=>(z.1,Value.ref z.2.2):=λl=>by
  induction l with
  |nil=>rfl
  |cons i r ih =>
   cases e:xs[i]? with
   |none=>rw[List.filterMap_cons_none (by rw[eg,e];rfl),List.filterMap_cons_none (by rw[zg,e];rfl),ih]
   |some x=>rw[ZN (by rw[eg,e];rfl),ZN (by rw[zg,e];rfl),MR,ih]
 have f1':order.toList.filterMap (λi=>zs[i]?)=QP:=by rw[<- f1];simp
 have Ts:∀z∈QP,z=((TK prog w).hash z.2.1,z.2)/\z.2∈xs:=λz hz=>by obtain⟨q,lq,eq⟩:=RL hz;obtain⟨i,_,hi⟩:=f4 q z (by rw[MZ lq,eq]);rw[zg]at hi;obtain⟨x,ex,e⟩:=Ud.mp hi;subst e;exact⟨rfl,OL ex⟩
 have new:(order.filterMap λi=>es[i]?).toList=ys.map λx=>((TK prog w).hash x.1,Value.ref x.2):=by
  have:(order.filterMap λi=>es[i]?).toList=order.toList.filterMap λi=>es[i]?:=by simp
  rw[this,fo,f1',<- Y9,OH];apply VF;intro z hz;obtain⟨e,_⟩:=Ts z hz;show(z.1,Value.ref z.2.2)=((TK prog w).hash z.2.1,Value.ref z.2.2);rw[show z.1=(TK prog w).hash z.2.1 from congrArg (·.1) e]
 have hsh:QP.map (·.1)=ys.map λx=>(TK prog w).hash x.1:=by rw[<- Y9,OH];apply VF;intro z hz;obtain⟨e,_⟩:=Ts z hz;exact congrArg (·.1) e
 have yl:ys.length=xs.length:=by rw[<- Y9,LJ,f2,zz]
 have ym:∀y,y∈ys↔y∈xs:=λy=>by
  rw[<- Y9];constructor
  ·intro hy;obtain⟨z,hz,rfl⟩:=Ms.mp hy;exact(Ts z hz).2
  ·intro hy;obtain⟨i,li,ei⟩:=RL hy;obtain⟨q,hq⟩:=f5 i (by rw[zz];exact li);have hz:((TK prog w).hash y.1,y)∈QP:=by
    rw[<- f1',XQ];refine⟨i,?_,by rw[zg,MZ li,ei];rfl⟩;rw[<- NH]at hq;exact OL hq
   exact Ms.mpr ⟨_,hz,rfl⟩
 have ynd:(ys.map (·.1)).Nodup:=by
  rw[<- Y9,OH];refine RJ.mpr λp q lp lq hpq e=>?_
  rw[LJ]at lp lq;simp only[Rl,Function.comp]at e;obtain⟨i,oi,gi⟩:=f4 p QP[p] (MZ lp);obtain⟨i',oi',gi'⟩:=f4 q QP[q] (MZ lq);rw[zg]at gi gi';obtain⟨x,ex,e1⟩:=Ud.mp gi;obtain⟨x',ex',e1'⟩:=Ud.mp gi';rw[<- e1,<- e1']at e;have e2:x.1=x'.1:=e;obtain⟨l1,l2⟩:=OC.mp ex;obtain⟨l1',l2'⟩:=OC.mp ex';have ii:i=i':=by
   rcases XW i i' with z|z|z
   ·have:=RJ.mp nd i i' (by rw[LJ];exact l1) (by rw[LJ];exact l1') z;rw[Rl,Rl,l2,l2']at this;exact absurd e2 this
   ·exact z
   ·have:=RJ.mp nd i' i (by rw[LJ];exact l1') (by rw[LJ];exact l1) z;rw[Rl,Rl,l2,l2']at this;exact absurd e2.symm this
  subst ii;have:=f6 p q i oi oi'
  lia
 unfold setRelay;refine LA (Ss ho hd fits ?_);dsimp only;rw[Lw (by rw[sizeLine_eq];lia),er];have nsz:(order.filterMap λi=>es[i]?).size=es.size:=by rw[<- P6,new,LJ,yl,sz]
 refine LA ?_;show wpAny _ _ (if((order.filterMap λi=>es[i]?).size != es.size)=true then _ else pure (order.filterMap (λi=>es[i]?),t')) _ _ _;rw[Lw (by rw[nsz];simp)];refine Ma ?_;refine wpAny_storeSet_of ho hd ?_ (by rw[nsz,sz,sizeLine_eq];lia);have hg:(s.heap.update a (Obj.putSet (order.filterMap λi=>es[i]?) t')).get? a=some {o with data:=.set (order.filterMap λi=>es[i]?) (ep+1) t'}:=by have:=VE (Obj.putSet (order.filterMap λi=>es[i]?) t') ho (by rw[putSet_of _ _ hd];rfl);rw[putSet_of _ _ hd]at this;exact this
 rw[hsh]at T';refine hQ _ ys (WT ..) ⟨⟨_,_,ep+1,t',hg,hex,rfl,new,T',⟨by rw[m3];exact M9.1,by rw[m2];exact M9.2⟩,by rw[m1,f3,zz];lia,by rw[m1];lia⟩,λy hy=>j6 (Tq y ((ym y).mp hy)) ho hex.1 (WT ..),ynd⟩ yl ym
def HV{Q:Bool->Shared->Prop}(hu:A.units<cLine)(S:iQ prog w s.heap a xs)(hk:(TK prog w).is s.heap k b)(hl:xs.length<1000)
  (hQ:∀h' ys b',Heap.SameBut a s.heap h'->iQ prog w h' a ys->ys.length<=xs.length+1->(∀k',k'∈ys.map (·.1)↔k'∈xs.map (·.1)∨k'=k)->(∀y∈ys,y∈xs∨y=(k,b))->Q b' {s with heap:=h',toks:=s.toks+(TK prog w).draws k}) :
  wpAny (model prog w) A (setAdd a (.ref b)) Q E s:=by
 unfold setAdd;refine QN (LA ((TK prog w).pyHash hu hk ?_));generalize hs':({s with toks:=s.toks+(TK prog w).draws k}:Shared)=s';have hh:s'.heap=s.heap:=by rw[<- hs']
 obtain⟨⟨o,es,ep,t,ho,hex,hd,he,T,M9,Q3,hma⟩,Tq,nd⟩:=S;rw[<- hh]at ho hk;have Wr:∀x∈xs,(TK prog w).is s'.heap x.1 x.2:=by rw[hh];exact Tq
 have sz:es.size=xs.length:=by rw[<- P6,he,LJ]
 have fits:t.fits es.size=true:=by have:=T.fits;rw[LJ]at this;rw[sz];exact this
 have psz:t.place.size=xs.length:=by have:=T.len;rw[LJ]at this;exact this
 have back:∀(h':Heap) (b':Bool),Q b' {s with heap:=h',toks:=s.toks+(TK prog w).draws k}->Q b' {s' with heap:=h'}:=λh' b' q=>by rw[<- hs'];exact q
 unfold setAddHashed;refine QN ?_;unfold setAddHashedIn;refine LA (Ss ho hd fits ?_);dsimp only;rw[Lw (by unfold byScan;simp[Value.scannable])];obtain⟨c,ec⟩:=xY t ((TK prog w).hash k);have vl:=si t.mask ((TK prog w).hash k);unfold setSearch;refine LA (ph hu hk ho hd he Wr T (λUA=>?_) (λhno j pre post hv hp hj=>?_) 100000 _ [] c none ec.symm (by simp) (by simp) (by unfold turns at vl;lia) rfl)
 ·dsimp only;refine Ma ?_;have e:s'={s' with heap:=s'.heap}:=by cases s';rfl
  rw[e];refine back _ _ (hQ s'.heap xs _ (by rw[hh];exact Heap.SameBut.refl a s.heap) ⟨⟨o,es,ep,t,ho,hex,hd,he,T,M9,Q3,hma⟩,Wr,nd⟩ (by lia) (λk'=>⟨.inl,λz=>z.elim id λz=>by subst z;exact UA⟩) λy hy=>.inl hy)
 ·dsimp only;refine LA (Ss ho hd fits ?_);dsimp only;obtain⟨T',pl,pm,ps⟩:=T.put hj hv hp (by lia);rw[LJ]at pl;have Y6:(t.put j).1.plain=true:=M9.1;have hpq:(t.put j).1.plain=true/\(t.put j).1.led=!w.params.followText "set-order" := M9;rw[Y6];simp only[if_true];refine LA (Cb hk ?_);simp only[if_true];generalize Z5:(t.put j).2=p at *;generalize ht2:(t.put j).1=t2 at *;have isz:(insertAt es p ((TK prog w).hash k,Value.ref b)).toList=(xs.take p++(k,b)::xs.drop p).map λx=>((TK prog w).hash x.1,Value.ref x.2):=by
   rw[lU,he,OQ,MR,List.map_take,List.map_drop]
  have hlen:(xs.take p++(k,b)::xs.drop p).length=xs.length+1:=by
   rw[Nz,P8,Qx,Qy]
   lia
  have isz2:(insertAt es p ((TK prog w).hash k,Value.ref b)).size=xs.length+1:=by rw[<- P6,isz,LJ,hlen]
  have mem:∀y,y∈xs.take p++(k,b)::xs.drop p↔y=(k,b)∨y∈xs:=λy=>by
   rw[MC,L9];constructor
   ·rintro(z|z|z)
    ·exact .inr (UW z)
    ·exact .inl z
    ·exact .inr (UU z)
   ·rintro(z|z)
    ·exact .inr (.inl z)
    ·rw[<- Qh p xs]at z;rcases MC.mp z with q|q
     ·exact .inl q
     ·exact .inr (.inr q)
  have nd2:((xs.take p++(k,b)::xs.drop p).map (·.1)).Nodup:=by
   rw[OQ,MR];have n0:=nd;have h0:=hno;rw[<- Qh p xs,OQ]at n0 h0;rw[List.nodup_append]at n0 ⊢;obtain⟨n1,n2,n3⟩:=n0;rw[MC,not_or]at h0;refine⟨n1,SY.mpr ⟨h0.2,n2⟩,λx hx y hy=>?_⟩;rcases L9.mp hy with z|z
   ·intro e;subst e;subst z;exact h0.1 hx
   ·exact n3 x hx y z
  have Tt:∀zs:List (yaf×Addr),(∀y,y∈zs↔y∈xs.take p++(k,b)::xs.drop p)->∀k',k'∈zs.map (·.1)↔k'∈xs.map (·.1)∨k'=k:=λzs hz k'=>by
   constructor
   ·intro h1;obtain⟨y,hy,e⟩:=Ms.mp h1;rcases(mem y).mp ((hz y).mp hy)with q|q
    ·subst q;exact .inr e.symm
    ·exact .inl (Ms.mpr ⟨y,q,e⟩)
   ·rintro(h1|h1)
    ·obtain⟨y,hy,e⟩:=Ms.mp h1;exact Ms.mpr ⟨y,(hz y).mpr ((mem y).mpr (.inr hy)),e⟩
    ·subst h1;exact Ms.mpr ⟨(k',b),(hz _).mpr ((mem _).mpr (.inl rfl)),rfl⟩
  refine LA (wpAny_storeSet_of ho hd ?_ (by rw[isz2,sizeLine_eq];lia));have hg:(s'.heap.update a (Obj.putSet (insertAt es p ((TK prog w).hash k,Value.ref b)) t2)).get? a=some {o with data:=.set (insertAt es p ((TK prog w).hash k,Value.ref b)) (ep+1) t2}:=by have:=VE (Obj.putSet (insertAt es p ((TK prog w).hash k,Value.ref b)) t2) ho (by rw[putSet_of _ _ hd];rfl);rw[putSet_of _ _ hd]at this;exact this
  have sb:=WT s'.heap a (Obj.putSet (insertAt es p ((TK prog w).hash k,Value.ref b)) t2);generalize hh2:s'.heap.update a (Obj.putSet (insertAt es p ((TK prog w).hash k,Value.ref b)) t2)=h2 at hg sb ⊢;have T2:Tab t2 ((xs.take p++(k,b)::xs.drop p).map λx=>(TK prog w).hash x.1):=by rw[OQ,MR,List.map_take,List.map_drop];exact T'
  have is2:∀x∈xs.take p++(k,b)::xs.drop p,(TK prog w).is h2 x.1 x.2:=λx hx=>by
   rcases(mem x).mp hx with z|z
   ·subst z;exact j6 hk ho hex.1 sb
   ·exact j6 (Wr x z) ho hex.1 sb
  by_cases tf:t2.tooFull=true
  ·rw[Lx (by simp[tf])];refine LA (EM (s:={s' with heap:=h2}) (xs:=xs.take p++(k,b)::xs.drop p) hg hex rfl isz T2 hpq is2 nd2 ?_ (by lia) (by lia) λh3 ys sb3 S3 yl ym=>?_)
   ·rw[hlen,sz];unfold SetTable.grown;rw[Lw (by lia)]
    lia
   ·refine Ma (back h3 true (hQ h3 ys true (by rw[<- hh];exact sb.trans sb3) S3 ?_ (Tt ys ym) λy hy=>?_))
    ·lia
    ·rcases(mem y).mp ((ym y).mp hy)with q|q
     ·exact .inr q
     ·exact .inl q
  ·rw[Lw (by simp[tf])];refine Ma (back h2 true (hQ h2 _ true (by rw[<- hh];exact sb) ⟨⟨_,_,ep+1,t2,hg,hex,rfl,isz,T2,hpq,?_,by rw[pm];exact hma⟩,is2,nd2⟩ (by lia) (Tt _ λ_=>Iff.rfl) λy hy=>?_))
   ·have tf':t2.tooFull=false:=by simpa using tf
    unfold SetTable.tooFull SetTable.fill at tf';rw[T2.dum]at tf';simp at tf'
    lia
   ·rcases(mem y).mp hy with q|q
    ·exact .inr q
    ·exact .inl q
end
def ug:entryFor table "set.update.loop" = some Builtin.«set.update.loop»:=entryFor_of_tree (by kernel_rfl)
def nI:plainId "set.update.loop" = true:=by decide +kernel
section
variable{prog:Program}{w:World}{A:Around}{E:yaa}{s:Shared}
def kZ{h':Heap}(hk:(TK prog w).is h k b)(e:∀o,h.get? b=some o->h'.get? b=some o):(TK prog w).is h' k b:=by obtain⟨o',items,n,Pq,r⟩:=hk;exact⟨o',items,n,e o' Pq,r⟩
def key_ne {o:Obj} (hk:(TK prog w).is h k b) (ho:h.get? a=some o) (hc:o.cls=.type T) (hT:T ≠ "tuple"):b≠a:=λe=>by subst e;obtain⟨o',items,n,Pq,RO,_⟩:=hk;rw[ho]at Pq;cases Pq;rw[hc]at RO;injection RO with z;exact hT z
def iQ.ext{h':Heap}(S:iQ prog w h a xs)(e:∀o,h.get? a=some o->h'.get? a=some o)(hk:∀x∈xs,(TK prog w).is h' x.1 x.2):iQ prog w h' a xs:=by obtain⟨⟨o,es,ep,t,ho,r⟩,_,nd⟩:=S;exact⟨⟨o,es,ep,t,e o ho,r⟩,hk,nd⟩
def GQ {a I l : Addr} {items : yao} {R : Result -> Shared -> Prop} (hh : A.handled = none) (hu : A.in1.units < cLine) (haI : a ≠ I) (hal : a ≠ l) (hlI : l ≠ I) (hn : items.size <= 900) (ks : Nat -> yaf) :
  ∀ (m i : Nat) (s : Shared) (xs : List (yaf × Addr)), items.size - i = m -> i <= items.size -> (s.heap.IsListIter I l i /\ s.heap.IsList l items) -> iQ prog w s.heap a xs -> xs.length <= i →
   (∀ (j : Nat) (v : Value), items[j]? = some v -> ∃ c, v = .ref c /\ (TK prog w).is s.heap (ks j) c) -> (∀ k, k ∈ xs.map (·.1) ↔ ∃ j, j < i /\ k = ks j) -> (∀ x ∈ xs, ∃ j, j < i /\ items[j]? = some (.ref x.2)) →
   (∀ h' tk ys, (∀ b o, b ≠ a -> b ≠ I -> s.heap.get? b = some o -> h'.get? b = some o) -> iQ prog w h' a ys -> ys.length <= items.size -> (∀ k, k ∈ ys.map (·.1) ↔ ∃ j, j < items.size /\ k = ks j) -> (∀ x ∈ ys, ∃ j, j < items.size /\ items[j]? = some (.ref x.2)) →
    R (.ok (.ret .none)) { s with heap := h', toks := tk }) -> codeAny (model prog w) A (.builtin "set.update.loop" ⟨[.ref a, .ref I], []⟩) R s := by
 have W := Walks.list (prog := prog) (w := w) (A := A.in1) (show A.in1.handled = none from hh) I l hlI items;intro m
 induction m with
 | zero =>
  intro i s xs hm hi st S hx hk Ws hxi hR;have e : i = items.size := by lia
  subst e;refine VQ ug ?_;rw [Around.under_plainId nI _];show wpAny _ A.in1 (pyNext (.ref I) >>= _) _ _ s;refine LA (W.done s _ _ st λh' tk kp => ?_);obtain ⟨⟨o, ho, hc, _⟩, _⟩ := st;have UC : ∀ b o, b ≠ I -> s.heap.get? b = some o -> h'.get? b = some o := λb o hb e => kp b o (by simpa using hb) e
  refine Ma (hR h' tk xs (λb o _ hb e => UC b o hb e) (S.ext (λo e => UC a o haI e) λx Qb => ?_) hx Ws hxi);exact kZ (S.is_ x Qb) λo' e => UC _ o' (key_ne (S.is_ x Qb) ho hc (by decide)) e
 | succ m ih =>
  intro i s xs hm hi st S hx hk Ws hxi hR;have NZ : i < items.size := by lia
  refine VQ ug ?_;rw [Around.under_plainId nI _];show wpAny _ A.in1 (pyNext (.ref I) >>= _) _ _ s;refine LA (W.item i s _ _ NZ st λv h' tk hv st' kp => ?_);obtain ⟨⟨o, ho, hc, _⟩, _⟩ := id st;have UC : ∀ b o, b ≠ I -> s.heap.get? b = some o -> h'.get? b = some o := λb o hb e => kp b o (by simpa using hb) e
  have up : ∀ {k : yaf} {c : Addr}, (TK prog w).is s.heap k c -> (TK prog w).is h' k c := λq => kZ q λo' e => UC _ o' (key_ne q ho hc (by decide)) e
  have S' : iQ prog w h' a xs := S.ext (λo e => UC a o haI e) λx Qb => up (S.is_ x Qb)
  obtain ⟨c, rfl, hkc⟩ := hk i v hv;show wpAny _ A.in1 (holding [.ref c] (setAdd a (.ref c)) >>= _) _ _ _;refine LA (QN (HV (s := { s with heap := h', toks := tk }) hu S' (up hkc) (by lia) λh2 ys b' sb S2 yl km ym => ?_));obtain ⟨⟨o2, _, _, _, UD, hex2, _⟩, _, _⟩ := id S';have UE : ∀ {k : yaf} {c : Addr}, (TK prog w).is h' k c -> (TK prog w).is h2 k c := λq => j6 q UD hex2.1 sb
  have LX : h2.IsListIter I l (i + 1) /\ h2.IsList l items := W.frame _ _ _ st' λb hb o e => by
   refine sb.extBut b o (λq => ?_) e;subst q;simp only [L9, QV, or_false] at hb;rcases hb with z | z
   ·exact haI z
   ·exact hal z
  refine Ma ⟨plainId_quiet nI _, ih (i + 1) _ ys (by lia) NZ LX S2 (by lia) (λj v hj => ?_) (λk => ?_) (λx Qb => ?_) λh3 tk3 zs kp3 S3 zl zk zi => ?_⟩
  ·obtain ⟨c', e, q⟩ := hk j v hj;exact ⟨c', e, UE (up q)⟩
  ·rw [km k, Ws k];constructor
   ·rintro (⟨j, hj, e⟩ | e)
    ·exact ⟨j, by lia, e⟩
    ·exact ⟨i, by lia, e⟩
   ·rintro ⟨j, hj, e⟩;by_cases z : j < i
    ·exact .inl ⟨j, z, e⟩
    ·have : j = i := by lia
     subst this;exact .inr e
  ·rcases ym x Qb with z | z
   ·obtain ⟨j, hj, e⟩ := hxi x z;exact ⟨j, by lia, e⟩
   ·subst z;exact ⟨i, by lia, hv⟩
  ·exact hR h3 tk3 zs (λb o h1 OO e => kp3 b o h1 OO (sb.extBut b o h1 (UC b o OO e))) S3 zl zk zi
end
def u7 (a:Value):checkTypeCall "set" ⟨[a],[]⟩=pure ():=by kernel_rfl
def w6 (a:Value):checkBuiltinCall "set.__new__" ⟨[.type "set", a],[]⟩=pure ():=by kernel_rfl
section
variable{prog:Program}{w:World}{A:Around}{E:yaa}{s:Shared}
def uL(a:Value){Q₁:yaa}
  (h:∀led:Bool,led=(!w.params.followText "set-order")->Q₁ (.ref s.heap.objs.size) {s with heap:=s.heap.push {cls:=.type "set", dict:=none,data:=.set #[] 0 (.fresh 0 0 led)} }) :
  codeAny (model prog w) A (.call (.builtin "set.__new__") ⟨[.type "set", a],[]⟩) (wants Q₁ E) s:=by
 refine codeAny_of_tree ?_;show wpAny _ A.in1 (do checkBuiltinCall "set.__new__" ⟨[.type "set", a],[]⟩;again (.builtin "set.__new__" ⟨[.type "set", a],[]⟩)) _ _ s;refine LA (wpAny_of_eq (w6 a) (Ma ⟨plainId_quiet F.plain_set_new _,VQ F.entry_set_new ?_⟩));rw[Around.under_plainId F.plain_set_new _];unfold Builtin.«set.__new__» Builtin.Frozenset.newClass;have hsub:=sub_set_self;obtain⟨hp,g,d,tk,os⟩:=s;dsimp only;wp_walk;refine XZ (Ma ?_);dsimp only;simp only[newObj];refine LA (wpAny_alloc (Ma ?_));exact Ma (h _ rfl)
def yc {x:Value} {Q:Unit->Shared->Prop} (hT:s.TypeIs self "set") (hQ:Q () s):wpAny M A (checkBuiltinCall "set.__init__" ⟨[self,x],[]⟩) Q E s:=by
 simp only[checkBuiltinCall,kind_set_init,split_set_init,sig_set_init];refine LA (wpAny_isInstance hT sub_set_self ?_);simp only[Bool.not_true,QL,if_false];unfold Bind.checkArgs;dsimp only;refine LA (m:=Bind.printed "set" true _ _) (PyProof.Rows.printed_name (by decide) ?_);refine LA (m:=Bind.printed "*" false _ _) (PyProof.Rows.printed_star (self:=self) rfl hT λshort=>?_);have hrn:(Manifest.Receiver.self==Manifest.Receiver.none)=false:=by decide
 rw[show(if(Manifest.Receiver.self==Manifest.Receiver.none)=true then[self,x].length else[self,x].length - 1)=1 by simp[hrn]];simp only[R7];rw[show Bind.check ⟨.positional,"set", "*", .self,[⟨"iterable", .posOnly,false⟩]⟩ "set" short 1 []=pure ()by(simp[Bind.check,Bind.checkCount,Bind.isPositional];intro z;exact absurd z (by decide))];exact Ma hQ
set_option maxHeartbeats 1000000 in
def BB {x:Value} {Q:yaa} (h:∀led:Bool,led=(!w.params.followText "set-order")->wpAny (model prog w) A.in1.in1 (Builtin.«set.__init__» ⟨[.ref s.heap.objs.size,x],[]⟩)
   (λfin s'=>match fin with|.done f=>wants (λr LN=>r=.none/\Q (.ref s.heap.objs.size) LN) E (.ok f) s'|.again c'=>c'.quiet=true/\codeAny (model prog w) A.in1 c' (wants (λr LN=>r=.none/\Q (.ref s.heap.objs.size) LN) E) s')
   (λe s'=>wants (λr LN=>r=.none/\Q (.ref s.heap.objs.size) LN) E (.error e) s') {s with heap:=s.heap.push {cls:=.type "set", dict:=none,data:=.set #[] 0 (.fresh 0 0 led)} }) :
  wpAny (model prog w) A (call (.type "set") [x]) Q E s:=by
 obtain⟨c,tl,hmro⟩:=F.called_set.mro;have hmade:=F.called_set.made;have hsub:=F.called_set.sub;refine wpAny_call (codeAny_of_tree ?_);show wpAny _ _ (callAny (.type "set") _) _ _ _;refine Ma ⟨Code.quiet_builtin _ (by decide +kernel),VQ F.entry_type_call ?_⟩;rw[Around.under_plain (weight_type_call_type "set" [x] []) rfl];have h1:=F.called_set.notType;have h2:=F.called_set.canCreate;have hct:=u7 x
 repeat (any_goals (first|assumption|wp_step))
 refine codeAny_mono (uL (E:=E) x (Q₁:=λobj LM=>∃led:Bool,led=(!w.params.followText "set-order")/\obj=.ref s.heap.objs.size/\LM={s with heap:=s.heap.push {cls:=.type "set", dict:=none,data:=.set #[] 0 (.fresh 0 0 led)} }) λled hle=>⟨led,hle,rfl,rfl⟩) λr LM hr=>?_
 cases r with
 |error e=>exact hr
 |ok fl =>
  cases fl with
  |ret obj =>
   obtain⟨led,hle,rfl,rfl⟩:=hr;have hT:Shared.TypeIs {s with heap:=s.heap.push {cls:=.type "set", dict:=none,data:=.set #[] 0 (.fresh 0 0 led)} } (.ref s.heap.objs.size) "set" := ⟨_,Qu _ rfl,rfl⟩;have hli:=F.called_set.init.lookup;have hbi:=F.called_set.init.bind (.ref s.heap.objs.size)
   repeat (any_goals (first|assumption|wp_step))
   refine codeAny_mono (codeAny_call_builtin (R:=wants (λr LN=>r=.none/\Q (.ref s.heap.objs.size) LN) E) F.called_set.init.plain F.entry_set_init (yc hT (h led hle))) λr₂ LN Tu=>?_
   cases r₂ with
   |error e=>exact Tu
   |ok Za =>
    cases Za with
    |ret r =>
     obtain⟨rfl,hq⟩:=Tu
     repeat (any_goals (first|assumption|wp_step))
    |_=>exact Tu.elim
  |_=>exact hr.elim
def Gu (led:Bool) (hle:led=!w.params.followText "set-order"):iQ prog w (s.heap.push {cls:=.type "set", dict:=none,data:=.set #[] 0 (.fresh 0 0 led)}) s.heap.objs.size []:=by refine⟨⟨_,#[],0,_,Qu _ rfl,⟨rfl,rfl,rfl⟩,rfl,rfl,?_,⟨rfl,hle⟩,by show 0*5<7*3;decide,by show 7<=8191;decide⟩,by simp,by simp⟩;refine⟨⟨2,rfl⟩,λa b _ hb=>absurd hb (Nat.not_lt_zero _),(λx hx=>by cases hx),rfl,rfl,OE _,λa x h hx=>?_⟩;have:(#[]:yap)[a]?=some x:=hx;simp at this
def JY:isSubtype (.type "list") (.type "set")=pure false:=by rw[isSubtype_type];kernel_rfl
def JX:isSubtype (.type "list") (.type "frozenset")=pure false:=by rw[isSubtype_type];kernel_rfl
def call_set_list{Q:yaa}(hh:A.handled=none)(hu:A.in1.in1.in1.units<cLine)(hl:s.heap.IsList l items)(hn:items.size<=900)(ks:Nat->yaf)
  (hk:∀(j:Nat) (v:Value),items[j]?=some v->∃c,v=.ref c/\(TK prog w).is s.heap (ks j) c)
  (hQ:∀h' tk ys,(∀b o,s.heap.get? b=some o->h'.get? b=some o)->iQ prog w h' s.heap.objs.size ys->ys.length<=items.size->(∀k,k∈ys.map (·.1)↔∃ j,j<items.size/\k=ks j)->(∀x∈ys,∃j,j<items.size/\items[j]?=some (.ref x.2)) →
   Q (.ref s.heap.objs.size) {s with heap:=h',toks:=tk}):wpAny (model prog w) A (call (.type "set") [.ref l]) Q E s:=by
 refine BB λled hle=>?_
 have hS:(s.heap.push {cls:=.type "set", dict:=none,data:=.set #[] 0 (.fresh 0 0 led)}).get? s.heap.objs.size=some {cls:=.type "set", dict:=none,data:=.set #[] 0 (.fresh 0 0 led)}:=Qu _ rfl;have hT:Shared.TypeIs {s with heap:=s.heap.push {cls:=.type "set", dict:=none,data:=.set #[] 0 (.fresh 0 0 led)} } (.ref s.heap.objs.size) "set" := ⟨_,hS,rfl⟩;have ll:l<s.heap.objs.size:=by obtain⟨o,ho,_⟩:=hl;exact Nn ho
 have Xp:Shared.TypeIs {s with heap:=s.heap.push {cls:=.type "set", dict:=none,data:=.set #[] 0 (.fresh 0 0 led)} } (.ref l) "list" := by obtain⟨o,ho,hc,_⟩:=hl;exact⟨o,Oi _ ho,hc⟩
 have S0:=Gu (prog:=prog) (w:=w) (s:=s) led hle;have hl1:(s.heap.push {cls:=.type "set", dict:=none,data:=.set #[] 0 (.fresh 0 0 led)}).IsList l items:=hl.push _;have Vh:(s.heap.push {cls:=.type "set", dict:=none,data:=.set #[] 0 (.fresh 0 0 led)}).objs.size=s.heap.objs.size+1:=Heap.size_push ..;have kp1:∀b o,s.heap.get? b=some o->(s.heap.push {cls:=.type "set", dict:=none,data:=.set #[] 0 (.fresh 0 0 led)}).get? b=some o:=λb o e=>Oi _ e
 unfold Builtin.«set.__init__» noKeywords
 wp_walk
 refine wpAny_of_eq JY ?_;show wpAny _ _ (isInstance (.ref l) (.type "frozenset")) _ _ _;refine wpAny_isInstance Xp JX ?_;simp only[QL,if_false];refine LA (wpAny_typeOf Xp ?_);rw[Lw (by decide)];generalize s.heap.push {cls:=.type "set", dict:=none,data:=.set #[] 0 (.fresh 0 0 led)}=h1 at *;refine LA (wpAny_pyIter_list hl1 ?_);refine LA (wpAny_runValue ?_);have ne1:s.heap.objs.size≠h1.objs.size:=by lia
 refine GQ (A:=A.in1.in1) (I:=h1.objs.size) (l:=l) (items:=items) hh hu ne1 (Nat.ne_of_gt ll) (O6 (by rw[Vh];exact XU ll)) hn ks items.size 0 {s with heap:=h1.push {cls:=.type "list_iterator", data:=.fields #[.ref l,.int 0 0]} } [] (by lia) (OE _) ⟨⟨_,Qu _ rfl,rfl,rfl⟩,hl1.push _⟩ (S0.ext (λo e=>Oi _ e) (by simp)) (Mw _) (λj v hj=>?_) (by simp) (by simp) λh' tk ys kp S yl yk yi=>?_
 ·obtain⟨c,e,q⟩:=hk j v hj;exact⟨c,e,kZ q λo e=>Oi _ (kp1 c o e)⟩
 ·refine Ma (Ma ⟨rfl,hQ h' tk ys (λb o e=>?_) S yl yk yi⟩);have lb:b<s.heap.objs.size:=Nn e;exact kp b o (O6 lb) (O6 (by rw[Vh];exact XU lb)) (Oi _ (kp1 b o e))
end
theorem qR{α:Type}:∀(l:List α) (i:Nat) (h:i<l.length),(l[i]::l.eraseIdx i).Perm l
 |[],_,h=>absurd h (Nat.not_lt_zero _)
 |x::l,0,_=>W9 _
 |x::l,i+1,h=>by have r:=qR l i (by simpa using h);show(l[i]'(by simpa using h)::x::l.eraseIdx i).Perm (x::l);exact(List.Perm.swap x _ _).trans (List.Perm.cons x r)
theorem zE{α:Type}(next:Nat->Nat):∀(fuel k:Nat) (left:List α) (out:Array α),left.length=fuel->(pickOrder.go next fuel k left out).toList.Perm (out.toList++left)
 |0,k,left,out,e=>by have:left=[]:=List.length_eq_zero_iff.mp e;subst this;simp[pickOrder.go]
 |fuel+1,k,left,out,e=>by
  have hp:0<left.length:=by lia
  have hm:next k % left.length<left.length:=P9 _ hp;unfold pickOrder.go;rw[MZ hm];dsimp only;have r:=zE next fuel (k+1) (left.eraseIdx (next k % left.length)) (out.push left[next k % left.length]) (by rw[List.length_eraseIdx,Lx hm];lia);refine r.trans ?_;rw[VI,Pn];exact(List.perm_append_left_iff _).mpr (qR left _ hm)
def CS{α:Type}(next:Nat->Nat)(xs:Array α):(pickOrder next xs).toList.Perm xs.toList:=by have:=zE next xs.size 0 xs.toList #[] (by simp);simpa [pickOrder]using this
def Ae(hr:iP xs):below xs 0=0:=by
 obtain⟨h1,h2,h3⟩:=jc hr 0;rcases Nat.eq_zero_or_pos (below xs 0)with z|z
 ·exact z
 ·have:=h2 0 z;lia
def Ad(hr:iP xs){a j:Nat}(h:xs[a]?=some j):below xs (j+1)=a+1:=by
 obtain⟨h1,h2,h3⟩:=jc hr (j+1);obtain⟨la,ea⟩:=UR.mp h;have ga:xs.getD a 0=j:=by simp[Array.getD,la,ea]
 rcases XW (below xs (j+1)) (a+1)with z|z|z
 ·have:=h3 a (by lia) la
  lia
 ·exact z
 ·have q:=h2 (a+1) z;have lb:a+1<xs.size:=by lia
  have:=hr a (a+1) (by lia) lb
  lia
def xi:Manifest.owners.lookup (String.ofList ['r','o','t','a','r','e','t','i','_','t','e','s'].reverse)=some Manifest.sig_set_iterator:=by kernel_rfl
def di:Slot "set_iterator" "__next__" "set_iterator.__next__" :=
 .of (owner := "set_iterator") (n := "__next__") (by rw[typeLookup_type,builtinLookup_eq_fast];kernel_rfl) (by decide +kernel) (by decide +kernel) (by decide +kernel) (.inl (by decide +kernel)) (by rw[isSubtype_type];kernel_rfl)
def nS:Slot "set_iterator" "__iter__" "set_iterator.__iter__" :=
 .of (owner := "set_iterator") (n := "__iter__") (by rw[typeLookup_type,builtinLookup_eq_fast];kernel_rfl) (by decide +kernel) (by decide +kernel) (by decide +kernel) (.inl (by decide +kernel)) (by rw[isSubtype_type];kernel_rfl)
def mQ:entryFor table "set_iterator.__next__" = some Builtin.«set_iterator.__next__»:=entryFor_of_tree (by kernel_rfl)
def uM:entryFor table "set_iterator.__iter__" = some Builtin.«dict_keyiterator.__iter__»:=entryFor_alias (id' := "dict_keyiterator.__iter__") (by kernel_rfl) rfl (by decide +kernel) (by kernel_rfl)
def wK:entryFor table "set.__iter__" = some Builtin.«frozenset.__iter__»:=entryFor_alias (id' := "frozenset.__iter__") (by kernel_rfl) rfl (by decide +kernel) (by kernel_rfl)
def m5 (a:Value):argsOk "set_iterator.__next__" ⟨[a],[]⟩:=by unfold argsOk;rw[signature?_of (id := "set_iterator.__next__") (n:=['_','_','t','x','e','n','_','_']) (o:=['r','o','t','a','r','e','t','i','_','t','e','s']) (by kernel_rfl) xi];kernel_rfl
def vR (a:Value):argsOk "set_iterator.__iter__" ⟨[a],[]⟩:=by unfold argsOk;rw[signature?_of (id := "set_iterator.__iter__") (n:=['_','_','r','e','t','i','_','_']) (o:=['r','o','t','a','r','e','t','i','_','t','e','s']) (by kernel_rfl) xi];kernel_rfl
noncomputable def eS (w:World) (a:Addr) (es:Array (Int×Value)) (ep:Nat):Array (Int×Value):=if w.params.followText "set-order" = true then pickOrder (w.params.setOrder a ep) es else es
def pF(w:World)(a:Addr)(es:Array (Int×Value))(ep:Nat):(eS w a es ep).toList.Perm es.toList:=by
 unfold eS;split
 ·exact CS _ _
 ·exact W9 _
def kO(w:World)(a:Addr)(es:Array (Int×Value))(ep:Nat):(eS w a es ep).size=es.size:=by have:=(pF w a es ep).length_eq;simpa using this
def sC(w:World)(h:Heap)(I a:Addr)(t:SetTable)(n ep i:Nat):Prop :=
 ∃ o slot,h.get? I=some o/\o.cls=.type "set_iterator" /\ o.data=.fields #[.int (slot:Nat) 0,.int (i:Nat) 0,.ref a,.int (n:Nat) 0,.int (ep:Nat) 0]/\(w.params.followText "set-order" = false->below t.place slot=i)
section
variable{prog:Program}{w:World}{A:Around}{E:yaa}{s:Shared}
def tP (x:sC w s.heap I a t n ep i):s.TypeIs (.ref I) "set_iterator" := by obtain⟨o,_,ho,hc,_⟩:=x;exact⟨o,ho,hc⟩
def rP{a:Addr}{o:Obj}{es:Array (Int×Value)}{ep slot i:Nat}{t:SetTable}{hs:yaf}{Q:Option (Value×Nat)->Shared->Prop}(ho:s.heap.get? a=some o)(hd:o.data=.set es ep t)(T:Tab t hs)(he:hs.length=es.size)
  (M9:t.plain=true/\t.led=!w.params.followText "set-order") (hb:w.params.followText "set-order" = false->below t.place slot=i)
  (hQ:∀z,(eS w a es ep)[i]?.map (·.2)=z.map (·.1)->(∀p,z=some p->w.params.followText "set-order" = false->below t.place p.2=i+1)->Q z s):wpAny (model prog w) A (setNext a slot i ep) Q E s:=by
 have fits:t.fits es.size=true:=by rw[<- he];exact T.fits
 unfold setNext;refine LA (Ss ho hd fits ?_);dsimp only;unfold setsByText;refine LA (LA (XZ (Ma ?_)));show wpAny _ _ (if w.params.followText "set-order" = true then _ else _) _ _ _;by_cases hf:w.params.followText "set-order" = true
 ·rw[Lx hf];simp only[bne_self_eq_false,QL,if_false];unfold setWalk setsByText;refine LA (LA (Ss ho hd fits ?_));dsimp only;refine LA (LA (XZ (Ma ?_)));show wpAny _ _ (if w.params.followText "set-order" = true then _ else _) _ _ _;rw[Lx hf];refine LA (XZ (Ma ?_));show wpAny _ _ (pure _) _ _ _;refine Ma (hQ _ ?_ ?_)
  ·unfold eS;rw[Lx hf];show _=Option.map _ (Option.map _ (pickOrder (w.params.setOrder a ep) es)[i]?);cases(pickOrder (w.params.setOrder a ep) es)[i]?<;>rfl
  ·intro p _ h;rw[hf]at h;cases h
 ·have Zb:w.params.followText "set-order" = false:=by simpa using hf
  rw[Lw hf];split
  ·rename_i h;have h':(!t.plain && decide (es.size > 1))=true:=h;rw[M9.1]at h';simp at h'
  ·refine LA ?_;show wpAny _ _ (if(!t.led && !es.isEmpty)=true then unsupported "set:maker-not-led" else pure ()) _ _ _;rw[Lw (by rw[M9.2,Zb];simp)];refine Ma (Ma (hQ _ ?_ ?_))
   ·unfold eS;rw[Lw hf,hb Zb];cases e:es[i]? with
    |none=>rfl
    |some z =>
     have li:i<es.size:=(UR.mp e).1;have e2:t.place[i]?=some (t.place[i]'(by rw[T.len,he];exact li)):=RH _;rw[e2];rfl
   ·intro p hp _;rw[hb Zb]at hp;split at hp
    ·rename_i j e;cases hp;exact Ad T.rise e
    ·cases hp
def Hv{o:Obj}{x:Int×Value}{Q:yan->Shared->Prop}(ho:s.heap.get? a=some o)(hd:o.data=.set es ep t)(T:Tab t hs)(he:hs.length=es.size)
  (M9:t.plain=true/\t.led=!w.params.followText "set-order") (st:sC w s.heap I a t es.size ep i) (hx:(eS w a es ep)[i]?=some x)
  (hQ:∀h',sC w h' I a t es.size ep (i+1)->Heap.SameBut I s.heap h'->Q (some x.2) {s with heap:=h'}):wpAny (model prog w) A (pyNext (.ref I)) Q E s:=by
 obtain⟨oi,slot,Xq,hci,Wt,hb⟩:=id st;have hT:=tP st;have fits:t.fits es.size=true:=by rw[<- he];exact T.fits
 unfold pyNext;refine LA (wpAny_attempt (wpAny_callSpecial?_slot (name:=Str.ofString "__next__") hT di (X0 di hT mQ ?_ (m5 _))));unfold Builtin.«set_iterator.__next__»;refine LA (m:=slotArgs "__next__" 0 ⟨[.ref I],[]⟩) (Ma ?_);dsimp only;refine LA (wpAny_fieldsOf Xq Wt ?_);dsimp only;unfold setEntries;refine LA (LA (Ss ho hd fits (Ma ?_)));dsimp only;rw[Lw (by simp)];simp only[Int.toNat_natCast];refine LA (rP ho hd T he M9 hb λz hz hn=>?_);rw[hx]at hz;cases z with
 |none=>cases hz
 |some p =>
  obtain⟨v,nx⟩:=p;have ev:x.2=v:=ON hz;subst ev;dsimp only;refine LA (wpAny_setField Xq Wt (by simp) ?_);have h1:=VE (Obj.mapFields (·.setIfInBounds 0 (rawInt (nx:Nat)))) Xq (Obj.isFreed_of_fields (Obj.data_mapFields Wt _));have d1:=Obj.data_mapFields Wt (·.setIfInBounds 0 (rawInt (nx:Nat)));refine LA (wpAny_setField h1 d1 (by simp) ?_);refine Ma ⟨_,rfl,Ma (hQ _ ⟨_,nx,VE _ h1 (Obj.isFreed_of_fields (Obj.data_mapFields d1 _)),(Obj.cls_mapFields ..).trans ((Obj.cls_mapFields ..).trans hci),?_,hn _ rfl⟩ ((WT ..).trans (WT ..)))⟩;rw[Obj.data_mapFields d1];simp[rawInt]
def JV{o:Obj}{Q:yan->Shared->Prop}(hh:A.handled=none)(ho:s.heap.get? a=some o)(hd:o.data=.set es ep t)(T:Tab t hs)(he:hs.length=es.size)
  (M9:t.plain=true/\t.led=!w.params.followText "set-order") (st:sC w s.heap I a t es.size ep i) (hx:(eS w a es ep)[i]?=none)
  (hQ:∀h',Heap.ExtBut I s.heap h'->Q none {s with heap:=h'}):wpAny (model prog w) A (pyNext (.ref I)) Q E s:=by
 obtain⟨oi,slot,Xq,hci,Wt,hb⟩:=id st;have hT:=tP st;have fits:t.fits es.size=true:=by rw[<- he];exact T.fits
 unfold pyNext;refine LA (wpAny_attempt (wpAny_callSpecial?_slot (name:=Str.ofString "__next__") hT di (X0 di hT mQ ?_ (m5 _))));unfold Builtin.«set_iterator.__next__»;refine LA (m:=slotArgs "__next__" 0 ⟨[.ref I],[]⟩) (Ma ?_);dsimp only;refine LA (wpAny_fieldsOf Xq Wt ?_);dsimp only;unfold setEntries;refine LA (LA (Ss ho hd fits (Ma ?_)));dsimp only;rw[Lw (by simp)];simp only[Int.toNat_natCast];refine LA (rP ho hd T he M9 hb λz hz hn=>?_);rw[hx]at hz;cases z with
 |some p=>cases hz
 |none =>
  dsimp only;refine LA (wpAny_setField Xq Wt (by simp) ?_);show wpAny _ _ (newExc (.type "StopIteration") [] >>= _) _ _ _;refine LA ?_;simp only[newExc,newTuple];refine LA (WX ?_ (by size_fits));refine LA (m:=firstArgMember _ _) (wpAny_of_eq (a:=Value.none) (by first|rfl|(simp only[firstArgMember];rfl)) ?_);refine WX ?_ (by size_fits);simp only[raiseNew];refine LA (wpAny_handled ?_);rw[show A.in1.handled=none from hh];refine LA (Ma (wpAny_throw ?_));refine LA (wpAny_isInstance (T := "StopIteration") (b:=true) ⟨_,Qu _ rfl,rfl⟩ isSubtype_stop ?_);exact Ma (hQ _ (((WT ..).extBut.push _).push _))
def Hw{Q:yaa}(st:sC w s.heap I a t n ep i)(h:Q (.ref I) s):wpAny (model prog w) A (pyIter (.ref I)) Q E s:=by have hT:=tP st;refine wpAny_pyIter_slot hT nS (X0 nS hT uM ?_ (vR _));show wpAny _ _ (ret (.ref I)) _ _ s;exact Ma ⟨_,rfl,"set_iterator", _,hT,di.lookup,h⟩
def Ds (hh:A.handled=none) (I a:Addr) (NK:a≠I) {o:Obj} (hd:o.data=.set es ep t) (T:Tab t hs) (he:hs.length=es.size) (M9:t.plain=true/\t.led=!w.params.followText "set-order") :
  Walks prog w A I [I,a] [I] es.size (λi v=>∃x,(eS w a es ep)[i]?=some x/\x.2=v) (λi h=>sC w h I a t es.size ep i/\h.get? a=some o) where
 sub:=λb hb=>by simp at hb;simp[hb]
 frame:=λ_ _ _ st hk=>⟨by obtain⟨⟨o,sl,ho,r⟩,_⟩:=st;exact⟨o,sl,hk I (by simp) o ho,r⟩,hk a (by simp) o st.2⟩
 item:=λi s Q E hi st hQ=>by
  have lw:i<(eS w a es ep).size:=by rw[kO];exact hi
  refine Hv st.2 hd T he M9 st.1 (RH lw) λh' st' sb=>?_
  exact hQ _ h' s.toks ⟨_,RH lw,rfl⟩ ⟨st',sb.extBut a o NK st.2⟩ λb o hb e=>sb.extBut b o (λh=>hb (by simp[h])) e
 done:=λs Q E st hQ=>JV hh st.2 hd T he M9 st.1 (by rw[ZO];rw[kO];exact Mw _) λh' sb=>hQ h' s.toks λb o hb e=>sb b o (λh=>hb (by simp[h])) e
 self:=λ_ _ _ _ st hQ=>Hw st.1 hQ
def Ef {o:Obj} {Q:yaa} (ho:s.heap.get? a=some o) (hc:o.cls=.type "set") (hd:o.data=.set es ep t) (T:Tab t hs) (he:hs.length=es.size) (M9:t.plain=true)
  (hQ:Q (.ref s.heap.objs.size) {s with heap:=s.heap.push {cls:=.type "set_iterator", data:=.fields #[.int 0 0,.int 0 0,.ref a,.int (es.size:Nat) 0,.int (ep:Nat) 0]} }):wpAny (model prog w) A (pyIter (.ref a)) Q E s:=by
 have hT:s.TypeIs (.ref a) "set" := ⟨o,ho,hc⟩;have fits:t.fits es.size=true:=by rw[<- he];exact T.fits
 refine wpAny_pyIter_slot hT F.slot_set_iter (X0 F.slot_set_iter hT wK ?_ (F.args_set_iter_1 _));unfold Builtin.«frozenset.__iter__»;refine LA (m:=Builtin.Frozenset.slot0 "__iter__" ⟨[.ref a],[]⟩) (Ma ?_);unfold Builtin.Frozenset.sizeOf setEntries setDrawn setEpoch setsByText;refine LA (LA (LA (Ss ho hd fits (Ma (Ma ?_)))));refine LA (LA (Ss ho hd fits ?_));dsimp only;refine LA (LA (XZ (Ma (Ma ?_))));split
 ·rename_i h;have h':(!(w.params.followText "set-order") && (!t.plain && decide (es.size > 1)))=true:=h;rw[M9]at h';simp at h'
 ·refine LA (Ma ?_);refine LA (LA (Ss ho hd fits (Ma ?_)));unfold newFields;refine LA (WX ?_ (by size_fits));exact Ma ⟨_,rfl,"set_iterator", _,⟨_,Qu _ rfl,rfl⟩,di.lookup,hQ⟩
def ye {o:Obj} {Q:yad->Shared->Prop} (hh:A.handled=none) (ho:s.heap.get? a=some o) (hc:o.cls=.type "set") (hd:o.data=.set es ep t) (T:Tab t hs) (he:hs.length=es.size) (M9:t.plain=true/\t.led=!w.params.followText "set-order") (hn:es.size<=1000)
  (hQ:∀s' (acc:yad),(∀b o,s.heap.get? b=some o->s'.heap.get? b=some o)->s'.gens=s.gens->s'.drawn=s.drawn->s'.os=s.os->s.heap.objs.size<=s'.heap.objs.size->acc=(eS w a es ep).toList.map (·.2)->Q acc s'):wpAny (model prog w) A (collect (.ref a)) Q E s:=by
 unfold collect;have la:a<s.heap.objs.size:=Nn ho;refine LA (wpAny_runValue (VQ F.entry_proto_collect ?_));rw[Around.under_plainId F.plain_proto_collect _];show wpAny _ A.in1 (newList [] >>= λl=>again (.builtin "list.__iadd__" ⟨[l,.ref a],[]⟩)) _ _ s;refine LA (WX ?_);refine Ma ⟨plainId_quiet F.plain_list_iadd _,VQ F.entry_list_iadd ?_⟩;rw[Around.under_plainId F.plain_list_iadd _];show wpAny _ A.in1 (Builtin.List.listExtendWith (.ref s.heap.objs.size) (.ref a) (.ref s.heap.objs.size)) _ _ _;generalize hH:s.heap.push {cls:=.type "list", data:=.seq ([]:yad).toArray}=H;have hHs:H.objs.size=s.heap.objs.size+1:=by rw[<- hH,Heap.size_push]
 have Vp:H.get? a=some o:=hH ▸ Oi _ ho;have hT:Shared.TypeIs {s with heap:=H} (.ref a) "set" := ⟨o,Vp,hc⟩;unfold Builtin.List.listExtendWith;refine LA (wpAny_typeOf hT ?_);have h1:Builtin.List.listSameRef (.ref s.heap.objs.size) (.ref a)=false:=by have:s.heap.objs.size≠a:=Nat.ne_of_gt la;simp[Builtin.List.listSameRef,this]
 have h2:(Value.type "set" == Value.type "list")=false:=by decide
 have h3:(Value.type "set" == Value.type "tuple")=false:=by decide
 simp only[h1,h2,h3,Bool.or_false,QL,if_false];refine LA (Ef Vp hc hd T he M9.1 ?_);generalize Ux:H.push {cls:=.type "set_iterator", data:=.fields #[.int 0 0,.int 0 0,.ref a,.int (es.size:Nat) 0,.int (ep:Nat) 0]}=H2;have Xp:Shared.TypeIs {s with heap:=H2} (.ref a) "set" := ⟨o,Ux ▸ Oi _ Vp,hc⟩;refine LA (QN ?_);unfold Builtin.List.listLengthHint;refine LA (wpAny_specialOf Xp F.slot_set_len.lookup ?_)
 wp_delta
 refine LA (wpAny_isInstance (T := "set") (b:=true) Xp (by rw[isSubtype_type];kernel_rfl) ?_);show wpAny _ A.in1 (typeOf (Value.ref a) >>= _) _ _ _;refine LA (wpAny_typeOf Xp ?_);refine Ma ?_;rw[Lx (by decide)];show wpAny _ A.in1 (rule "list.extend.makes-room" >>= λ_=>Builtin.List.listTouch (.ref s.heap.objs.size) >>= λ_ =>
  again (.builtin "list.extend.loop" ⟨[.ref s.heap.objs.size,.ref H.objs.size,.ref s.heap.objs.size],[]⟩)) _ _ _
 refine LA (wpAny_rule ?_);refine LA ?_;show wpAny _ A.in1 (updateSeq s.heap.objs.size (·.push .none) >>= λ_=>updateSeq s.heap.objs.size (·.pop)) _ _ _;have hS:H2.get? s.heap.objs.size=some {cls:=.type "list", data:=.seq ([]:yad).toArray}:=Ux ▸ Oi _ (hH ▸ Qu _ rfl);refine LA (wpAny_updateSeq hS rfl ?_);have Vq:=VE (Obj.mapSeq (·.push Value.none)) hS rfl;refine wpAny_updateSeq (hz:=by seq_fits) Vq rfl ?_;have Zc:=VE (Obj.mapSeq (·.pop)) Vq rfl;have Rr:∀b o,b≠s.heap.objs.size->H2.get? b=some o->((H2.update s.heap.objs.size (Obj.mapSeq (·.push Value.none))).update s.heap.objs.size (Obj.mapSeq (·.pop))).get? b=some o :=
  λb o hb e=>(VD _ _ (Ne.symm hb)).trans ((VD _ _ (Ne.symm hb)).trans e)
 have hI:H2.get? H.objs.size=some {cls:=.type "set_iterator", data:=.fields #[.int 0 0,.int 0 0,.ref a,.int (es.size:Nat) 0,.int (ep:Nat) 0]}:=Ux ▸ Qu _ rfl;have nSI:H.objs.size≠s.heap.objs.size:=by lia
 have naI:a≠H.objs.size:=O6 (by rw[hHs];exact XU la);have hSf:s.heap.objs.size ∉ [H.objs.size,a]:=λhm=>by
  rcases L9.mp hm with z|z
  ·exact nSI z.symm
  ·exact absurd (NI.mp z) (Nat.ne_of_gt la)
 have W:=Ds (prog:=prog) (w:=w) (A:=A.in1) hh H.objs.size a naI hd T he M9;refine Ma ⟨plainId_quiet F.plain_extend_loop _,codeAny_extend_loopS W.toS (by rw[sizeLine_eq];lia) _ hSf _ es.size 0 _ _ _ rfl (OE _)
  ⟨⟨_,0,Rr _ _ nSI hI,rfl,rfl,λ_=>Ae T.rise⟩,Rr _ _ (O6 la) (Ux ▸ Oi _ Vp)⟩ Zc (ItemsOf.nil _) λs' Zd c' hm hS' Uy=>?_⟩
 show wpAny _ A (load s.heap.objs.size >>= _) _ _ s';refine LA (wpAny_load hS' ?_);have big:∀b o,s.heap.get? b=some o->s'.heap.get? b=some o:=λb ob e=>by
  have lb:=Nn e;refine hm.heap b ob (λhb=>?_) (Rr _ _ (O6 lb) (Ux ▸ Oi _ (hH ▸ Oi _ e)));rcases L9.mp hb with z|z
  ·exact absurd lb (z ▸ Su _)
  ·rw[NI.mp z,hHs]at lb;exact absurd lb (Sv.mpr (Nat.le_succ _))
 refine Ma (hQ s' Zd.toList big hm.gens hm.drawn hm.os (S4 (Nn hS')) ?_);obtain⟨q1,q2⟩:=Uy;apply List.ext_getElem?;intro j;rw[NH,OD,NH];by_cases lj:j<es.size
 ·have l1:j<Zd.size:=by lia
  obtain⟨x,ex,ev⟩:=q2 j _ (RH l1);rw[RH l1,ex];simp[ev]
 ·rw[ZO (by lia),ZO (by rw[kO];lia)];rfl
end
end SW
namespace SS
open PySem PySem.W PyProof.Rows
def good{α:Type}(r:Nat->Nat)(n:Nat)(G:α->Prop):KasT α->Prop
 |.ret a=>G a
 |.ask i j k=>i<n/\j<n/\good r n G (k (decide (r i<r j)))
section
variable{r:Nat->Nat}{n:Nat}
def v(r:Nat->Nat)(p:yap)(k:Nat):Nat:=r (p.getD k 0)
def S(r:Nat->Nat)(p:yap)(k:Nat):Prop:=∀i j,i<=j->j<k->v r p i<=v r p j
def D(r:Nat->Nat)(p:yap)(k:Nat):Prop:=∀i j,i<=j->j<k->v r p j<=v r p i
structure Ok(n:Nat)(p:yap):Prop where
 perm:p.Perm (List.toArray (List.range n))
end
end SS
namespace SW
open PySem PySem.SetTable ST PySem.W PyProof.Rows
noncomputable def lexLt:yaf->yaf->Bool
 |_,[]=>false
 |[],_::_=>true
 |a::x,b::y=>if a=b then lexLt x y else decide (a<b)
theorem nC:∀x,lexLt x x=false
 |[]=>rfl
 |a::x=>by unfold lexLt;rw[Lx rfl];exact nC x
theorem o9:∀x y z,lexLt x y=true->lexLt y z=true->lexLt x z=true
 |_,[],_,h,_=>by unfold lexLt at h;cases h
 |_,_::_,[],_,h=>by unfold lexLt at h;cases h
 |[],_::_,_::_,_,_=>rfl
 |a::x,b::y,c::z,h1,h2=>by
  unfold lexLt at h1 h2 ⊢;split at h1<;>split at h2
  ·rename_i e1 e2;rw[Lx (e1.trans e2)];exact o9 x y z h1 h2
  ·rename_i e1 e2;subst e1;rw[Lw e2];exact h2
  ·rename_i e1 e2;subst e2;rw[Lw e1];exact h1
  ·have q1:a<b:=by simpa using h1
   have q2:b<c:=by simpa using h2
   rw[Lw (by omega)];simp;omega
theorem kA:∀x y,lexLt x y=false->x=y∨lexLt y x=true
 |[],[],_=>.inl rfl
 |[],_::_,h=>by unfold lexLt at h;cases h
 |_::_,[],_=>.inr rfl
 |a::x,b::y,h=>by
  unfold lexLt at h ⊢;split at h
  ·rename_i e;subst e;rw[Lx rfl];rcases kA x y h with z|z
   ·exact .inl (by rw[z])
   ·exact .inr z
  ·rename_i e;have q:¬a<b:=by simpa using h
   right
   rw[Lw (λz=>e z.symm)];simp
   lia
theorem wx{α:Type}(p q:α->Bool):∀l:List α,(∀z∈l,p z=true->q z=true)->(∃z∈l,p z=false/\q z=true)->l.countP p<l.countP q
 |[],_,⟨_,h,_⟩=>by cases h
 |x::l,h,⟨z,hz,e1,e2⟩=>by
  rw[List.countP_cons,List.countP_cons];have le:l.countP p<=l.countP q:=List.countP_mono_left λz hz=>h z (MO _ hz)
  rcases L9.mp hz with y|y
  ·subst y;rw[e1,e2];simp;omega
  ·have ih:=wx p q l (λz hz=>h z (MO _ hz)) ⟨z,y,e1,e2⟩;by_cases px:p x=true
   ·have:=h x O0 px;simp[px,this];omega
   ·have px':p x=false:=by simpa using px
    rw[px'];cases q x with
    |true=>simp;omega
    |false=>simpa using ih
def rank(K:List (yaf))(x:yaf):Nat:=K.countP λy=>lexLt y x
def zG{K:List (yaf)}{x y:yaf}(hx:x∈K)(hy:y∈K):decide (rank K x<rank K y)=lexLt x y:=by
 have up:∀a b,a∈K->lexLt a b=true->rank K a<rank K b:=λa b ha h=>wx _ _ K (λz _ hz=>o9 z a b hz h) ⟨a,ha,nC a,h⟩
 cases e:lexLt x y with
 |true=>simpa using up x y hx e
 |false =>
  rcases kA x y e with z|z
  ·subst z;simp
  ·have:=up y x hy z;simp
   lia
section
variable{prog:Program}{w:World}{A:Around}{E:yaa}{s:Shared}
def Jp{fin:Bool}{Q:Bool->Shared->Prop}:∀{k k':yaf} {us vs:yad} (i:Nat),PySem.ItemsAre (intKind prog w) k us->PySem.ItemsAre (intKind prog w) k' vs->fin=decide (k.length<k'.length)->Q (lexLt k k') s->KatLex prog w A b fin Q (us.zip vs) i s:=by
 intro k k' us vs i h
 induction h generalizing k' vs i with
 |nil =>
  intro h' ef q;refine kat_nil ?_;cases h' with
  |nil=>rw[ef];exact q
  |cons _ _=>rw[ef];exact q
 |@cons a u x us h1 t1 ih =>
  intro h' ef q;cases h' with
  |nil=>refine kat_nil ?_;rw[ef];exact q
  |@cons c u' y vs h2 t2 =>
   obtain⟨t,rfl⟩:=Value.isInt_shape h1;obtain⟨t',rfl⟩:=Value.isInt_shape h2;refine kat_cons (wpAny_eqBool_int ?_);by_cases e:a=c
   ·subst e;rw[show(a==a)=true by simp];refine kat_yes (ih (i+1) t2 ?_ ?_)
    ·rw[ef];simp
    ·unfold lexLt at q;rw[Lx rfl]at q;exact q
   ·rw[show(a==c)=false by simp[e]];unfold lexLt at q;rw[Lw e]at q;refine kat_no ?_;cases(b && i==0)with
    |true=>exact oneLt_int q
    |false=>exact kat_one _ _ (PySem.P.lt_int q)
def BC{Q:Bool->Shared->Prop}(hx:(TK prog w).is s.heap k x)(hy:(TK prog w).is s.heap k' y)(q:Q (lexLt k k') s):wpAny (model prog w) A (keyLt' (tuples' b) (.ref x) (.ref y)) Q E s:=by
 obtain⟨o,items,n,ho,hc,hd,hi⟩:=hx;obtain⟨o',Wu,n',Pq,RO,Rf,hi'⟩:=hy;have len:∀{k:yaf} {us:yad},PySem.ItemsAre (intKind prog w) k us->k.length=us.length:=λh=>by
  induction h with
  |nil=>rfl
  |cons _ _ ih=>simp[ih]
 refine kat_lt ho hd Pq Rf (Jp 0 hi hi' ?_ q);rw[len hi,len hi',P6,P6]
theorem zS:∀{cs:yae} (K:Nat->yaf) (off:Nat),(∀(j:Nat) (c:Addr),cs[j]?=some c->(TK prog w).is s.heap (K (off+j)) c/\K (off+j) ≠ [])->∃fs,KatTups s.heap (cs.map Value.ref) fs/\fs.length=cs.length/\∀v∈fs,∃n t,v=Value.int n t
 |[],_,_,_=>⟨[],KatTups.nil,rfl,λ_ h=>by cases h⟩
 |c::cs,K,off,h=>by
  obtain⟨fs,t,l,hi⟩:=zS (cs:=cs) K (off+1) λj c hj=>by have:=h (j+1) c hj;rw[show off+(j+1)=off+1+j by lia]at this;exact this
  obtain⟨⟨o,items,n,ho,hc,hd,hit⟩,ne⟩:=h 0 c rfl;rw[Nat.add_zero]at hit ne;generalize K off=k0 at hit ne;generalize hL:items.toList=L at hit;cases hit with
  |nil=>exact absurd rfl ne
  |@cons a u x us h1 t1 =>
   obtain⟨tk,rfl⟩:=Value.isInt_shape h1;refine⟨.int a tk::fs,KatTups.cons ho hc hd ?_ t,by simp[l],λv hv=>?_⟩
   ·rw[<- NH,hL];rfl
   ·rcases L9.mp hv with z|z
    ·exact⟨a,tk,z⟩
    ·exact hi v z
def yn{cs:yae}{K:Nat->yaf}{Q:SortKind->Shared->Prop}(NK:0<cs.length)(h:∀(j:Nat) (c:Addr),cs[j]?=some c->(TK prog w).is s.heap (K j) c/\K j ≠ [])(q:Q (tuples' true) s):wpAny (model prog w) A (keyKind' (cs.map Value.ref).toArray) Q E s:=by
 obtain⟨fs,t,l,hi⟩:=zS (s:=s) (cs:=cs) K 0 λj c hj=>by rw[QX];exact h j c hj
 refine kat_kind (T:=.type "int") t (by lia) (λv hv=>?_) (by decide) q;obtain⟨n,tk,rfl⟩:=hi v hv;exact Looks.of_pure rfl
def xo{α β:Type}{f:α->β}{l m:List β}(h:l.Perm m):∀xs:List α,m=xs.map f->∃zs:List α,zs.Perm xs/\l=zs.map f:=by
 induction h with
 |nil=>intro xs e;exact⟨xs,W9 _,e⟩
 |cons a _ ih =>
  intro xs e;cases xs with
  |nil=>cases e
  |cons x xs =>
   rw[MR]at e;injection e with e1 e2;obtain⟨zs,p,q⟩:=ih xs e2;exact⟨x::zs,p.cons x,by rw[MR,q,e1]⟩
 |swap a b l =>
  intro xs e
  match xs,e with
  |[],e=>cases e
  |[_],e=>simp at e
  |x::y::xs,e =>
   simp only[MR,PQ]at e;obtain⟨e1,e2,e3⟩:=e;exact⟨y::x::xs,List.Perm.swap x y xs,by simp only[MR];rw[e1,e2,e3]⟩
 |trans _ _ ih1 Xr =>
  intro xs e;obtain⟨zs,p,q⟩:=Xr xs e;obtain⟨zs',p',q'⟩:=ih1 zs q;exact⟨zs',p'.trans p,q'⟩
end
end SW
namespace TS
open PySem PyProof.Rows
def gal:Bool->Keyed->Array Keyed->Nat->Nat->Nat->StateT SortSt Sem (Option Nat):=sortPriv% PySem.Builtin.gallop
def mLo:Array Keyed->Array Keyed->StateT SortSt Sem (Array Keyed):=sortPriv% PySem.Builtin.mergeLo
def mHi:Array Keyed->Array Keyed->StateT SortSt Sem (Array Keyed):=sortPriv% PySem.Builtin.mergeHi
def EV:Nat->StateT SortSt Sem Unit:=sortPriv% PySem.Builtin.setMinGallop
structure SG(M:Model)(A:Around)(E:yaa)(s:Shared)(r:Keyed->Nat)(Mem:Keyed->Prop)(k0:SortKind):Prop where
 lt:∀(x y:Keyed) (st:SortSt) (Q:Option Bool->SortSt->Prop),Mem x->Mem y->kindOf st=k0->Q (some (decide (r x<r y))) st->wpS M A E s (lt' x y) Q st
def KS(B:Nat->Bool)(n:Nat):Prop:=∀i j,i<=j->j<n->B j=true->B i=true
structure Cut(B:Nat->Bool)(n k:Nat):Prop where
 le:k<=n
 lo:∀i,i<k->B i=true
 hi:∀i,k<=i->i<n->B i=false
section
variable{M:Model}{A:Around}{E:yaa}{s:Shared}{r:Keyed->Nat}{Mem:Keyed->Prop}{k0:SortKind}
def bc{arr:Array Keyed}{i:Nat}{x:Keyed}{Q:Keyed->SortSt->Prop}{st:SortSt}(h:arr[i]?=some x)(q:Q x st):wpS M A E s (elem' arr i) Q st:=by rw[elem'_eq,h];exact Mm q
def wpS_ltAt{st:SortSt}{i j:Nat}{x y:Keyed}{Q:Option Bool->SortSt->Prop}(C:SG M A E s r Mem k0)(hk:kindOf st=k0)(hi:(arrOf st)[i]?=some x)(hj:(arrOf st)[j]?=some y)(mx:Mem x)(my:Mem y)
  (h:Q (some (decide (r x<r y))) st):wpS M A E s (ltAt' i j) Q st:=by
 rw[ltAt'_eq];refine LZ (wpS_get ?_);show wpS _ _ _ _ (do let x←elem' (arrOf st) i;let y←elem' (arrOf st) j;lt' x y) Q st;exact LZ (bc hi (LZ (bc hj (C.lt x y st Q mx my hk h))))
def QQ(r:Keyed->Nat)(left:Bool)(key x:Keyed):Bool:=if left=true then decide (r x<r key)else !decide (r key<r x)
def B8{arr:Array Keyed}{base n hint:Nat}{st:SortSt}{B:Nat->Bool}{Q:Option Nat->SortSt->Prop}(C:SG M A E s r Mem k0)(hk:kindOf st=k0)(hh:hint<n)(mk:Mem key)
  (hB:∀i,i<n->∃x,arr[base+i]?=some x/\Mem x/\QQ r left key x=B i) (mono:KS B n) (h:∀k,Cut B n k->Q (some k) st):wpS M A E s (gal left key arr base n hint) Q st:=by
 have Wv:∀(i:Nat) (R:Option Bool->SortSt->Prop),i<n->R (some (B i)) st->wpS M A E s (do
   let x←elem' arr (base+i)
   if left=true then lt' x key else do
    let z←lt' key x
    pure (Option.map (λx=>!x) z)) R st:=λi R hi q=>by
  obtain⟨x,hx,mx,e⟩:=hB i hi;refine LZ (bc hx ?_);unfold QQ at e;cases left with
  |true =>
   rw[Lx rfl]at e ⊢;exact C.lt x key st R mx mk hk (by rw[e];exact q)
  |false =>
   rw[Lw (by simp)]at e ⊢;exact LZ (C.lt key x st _ mk mx hk (Mm (by rw[<- e]at q;exact q)))
 refine LZ (Wv hint _ hh ?_);cases hb:B hint
 case' true =>
  refine LZ (Qz (QY (I:=λx z st'=>st'=st/\∃l u,z=(none,l,u)/\hint+l<n/\B (hint+l)=true/\l<u/\x+1<=u)
   (Q:=λz st'=>st'=st/\∃l u,z=(none,l,u)/\hint+l<n/\B (hint+l)=true/\l<u/\(n - hint<=u∨B (hint+u)=false)) ?_ ?_ ⟨rfl,0,1,rfl,hh,hb,by decide,by decide⟩) ?_)
  ·rintro x z st' _ hx ⟨rfl,l,u,rfl,a1,a2,a3,a4⟩;dsimp only;split
   ·rename_i c;exact Mm ⟨rfl,l,u,rfl,a1,a2,a3,.inl c⟩
   ·rename_i c;refine LZ (Wv (hint+u) _ (by lia) ?_);dsimp only;cases hc:B (hint+u)with
    |false =>
     rw[Lx (by rfl)];exact Mm ⟨rfl,l,u,rfl,a1,a2,a3,.inr hc⟩
    |true =>
     rw[Lw (by simp)];exact Mm ⟨rfl,_,_,rfl,by lia,hc,by lia,by lia⟩
  ·rintro z st' ⟨rfl,l,u,rfl,a1,a2,a3,a4⟩;exact⟨rfl,l,u,rfl,a1,a2,a3,.inl (by lia)⟩
  rintro z st' ⟨e0,l,u,rfl,a1,a2,a3,a4⟩;rw[e0];dsimp only;have h1:hint+min u (n - hint)<=n:=by lia
  have h2:∀i,i<hint+l+1->i<n->B i=true:=λi hi hn=>mono i (hint+l) (by lia) a1 a2
  have h3:∀i,hint+min u (n - hint)<=i->i<n->B i=false:=λi hi hn=>by
   rcases a4 with c|c
   ·lia
   ·cases hc:B i with
    |false=>rfl
    |true=>rw[mono _ i (by lia) hn hc]at c;cases c
  have h4:hint+l+1<=hint+min u (n - hint):=by lia
  clear a1 a2 a3 a4;generalize hint+l+1=lo at h2 h4 ⊢;generalize hint+min u (n - hint)=hi at h1 h3 h4 ⊢
 case' false =>
  refine LZ (Qz (QY (I:=λx z st'=>st'=st/\∃l u,z=(none,l,u)/\l<=hint/\B (hint - l)=false/\l<u/\x+1<=u)
   (Q:=λz st'=>st'=st/\∃l u,z=(none,l,u)/\l<=hint/\B (hint - l)=false/\l<u/\(hint+1<=u∨(u<=hint/\B (hint - u)=true))) ?_ ?_ ⟨rfl,0,1,rfl,by lia,hb,by decide,by decide⟩) ?_)
  ·rintro x z st' _ hx ⟨rfl,l,u,rfl,a1,a2,a3,a4⟩;dsimp only;split
   ·rename_i c;exact Mm ⟨rfl,l,u,rfl,a1,a2,a3,.inl c⟩
   ·rename_i c;refine LZ (Wv (hint - u) _ (by lia) ?_);dsimp only;cases hc:B (hint - u)with
    |true =>
     rw[Lx rfl];exact Mm ⟨rfl,l,u,rfl,a1,a2,a3,.inr ⟨by lia,hc⟩⟩
    |false =>
     rw[Lw (by simp)];exact Mm ⟨rfl,_,_,rfl,by lia,hc,by lia,by lia⟩
  ·rintro z st' ⟨rfl,l,u,rfl,a1,a2,a3,a4⟩;exact⟨rfl,l,u,rfl,a1,a2,a3,.inl (by lia)⟩
  rintro z st' ⟨e0,l,u,rfl,a1,a2,a3,a4⟩;rw[e0];dsimp only;have h1:hint - l<=n:=by lia
  have h2:∀i,i<hint+1 - min u (hint+1)->i<n->B i=true:=λi hi hn=>by
   rcases a4 with c|⟨c,d⟩
   ·lia
   ·exact mono i (hint - u) (by lia) (by lia) d
  have h3:∀i,hint - l<=i->i<n->B i=false:=λi hi hn=>by
   cases hc:B i with
   |false=>rfl
   |true=>rw[mono _ i (by lia) hn hc]at a2;cases a2
  have h4:hint+1 - min u (hint+1)<=hint - l:=by lia
  clear a1 a2 a3 a4;generalize hint+1 - min u (hint+1)=lo at h2 h4 ⊢;generalize hint - l=hi at h1 h3 h4 ⊢
 all_goals
  refine LZ (Qz (QY (I:=λx z st'=>st'=st/\∃l u,z=(none,l,u)/\u<=n/\(∀i,i<l->i<n->B i=true)/\(∀i,u<=i->i<n->B i=false)/\l<=u/\u - l<=n - x)
   (Q:=λz st'=>st'=st/\∃l u,z=(none,l,u)/\Cut B n u) ?_ ?_ ⟨rfl,lo,hi,rfl,h1,h2,h3,h4,by lia⟩) ?_)
  ·rintro x z st' _ hx ⟨rfl,l,u,rfl,a1,a2,a3,a4,a5⟩;dsimp only;split
   ·exact Mm ⟨rfl,l,u,rfl,a1,λi hi=>a2 i (by lia) (by lia),a3⟩
   ·refine LZ (Wv (l+(u - l) / 2) _ (by lia) ?_);dsimp only;cases hb:B (l+(u - l) / 2)with
    |true =>
     rw[Lx rfl];exact Mm ⟨rfl,_,_,rfl,a1,λi hi hn=>mono i (l+(u - l) / 2) (by lia) (by lia) hb,a3,by lia,by lia⟩
    |false =>
     rw[Lw (by simp)];refine Mm ⟨rfl,_,_,rfl,by lia,a2,λi hi hn=>?_,by lia,by lia⟩;cases hc:B i with
     |false=>rfl
     |true=>rw[mono _ i hi hn hc]at hb;cases hb
  ·rintro z st' ⟨rfl,l,u,rfl,a1,a2,a3,a4,a5⟩;exact⟨rfl,l,u,rfl,a1,λi hi=>a2 i (by lia) (by lia),a3⟩
  ·rintro z st' ⟨rfl,l,u,rfl,c⟩;exact Mm (h _ c)
def gR{arr:Array Keyed}{base n hint:Nat}{st:SortSt}{Q:Option Nat->SortSt->Prop}(C:SG M A E s r Mem k0)(hk:kindOf st=k0)(hh:hint<n)(mk:Mem key){g:List Keyed}
  (hg:g.length=n) (ha:∀i,i<n->arr[base+i]?=g[i]?) (hm:∀x∈g,Mem x) (hs:g.Pairwise λx y=>r x<=r y)
  (h:∀k,k<=n->(∀x∈g.take k,QQ r left key x=true)->(∀x∈g.drop k,QQ r left key x=false)->Q (some k) st):wpS M A E s (gal left key arr base n hint) Q st:=by
 have get:∀i,i<n->∃x,g[i]?=some x/\x∈g:=λi hi=>⟨g[i]'(by omega),MZ (by omega),Qw _⟩
 refine B8 (B:=λi=>match g[i]? with|some x=>QQ r left key x|none=>false) C hk hh mk (λi hi=>?_) (λi j NO hj hb=>?_) λk c=>h k c.le (λx hx=>?_) λx hx=>?_
 ·obtain⟨x,e,m⟩:=get i hi;exact⟨x,by rw[ha i hi];exact e,hm x m,by rw[e]⟩
 ·dsimp only at hb ⊢;obtain⟨x,e,_⟩:=get i (by omega);obtain⟨y,f,_⟩:=get j hj;rw[e];rw[f]at hb;dsimp only at hb ⊢;by_cases c:i=j
  ·subst c;rw[e]at f;cases f;exact hb
  ·have lt:r x<=r y:=by
    obtain⟨h1,rfl⟩:=OC.mp e;obtain⟨h2,rfl⟩:=OC.mp f;exact RJ.mp hs i j h1 h2 (by omega)
   unfold QQ at hb ⊢;cases left with
   |true =>
    rw[Lx rfl]at hb ⊢;have:=OP hb;exact NL (by omega)
   |false =>
    rw[Lw (by simp)]at hb ⊢;have:¬r key<r y:=by simpa using hb
    simp;omega
 ·obtain⟨i,hi,e⟩:=List.mem_take_iff_getElem.mp hx;have:=c.lo i (by omega);rw[MZ (by omega)]at this;rw[<- e];exact this
 ·obtain⟨i,hi⟩:=List.mem_iff_getElem?.mp hx;rw[VG]at hi;obtain⟨h1,_⟩:=OC.mp hi;have:=c.hi (k+i) (by omega) (by omega);rw[hi]at this;exact this
end
structure MI(R:Keyed->Keyed->Prop)(T o a b:List Keyed):Prop where
 p:(o++(a++b)).Perm T
 so:o.Pairwise R
 sa:a.Pairwise R
 sb:b.Pairwise R
 oa:∀x∈o,∀y∈a,R x y
 ob:∀x∈o,∀y∈b,R x y
section
variable{R:Keyed->Keyed->Prop}{T o a b:List Keyed}
def MI.left{a1 a2:List Keyed}(h:MI R T o (a1++a2) b)(q:∀x∈a1,∀y∈b,R x y):MI R T (o++a1) a2 b where
 p:=by have:=h.p;rw[Pn]at this;rw[Pn];exact this
 so:=Sr.mpr ⟨h.so,(Sr.mp h.sa).1,λx hx y hy=>h.oa x hx y (Qj _ hy)⟩
 sa:=(Sr.mp h.sa).2.1
 sb:=h.sb
 oa:=λx hx y hy=>by
  rcases MC.mp hx with c|c
  ·exact h.oa x c y (Oq _ hy)
  ·exact(Sr.mp h.sa).2.2 x c y hy
 ob:=λx hx y hy=>by
  rcases MC.mp hx with c|c
  ·exact h.ob x c y hy
  ·exact q x c y hy
def MI.swap(h:MI R T o a b):MI R T o b a:=⟨(List.Perm.append_left _ List.perm_append_comm).trans h.p,h.so,h.sb,h.sa,h.ob,h.oa⟩
def MI.right{b1 b2:List Keyed}(h:MI R T o a (b1++b2))(q:∀y∈b1,∀x∈a,R y x):MI R T (o++b1) a b2:=(h.swap.left q).swap
def MI.last(h:MI R T o a b)(q:∀y∈b,∀x∈a,R y x):(o++b++a).Pairwise R/\(o++b++a).Perm T:=by
 have h':MI R T o a (b++[]):=by rw[QM];exact h
 have m:=h'.right q;refine⟨Sr.mpr ⟨m.so,m.sa,m.oa⟩,?_⟩;have:=m.p;rw[QM]at this;exact this
def MI.done(h:MI R T o a b)(q:a=[]∨b=[]):(o++a++b).Pairwise R/\(o++a++b).Perm T:=h.swap.last λx hx y hy=>by
 rcases q with q|q
 ·rw[q]at hx;cases hx
 ·rw[q]at hy;cases hy
def MI.start(h:a.Pairwise R)(h':b.Pairwise R):MI R (a++b) [] a b:=⟨W9 _,.nil,h,h',λ_ z=>(by cases z),λ_ z=>(by cases z)⟩
end
structure bU(st st':SortSt):Prop where
 k:kindOf st'=kindOf st
 a:arrOf st'=arrOf st
 p:pendingOf st'=pendingOf st
 f:failedOf st'=failedOf st
def bU.refl(st:SortSt):bU st st:=⟨rfl,rfl,rfl,rfl⟩
section
variable{M:Model}{A:Around}{E:yaa}{s:Shared}
def mM{st Xs:SortSt}{Q:Unit->SortSt->Prop}(h:bU Xs st)(q:∀st',bU Xs st'->Q () st'):wpS M A E s (EV g) Q st:=by show wpS M A E s (modify λst=>SortSt.mk' (kindOf st) (arrOf st) (pendingOf st) g (failedOf st)) Q st;exact TR (q _ ⟨h.k,h.a,h.p,h.f⟩)
end
section
variable{M:Model}{A:Around}{E:yaa}{s:Shared}{r:Keyed->Nat}{Mem:Keyed->Prop}{k0:SortKind}
def aI{σ α:Type}{c:Prop} [Decidable c] {x y:StateT σ Sem α}{Q:α->σ->Prop}{st:σ}(h1:c->wpS M A E s x Q st)(h2:¬c->wpS M A E s y Q st):wpS M A E s (if c then x else y) Q st:=by
 by_cases h:c
 ·rw[Lx h];exact h1 h
 ·rw[Lw h];exact h2 h
def et{l:List Keyed}{i:Nat}(h:i<l.length):∃x,l[i]?=some x/\l.drop i=x::l.drop (i+1)/\x∈l:=⟨l[i],MZ h,Ub h,Qw h⟩
def kW{l:List Keyed}{x:Keyed}(hs:(l.drop i).Pairwise λx y=>r x<=r y)(e:l.drop i=x::l.drop (i+1)):∀y∈l.drop i,r x<=r y:=λy hy=>by
 rw[e]at hs hy;rcases L9.mp hy with c|c
 ·rw[c];exact Mw _
 ·exact(P7.mp hs).1 y c
section
variable{R:Keyed->Keyed->Prop}{T X:List Keyed}{a o:Array Keyed}{i:Nat}
def MI.pA{w:Keyed}(h:MI R T o.toList (a.toList.drop i) X)(e:a.toList.drop i=w::a.toList.drop (i+1))(q:∀y∈X,R w y):MI R T (o.push w).toList (a.toList.drop (i+1)) X:=by rw[e]at h;rw[VI];exact h.left (a1:=[w]) λz hz x hx=>by rw[NI.mp hz];exact q x hx
def MI.pB{w:Keyed}(h:MI R T o.toList X (a.toList.drop i))(e:a.toList.drop i=w::a.toList.drop (i+1))(q:∀y∈X,R w y):MI R T (o.push w).toList X (a.toList.drop (i+1)):=(h.swap.pA e q).swap
def MI.eA(h:MI R T o.toList (a.toList.drop i) X)(k:Nat)(q:∀x∈(a.toList.drop i).take k,∀y∈X,R x y):MI R T (o++a.extract i (i+k)).toList (a.toList.drop (i+k)) X:=by
 have e:a.toList.drop i=(a.toList.drop i).take k++a.toList.drop (i+k):=by rw[<- X2,Qh]
 have t:(a.extract i (i+k)).toList=(a.toList.drop i).take k:=by rw[TM,XD,XJ]
 rw[UX,t];rw[e]at h;exact h.left q
def MI.eB(h:MI R T o.toList X (a.toList.drop i))(k:Nat)(q:∀x∈(a.toList.drop i).take k,∀y∈X,R x y):MI R T (o++a.extract i (i+k)).toList X (a.toList.drop (i+k)):=(h.swap.eA k q).swap
end
structure Mid(r:Keyed->Nat)(a b:Array Keyed)(o:Array Keyed)(i j:Nat):Prop where
 m:MI (λx y=>r x<=r y) (a.toList++b.toList) o.toList (a.toList.drop i) (b.toList.drop j)
 hi:i+1<a.size
 hj:j<b.size
def Mid.sz(h:Mid r a b o i j):i+j<a.size+b.size:=by have:=h.hi;have:=h.hj;lia
def Res(r:Keyed->Nat)(T:List Keyed)(z:Array Keyed):Prop:=z.toList.Pairwise (λx y=>r x<=r y)/\z.toList.Perm T
def Ep{a b:Array Keyed}{st:SortSt}{Q:Array Keyed->SortSt->Prop}(C:SG M A E s r Mem k0)(hk:kindOf st=k0)(ma:∀x∈a.toList,Mem x)(mb:∀x∈b.toList,Mem x)(sa:a.toList.Pairwise λx y=>r x<=r y)(sb:b.toList.Pairwise λx y=>r x<=r y)
  (a0:0<a.size) (b0:0<b.size) (Tv:∀x,a.toList.drop (a.size - 1)=[x]->∀y∈b.toList,r y<=r x) (Rw:∀y,b[0]?=some y->∀x∈a.toList,r y<=r x)
  (h:∀z st',Res r (a.toList++b.toList) z->bU st st'->Q z st'):wpS M A E s (mLo a b) Q st:=by
 have la:a.toList.length=a.size:=rfl;have lb:b.toList.length=b.size:=rfl;have fin:∀(o:Array Keyed) (i j:Nat),MI (λx y=>r x<=r y) (a.toList++b.toList) o.toList (a.toList.drop i) (b.toList.drop j)->(a.size<=i∨b.size<=j)->Res r (a.toList++b.toList) (o++a.extract i a.size++b.extract j b.size):=λo i j m q=>by have:=m.done (q.imp (λq=>List.drop_eq_nil_of_le (by lia)) λq=>List.drop_eq_nil_of_le (by lia));unfold Res;rw[UX,UX,TM,TM,XD,XD,Rk (by rw[Qy];lia),Rk (by rw[Qy];lia)];exact this
 have lst:∀(o:Array Keyed) (i j:Nat),MI (λx y=>r x<=r y) (a.toList++b.toList) o.toList (a.toList.drop i) (b.toList.drop j)->i+1=a.size->Res r (a.toList++b.toList) (o++b.extract j b.size++a.extract i a.size):=λo i j m q=>by
  obtain⟨x,_,e,_⟩:=et (l:=a.toList) (i:=i) (by lia);rw[show a.toList.drop (i+1)=[]from List.drop_eq_nil_of_le (by lia)]at e;have:=m.last λy hy z hz=>by rw[e,NI]at hz;rw[hz];exact Tv x (by rw[show a.size - 1=i by lia];exact e) y (UU hy)
  unfold Res;rw[UX,UX,TM,TM,XD,XD,Rk (by rw[Qy];lia),Rk (by rw[Qy];lia)];exact this
 obtain⟨y0,Vr,Xt,my0⟩:=et (l:=b.toList) (i:=0) b0;have g0:b[0]?=some y0:=by rw[<- NH];exact Vr
 have m0:MI (λx y=>r x<=r y) (a.toList++b.toList) (#[y0]:Array Keyed).toList (a.toList.drop 0) (b.toList.drop 1):=by
  have m:=MI.start sa sb;rw[show b.toList=[y0]++b.toList.drop 1 from Xt]at m;have:=m.right λy hy x hx=>by rw[NI.mp hy];exact Rw y0 g0 x hx
  rw[<- show b.toList=[y0]++b.toList.drop 1 from Xt]at this;exact this
 refine LZ (wpS_lift (wpAny_rule ⟨rfl,?_⟩));refine LZ (bc g0 ?_);refine aI (λc=>Mm (h _ _ (fin _ 0 1 m0 (.inr (by have:=beq_iff_eq.mp c;lia))) (bU.refl _))) λc1=>?_
 refine aI (λc=>Mm (h _ _ (lst _ 0 1 m0 (beq_iff_eq.mp c)) (bU.refl _))) λc2=>?_
 have Ww:1≠b.size:=λe=>c1 (beq_iff_eq.mpr e)
 have Si:0+1≠a.size:=λe=>c2 (beq_iff_eq.mpr e)
 have Wx:Mid r a b #[y0] 0 1:=⟨m0,by lia,by lia⟩;refine LZ (wpS_get ?_);refine LZ (Qz (QY (I:=λx z st'=>bU st st'/\∃o i j g,z=(none,o,i,j,g)/\Mid r a b o i j/\x<=i+j) (Q:=λz st'=>bU st st'/\∃w q,z=(some w,q)/\Res r (a.toList++b.toList) w) ?_ ?_ ⟨bU.refl _,_,_,_,_,rfl,Wx,by lia⟩) ?_)
 ·rintro x z RU _ hx ⟨L1,o,i,j,g,rfl,md,hp⟩;refine LZ (Qz (QY (I:=λx z st'=>bU st st'/\∃o i' j' u v,z=(none,o,i',j',u,v)/\Mid r a b o i' j'/\i+j+x<=i'+j') (Q:=λz st'=>bU st st'/\((∃w q,z=(some w,q)/\Res r (a.toList++b.toList) w)∨∃ o i' j' u v,z=(none,o,i',j',u,v)/\Mid r a b o i' j'/\i+j+1<=i'+j')) ?_ ?_ ⟨L1,o,i,j,_,_,rfl,md,by lia⟩) ?_)
  ·clear md hp hx;rintro x z LX _ hx ⟨L2,o,i',j',u,v,rfl,md,hp⟩;obtain⟨y,hy,ey,my⟩:=et (l:=b.toList) (i:=j') md.hj;obtain⟨w,hw,ew,mw⟩:=et (l:=a.toList) (i:=i') (by have:=md.hi;lia);rw[NH]at hy hw;refine LZ (bc hy (LZ (bc hw (LZ (C.lt _ _ _ _ (mb y my) (ma w mw) (L2.k.trans hk) ?_)))));have hb:=kW md.m.sb ey;have UG:=kW md.m.sa ew;refine aI (λc=>?_) λc=>?_
   ·have c':=OP c;refine LZ (bc hy ?_);have m':MI (λx y=>r x<=r y) (a.toList++b.toList) (o.push y).toList (a.toList.drop i') (b.toList.drop (j'+1)):=by
     have m:=md.m;rw[ey]at m;rw[VI];exact m.right (b1:=[y]) λz hz x hx=>by rw[NI.mp hz];exact NM (S4 c') (UG x hx)
    refine aI (λc2=>Mm ⟨L2,.inl ⟨_,_,rfl,fin _ _ _ m' (.inr (by have:=beq_iff_eq.mp c2;lia))⟩⟩) λc2=>?_
    ·have Si:j'+1≠b.size:=λe=>c2 (beq_iff_eq.mpr e)
     have Qf:Mid r a b (o.push y) i' (j'+1):=⟨m',md.hi,by have:=md.hj;lia⟩;exact aI (λ_=>Mm ⟨L2,.inr ⟨o.push y,i',j'+1,_,_,rfl,Qf,by lia⟩⟩) λ_=>Mm ⟨L2,o.push y,i',j'+1,_,_,rfl,Qf,by lia⟩
   ·have c':¬r y<r w:=λe=>c (NL e)
    refine LZ (bc hw ?_);have m':MI (λx y=>r x<=r y) (a.toList++b.toList) (o.push w).toList (a.toList.drop (i'+1)) (b.toList.drop j'):=by have m:=md.m;rw[ew]at m;rw[VI];exact m.left (a1:=[w]) λz hz x hx=>by rw[NI.mp hz];exact NM (Sv.mp c') (hb x hx)
    refine aI (λc2=>Mm ⟨L2,.inl ⟨_,_,rfl,lst _ _ _ m' (beq_iff_eq.mp c2)⟩⟩) λc2=>?_
    ·have Si:i'+1+1≠a.size:=λe=>c2 (beq_iff_eq.mpr e)
     have Qf:Mid r a b (o.push w) (i'+1) j':=⟨m',by have:=md.hi;lia,md.hj⟩;exact aI (λ_=>Mm ⟨L2,.inr ⟨o.push w,i'+1,j',_,_,rfl,Qf,by lia⟩⟩) λ_=>Mm ⟨L2,o.push w,i'+1,j',_,_,rfl,Qf,by lia⟩
  ·rintro z LX ⟨L2,o,i',j',u,v,rfl,md,hp⟩;have:=md.sz
   lia
  ·rintro z LX ⟨L2,(⟨w,q,rfl,hr⟩| ⟨o',i',j',u,v,rfl,Qf,Vm⟩)⟩
   ·exact Mm ⟨L2,_,_,rfl,hr⟩
   ·refine LZ (wpS_lift (wpAny_rule ⟨rfl,?_⟩));refine LZ (Qz (QY (I:=λx z st'=>bU st st'/\∃o PG PH g u v,z=(none,o,PG,PH,g,u,v)/\Mid r a b o PG PH/\i'+j'+x<=PG+PH) (Q:=λz st'=>bU st st'/\((∃w q,z=(some w,q)/\Res r (a.toList++b.toList) w)∨∃ o PG PH g u v,z=(none,o,PG,PH,g,u,v)/\Mid r a b o PG PH/\i'+j'<=PG+PH)) ?_ ?_ ⟨L2,o',i',j',_,_,_,rfl,Qf,by lia⟩) ?_)
    ·clear Qf Vm;rintro x z OU _ hx3 ⟨L3,o,i2,j2,g2,u2,v2,rfl,md,Z5⟩;obtain⟨y,hy,ey,my⟩:=et (l:=b.toList) (i:=j2) md.hj;rw[NH]at hy;have both:∀g3:Nat,wpS M A E s (EV g3) (λ_ Na=>bU st Na) OU:=λg3=>mM L3 λNa L4=>L4
     have hb:=kW md.m.sb ey;have Wz:=md.hi;have Ze:=md.hj
     suffices key:∀g3:Nat,wpS M A E s _ _ OU by
      refine aI (λ_=>?_) λ_=>?_
      rotate_left
      ·generalize (none,o,i2,j2,g2,u2,v2).snd.snd.snd.snd.fst=g3;exact key g3
      ·exact key _
     intro g3;refine LZ (Qz (both _) λ_ Na L4=>?_);refine LZ (bc hy (LZ (gR C (L4.k.trans hk) (show 0<a.size - i2 by lia) (mb y my) (g:=a.toList.drop i2) (by rw[Qy];rfl) (λn hn=>by rw[VG,NH]) (λx hx=>ma x (UU hx)) md.m.sa λk Xo Q3 SH=>?_)));have UH:k<=a.size - i2:=Xo;have lo:∀x∈(a.toList.drop i2).take k,r x<=r y:=λx hx=>by have:=Q3 x hx;simpa [QQ]using this
     have up:∀x∈a.toList.drop (i2+k),r y<=r x:=λx hx=>by
      rw[<- X2]at hx;have:=SH x hx;simp[QQ]at this
      lia
     refine aI (λck=>?_) λck=>?_
     case' refine_1 =>
      have hm:=md.m.eA k λx hx z hz=>NM (lo x hx) (hb z hz)
      have UI:=up;have hle:i2<=i2+k:=by lia
      refine aI (λc3=>Mm ⟨L4,.inl ⟨_,_,rfl,lst _ _ _ hm (beq_iff_eq.mp c3)⟩⟩) λc3=>?_
      refine aI (λc4=>Mm ⟨L4,.inl ⟨_,_,rfl,fin _ _ _ hm (.inl (Uj (beq_iff_eq.mp c4).symm))⟩⟩) λc4=>?_
      have h3:i2+k+1<a.size:=by
       have:i2+k+1≠a.size:=λe=>c3 (beq_iff_eq.mpr e)
       have:i2+k≠a.size:=λe=>c4 (beq_iff_eq.mpr e)
       lia
     case' refine_2 =>
      have WA:k=0:=by lia
      subst WA;have hm:=md.m;have UI:=up;have hle:i2<=i2+0:=by lia
      have h3:i2+0+1<a.size:=Wz
     all_goals
      refine LZ (bc hy ?_);have m1:=hm.pB ey UI;refine aI (λc=>Mm ⟨L4,.inl ⟨_,_,rfl,fin _ _ _ m1 (.inr (Uj (beq_iff_eq.mp c).symm))⟩⟩) λc=>?_
      have c':j2+1≠b.size:=λe=>c (beq_iff_eq.mpr e)
      obtain⟨w,hw,ew,mw⟩:=et (l:=a.toList) (XT h3);rw[NH]at hw;refine LZ (bc hw (LZ (gR C (L4.k.trans hk) (show 0<b.size - (j2+1)by lia) (ma w mw) (g:=b.toList.drop (j2+1)) (by rw[Qy];rfl) (λn hn=>by rw[VG,NH]) (λx hx=>mb x (UU hx)) m1.sb λk2 Vs Tw Tx=>?_)));have UG:=kW m1.sa ew;have WC:k2<=b.size - (j2+1):=Vs;have WD:∀x∈(b.toList.drop (j2+1)).take k2,r x<=r w:=λx hx=>by
       have:=Tw x hx;simp[QQ]at this
       lia
      have UE:∀x∈b.toList.drop (j2+1+k2),r w<=r x:=λx hx=>by rw[<- X2]at hx;have:=Tx x hx;simpa [QQ]using this
      refine aI (λck2=>?_) λck2=>?_
      case' refine_1 =>
       have SJ:=m1.eB k2 λx hx z hz=>NM (WD x hx) (UG z hz)
       refine aI (λc5=>Mm ⟨L4,.inl ⟨_,_,rfl,fin _ _ _ SJ (.inr (Uj (beq_iff_eq.mp c5).symm))⟩⟩) λc5=>?_
       have Zf:j2+1+k2<b.size:=by
        have:j2+1+k2≠b.size:=λe=>c5 (beq_iff_eq.mpr e)
        lia
      case' refine_2 =>
       have WA:k2=0:=by lia
       subst WA;have SJ:=m1;have Zf:j2+1+0<b.size:=by lia
      all_goals
       refine LZ (bc hw ?_);have m3:=SJ.pA ew UE;refine aI (λc6=>Mm ⟨L4,.inl ⟨_,_,rfl,lst _ _ _ m3 (beq_iff_eq.mp c6)⟩⟩) λc6=>?_
       have Zg:Mid r a b _ _ _:=⟨m3,Nat.lt_of_le_of_ne h3 λe=>c6 (beq_iff_eq.mpr e),Zf⟩;exact aI (λ_=>Mm ⟨L4,.inr ⟨_,_,_,_,_,_,rfl,Zg,by(try dsimp only);lia⟩⟩) λ_=>Mm ⟨L4,_,_,_,_,_,_,rfl,Zg,by(try dsimp only);lia⟩
    ·rintro z OU ⟨L3,o,PG,PH,g,u,v,rfl,md,hp⟩;exact⟨L3,.inr ⟨o,PG,PH,_,_,_,rfl,md,by lia⟩⟩
    ·rintro z OU ⟨L3,(⟨w,q,rfl,hr⟩| ⟨o',PG,PH,g,u,v,rfl,Qf,Vm⟩)⟩
     ·exact Mm ⟨L3,_,_,rfl,hr⟩
     ·exact LZ (mM L3 λNa L4=>Mm ⟨L4,o',PG,PH,_,rfl,Qf,by lia⟩)
 ·rintro z st' ⟨L,o,i,j,g,rfl,md,hp⟩;have:=md.sz
  lia
 ·rintro z st' ⟨L,w,q,rfl,hr⟩;exact Mm (h _ _ hr L)
def iq{l:List Keyed}{n:Nat}(h0:0<n)(h:n<=l.length):∃x,l[n - 1]?=some x/\(l.take n).reverse=x::(l.take (n - 1)).reverse/\x∈l:=by obtain⟨m,rfl⟩:∃m,n=m+1:=⟨n - 1,by lia⟩;refine⟨l[m]'(by lia),MZ (by lia),?_,Qw _⟩;rw[List.take_succ_eq_append_getElem (by lia),WV];rfl
def kU{l:List Keyed}{x:Keyed}(hs:((l.take n).reverse).Pairwise λx y=>r y<=r x)(e:(l.take n).reverse=x::(l.take (n - 1)).reverse):∀y∈(l.take n).reverse,r y<=r x:=λy hy=>by
 rw[e]at hs hy;rcases L9.mp hy with c|c
 ·rw[c];exact Mw _
 ·exact(P7.mp hs).1 y c
def Bc{l:List Keyed}(h:l.reverse.Pairwise λx y=>r y<=r x):l.Pairwise λx y=>r x<=r y:=ZU.mp h
def sI{l:List Keyed}(h:l.Pairwise λx y=>r x<=r y):l.reverse.Pairwise λx y=>r y<=r x:=ZU.mpr h
section
variable{R:Keyed->Keyed->Prop}{T X:List Keyed}{a o:Array Keyed}{n:Nat}
def MI.qA{w:Keyed}(h:MI R T o.toList (a.toList.take n).reverse X)(e:(a.toList.take n).reverse=w::(a.toList.take (n - 1)).reverse)(q:∀y∈X,R w y):MI R T (o.push w).toList (a.toList.take (n - 1)).reverse X:=by rw[e]at h;rw[VI];exact h.left (a1:=[w]) λz hz x hx=>by rw[NI.mp hz];exact q x hx
def MI.qB{w:Keyed}(h:MI R T o.toList X (a.toList.take n).reverse)(e:(a.toList.take n).reverse=w::(a.toList.take (n - 1)).reverse)(q:∀y∈X,R w y):MI R T (o.push w).toList X (a.toList.take (n - 1)).reverse:=(h.swap.qA e q).swap
def MI.fA(h:MI R T o.toList (a.toList.take n).reverse X){k:Nat}(hk:k<=n)(q:∀x∈(a.toList.take n).drop k,∀y∈X,R x y):MI R T (o++(a.extract k n).reverse).toList (a.toList.take k).reverse X:=by
 have e:(a.toList.take n).reverse=((a.toList.take n).drop k).reverse++(a.toList.take k).reverse:=by rw[<- WV];congr 1;have:=Qh k (a.toList.take n);rw[List.take_take,R4 hk]at this;exact this.symm
 have t:(a.extract k n).reverse.toList=((a.toList.take n).drop k).reverse:=by rw[Array.toList_reverse,TM,List.extract_eq_drop_take,List.drop_take]
 rw[UX,t];rw[e]at h;exact h.left λx hx=>q x (SX.mp hx)
def MI.fB(h:MI R T o.toList X (a.toList.take n).reverse){k:Nat}(hk:k<=n)(q:∀x∈(a.toList.take n).drop k,∀y∈X,R x y):MI R T (o++(a.extract k n).reverse).toList X (a.toList.take k).reverse:=(h.swap.fA hk q).swap
end
structure Mir(r:Keyed->Nat)(a b:Array Keyed)(o:Array Keyed)(i j:Nat):Prop where
 m:MI (λx y=>r y<=r x) (a.toList++b.toList) o.toList (a.toList.take i).reverse (b.toList.take j).reverse
 h0:0<i
 hi:i<=a.size
 h1:1<j
 hj:j<=b.size
def Eo{a b:Array Keyed}{st:SortSt}{Q:Array Keyed->SortSt->Prop}(C:SG M A E s r Mem k0)(hk:kindOf st=k0)(ma:∀x∈a.toList,Mem x)(mb:∀x∈b.toList,Mem x)(sa:a.toList.Pairwise λx y=>r x<=r y)(sb:b.toList.Pairwise λx y=>r x<=r y)
  (a0:0<a.size) (b0:0<b.size) (Tv:∀x,a[a.size - 1]?=some x->∀y∈b.toList,r y<=r x) (Rw:∀y,b.toList.take 1=[y]->∀x∈a.toList,r y<=r x)
  (h:∀z st',Res r (a.toList++b.toList) z->bU st st'->Q z st'):wpS M A E s (mHi a b) Q st:=by
 have la:a.toList.length=a.size:=rfl;have lb:b.toList.length=b.size:=rfl;have Zh:∀(o:Array Keyed) (i j:Nat),MI (λx y=>r y<=r x) (a.toList++b.toList) o.toList (a.toList.take i).reverse (b.toList.take j).reverse->(∀x∈a.toList.take i,∀y∈b.toList.take j,r y<=r x)->Res r (a.toList++b.toList) (b.extract 0 j++a.extract 0 i++o.reverse):=λo i j m q=>by
  obtain⟨p1,p2⟩:=m.swap.last λx hx y hy=>q x (SX.mp hx) y (SX.mp hy)
  have e:(o.toList++(a.toList.take i).reverse++(b.toList.take j).reverse)=(b.extract 0 j++a.extract 0 i++o.reverse).toList.reverse:=by rw[UX,UX,TM,TM,Array.toList_reverse,List.extract_eq_drop_take,List.extract_eq_drop_take,X3,X3,WV,WV,List.reverse_reverse,Pn,Nat.sub_zero,Nat.sub_zero]
  rw[e]at p1 p2;exact⟨Bc p1,(List.reverse_perm _).symm.trans p2⟩
 have fin:∀(o:Array Keyed) (i j:Nat),MI (λx y=>r y<=r x) (a.toList++b.toList) o.toList (a.toList.take i).reverse (b.toList.take j).reverse->(i=0∨j=0)->Res r (a.toList++b.toList) (a.extract 0 i++b.extract 0 j++o.reverse):=λo i j m q=>by
  have:=Zh o i j m λx hx y hy=>by
   rcases q with q|q
   ·rw[q]at hx;simp at hx
   ·rw[q]at hy;simp at hy
  have e:a.extract 0 i++b.extract 0 j=b.extract 0 j++a.extract 0 i:=by
   rcases q with q|q<;>subst q<;>simp
  rw[e];exact this
 have UJ:∀(o:Array Keyed) (i j:Nat),MI (λx y=>r y<=r x) (a.toList++b.toList) o.toList (a.toList.take i).reverse (b.toList.take j).reverse->j=1->Res r (a.toList++b.toList) (b.extract 0 j++a.extract 0 i++o.reverse):=λo i j m q=>Zh o i j m λx hx y hy=>by
  subst q;obtain⟨z,hz,e,_⟩:=et (l:=b.toList) (i:=0) b0;have e1:b.toList.take 1=[z]:=by have e2:b.toList=z::b.toList.drop 1:=e;rw[e2];rfl
  rw[e1,NI]at hy;rw[hy];exact Rw z e1 x (UW hx)
 obtain⟨y0,Vr,Xt,my0⟩:=iq (l:=a.toList) a0 (Mw _);have g0:a[a.size - 1]?=some y0:=by rw[<- NH];exact Vr
 have m0:MI (λx y=>r y<=r x) (a.toList++b.toList) (#[y0]:Array Keyed).toList (a.toList.take (a.size - 1)).reverse (b.toList.take b.size).reverse:=by
  have m:MI (λx y=>r y<=r x) (a.toList++b.toList) (#[]:Array Keyed).toList (a.toList.take a.size).reverse (b.toList.take b.size).reverse:=by rw[Rk (Uj la),Rk (Uj lb)];exact⟨(List.reverse_perm _).append (List.reverse_perm _),.nil,sI sa,sI sb,λ_ z=>(by cases z),λ_ z=>(by cases z)⟩
  exact m.qA Xt λy hy=>Tv y0 g0 y (UW (SX.mp hy))
 refine LZ (wpS_lift (wpAny_rule ⟨rfl,?_⟩));refine LZ (bc g0 ?_);refine aI (λc=>Mm (h _ _ (fin _ _ _ m0 (.inl (beq_iff_eq.mp c))) (bU.refl _))) λc1=>?_
 refine aI (λc=>Mm (h _ _ (UJ _ _ _ m0 (beq_iff_eq.mp c)) (bU.refl _))) λc2=>?_
 have Ww:a.size - 1≠0:=λe=>c1 (beq_iff_eq.mpr e)
 have Si:b.size≠1:=λe=>c2 (beq_iff_eq.mpr e)
 have Wx:Mir r a b #[y0] (a.size - 1) b.size:=⟨m0,by lia,by lia,by lia,by lia⟩;refine LZ (wpS_get ?_);refine LZ (Qz (QY (a:=0) (I:=λx z st'=>bU st st'/\∃o i j g,z=(none,i,j,o,g)/\Mir r a b o i j/\x+i+j<=a.size+b.size) (Q:=λz st'=>bU st st'/\∃w q,z=(some w,q)/\Res r (a.toList++b.toList) w) ?_ ?_ ⟨bU.refl _,#[y0],a.size - 1,b.size,_,rfl,Wx,by lia⟩) ?_)
 ·rintro x z RU _ hx ⟨L1,o,i,j,g,rfl,md,hp⟩;refine LZ (Qz (QY (I:=λx z st'=>bU st st'/\∃o i' j' u v,z=(none,i',j',o,u,v)/\Mir r a b o i' j'/\x+i'+j'<=i+j) (Q:=λz st'=>bU st st'/\((∃w q,z=(some w,q)/\Res r (a.toList++b.toList) w)∨∃ o i' j' u v,z=(none,i',j',o,u,v)/\Mir r a b o i' j'/\1+i'+j'<=i+j)) ?_ ?_ ⟨L1,o,i,j,_,_,rfl,md,by lia⟩) ?_)
  ·clear md hp hx;rintro x z LX _ hx ⟨L2,o,i',j',u,v,rfl,md,hp⟩;have Wz:=md.hi;have Ze:=md.hj;have hi1:=md.h0;have hj1:=md.h1;obtain⟨y,hy,ey,my⟩:=iq (l:=b.toList) (n:=j') (by lia) Ze;obtain⟨w,hw,ew,mw⟩:=iq (l:=a.toList) (n:=i') hi1 Wz;rw[NH]at hy hw;refine LZ (bc hy (LZ (bc hw (LZ (C.lt _ _ _ _ (mb y my) (ma w mw) (L2.k.trans hk) ?_)))));have hb:=kU md.m.sb ey;have UG:=kU md.m.sa ew;refine aI (λc=>?_) λc=>?_
   ·have c':=OP c;refine LZ (bc hw ?_);have m':=md.m.qA ew λx hx=>NM (hb x hx) (S4 c')
    refine aI (λc2=>Mm ⟨L2,.inl ⟨_,_,rfl,fin _ _ _ m' (.inl (beq_iff_eq.mp c2))⟩⟩) λc2=>?_
    have Si:i' - 1≠0:=λe=>c2 (beq_iff_eq.mpr e)
    have Qf:Mir r a b (o.push w) (i' - 1) j':=⟨m',by lia,by lia,hj1,Ze⟩;exact aI (λ_=>Mm ⟨L2,.inr ⟨o.push w,i' - 1,j',_,_,rfl,Qf,by lia⟩⟩) λ_=>Mm ⟨L2,o.push w,i' - 1,j',_,_,rfl,Qf,by lia⟩
   ·have c':¬r y<r w:=λe=>c (NL e)
    refine LZ (bc hy ?_);have m':=md.m.qB ey λx hx=>NM (UG x hx) (Sv.mp c')
    refine aI (λc2=>Mm ⟨L2,.inl ⟨_,_,rfl,UJ _ _ _ m' (beq_iff_eq.mp c2)⟩⟩) λc2=>?_
    have Si:j' - 1≠1:=λe=>c2 (beq_iff_eq.mpr e)
    have Qf:Mir r a b (o.push y) i' (j' - 1):=⟨m',hi1,Wz,by lia,by lia⟩;exact aI (λ_=>Mm ⟨L2,.inr ⟨o.push y,i',j' - 1,_,_,rfl,Qf,by lia⟩⟩) λ_=>Mm ⟨L2,o.push y,i',j' - 1,_,_,rfl,Qf,by lia⟩
  ·rintro z LX ⟨L2,o,i',j',u,v,rfl,md,hp⟩;have:=md.h0
   lia
  ·rintro z LX ⟨L2,(⟨w,q,rfl,hr⟩| ⟨o',i',j',u,v,rfl,Qf,Vm⟩)⟩
   ·exact Mm ⟨L2,_,_,rfl,hr⟩
   ·refine LZ (wpS_lift (wpAny_rule ⟨rfl,?_⟩));refine LZ (Qz (QY (I:=λx z st'=>bU st st'/\∃o PG PH g u v,z=(none,PG,PH,o,g,u,v)/\Mir r a b o PG PH/\x+PG+PH<=i'+j') (Q:=λz st'=>bU st st'/\((∃w q,z=(some w,q)/\Res r (a.toList++b.toList) w)∨∃ o PG PH g u v,z=(none,PG,PH,o,g,u,v)/\Mir r a b o PG PH/\PG+PH<=i'+j')) ?_ ?_ ⟨L2,o',i',j',_,_,_,rfl,Qf,by lia⟩) ?_)
    ·clear Qf Vm;rintro x z OU _ hx3 ⟨L3,o,i2,j2,g2,u2,v2,rfl,md,Z5⟩;have Wz:=md.hi;have Ze:=md.hj;have hi1:=md.h0;have hj1:=md.h1;obtain⟨y,hy,ey,my⟩:=iq (l:=b.toList) (n:=j2) (by lia) Ze;rw[NH]at hy;have both:∀g3:Nat,wpS M A E s (EV g3) (λ_ Na=>bU st Na) OU:=λg3=>mM L3 λNa L4=>L4
     have hb:=kU md.m.sb ey
     suffices key:∀g3:Nat,wpS M A E s _ _ OU by
      refine aI (λ_=>?_) λ_=>?_
      rotate_left
      ·generalize ((none:Option (Array Keyed)),i2,j2,o,g2,u2,v2).snd.snd.snd.snd.fst=g3;exact key g3
      ·exact key _
     intro g3;refine LZ (Qz (both _) λ_ Na L4=>?_);refine LZ (bc hy (LZ (gR C (L4.k.trans hk) (show i2 - 1<i2 by lia) (mb y my) (g:=a.toList.take i2) (by rw[P8];exact R4 Wz) (λn hn=>by rw[XO,Lx hn,NH,QX]) (λx hx=>ma x (UW hx)) (Bc md.m.sa) λk Xo Q3 SH=>?_)));have UH:k<=i2:=Xo;have lo:∀x∈a.toList.take k,r x<=r y:=λx hx=>by have:=Q3 x (by rw[List.take_take,R4 UH];exact hx);simpa [QQ]using this
     have up:∀x∈(a.toList.take i2).drop k,r y<=r x:=λx hx=>by
      have:=SH x hx;simp[QQ]at this
      lia
     refine aI (λck=>?_) λck=>?_
     case' refine_1 =>
      have hm:=md.m.fA UH λx hx z hz=>NM (hb z hz) (up x hx)
      refine aI (λc3=>Mm ⟨L4,.inl ⟨_,_,rfl,fin _ _ _ hm (.inl (beq_iff_eq.mp c3))⟩⟩) λc3=>?_
      have h3:0<k:=by
       have:k≠0:=λe=>c3 (beq_iff_eq.mpr e)
       lia
      have hle:k<=i2:=UH;have UI:∀x∈(a.toList.take k).reverse,r x<=r y:=λx hx=>lo x (SX.mp hx)
     case' refine_2 =>
      have WA:k=i2:=by
       have:¬(i2 - k > 0):=ck
       lia
      subst WA;have hm:=md.m;have h3:0<k:=hi1;have hle:k<=k:=Mw _;have UI:∀x∈(a.toList.take k).reverse,r x<=r y:=λx hx=>lo x (SX.mp hx)
     all_goals
      refine LZ (bc hy ?_);have m1:=hm.qB ey UI;refine aI (λc=>Mm ⟨L4,.inl ⟨_,_,rfl,UJ _ _ _ m1 (beq_iff_eq.mp c)⟩⟩) λc=>?_
      have c':j2 - 1≠1:=λe=>c (beq_iff_eq.mpr e)
      obtain⟨w,hw,ew,mw⟩:=iq (l:=a.toList) h3 (NM hle Wz);rw[NH]at hw;refine LZ (bc hw (LZ (gR C (L4.k.trans hk) (show j2 - 1 - 1<j2 - 1 by lia) (ma w mw) (g:=b.toList.take (j2 - 1)) (by rw[P8];exact R4 (by lia)) (λn hn=>by rw[XO,Lx hn,NH,QX]) (λx hx=>mb x (UW hx)) (Bc m1.sb) λk2 Vs Tw Tx=>?_)));have UG:=kU m1.sa ew;have WC:k2<=j2 - 1:=Vs;have WD:∀x∈(b.toList.take k2).reverse,r x<=r w:=λx hx=>by
       have:=Tw x (by rw[List.take_take,R4 WC];exact SX.mp hx);simp[QQ]at this
       lia
      have UE:∀x∈(b.toList.take (j2 - 1)).drop k2,r w<=r x:=λx hx=>by have:=Tx x hx;simpa [QQ]using this
      refine aI (λck2=>?_) λck2=>?_
      case' refine_1 =>
       have SJ:=m1.fB WC λx hx z hz=>NM (UG z hz) (UE x hx)
       refine aI (λc5=>Mm ⟨L4,.inl ⟨_,_,rfl,UJ _ _ _ SJ (beq_iff_eq.mp c5)⟩⟩) λc5=>?_
       refine aI (λc5=>Mm ⟨L4,.inl ⟨_,_,rfl,fin _ _ _ SJ (.inr (beq_iff_eq.mp c5))⟩⟩) λc7=>?_
       have Zf:1<k2:=by
        have:k2≠1:=λe=>c5 (beq_iff_eq.mpr e)
        have:k2≠0:=λe=>c7 (beq_iff_eq.mpr e)
        lia
       have hj4:k2<=b.size:=by lia
       have hj5:k2+1<=j2:=by lia
      case' refine_2 =>
       have WA:k2=j2 - 1:=by
        have:¬(j2 - 1 - k2 > 0):=ck2
        lia
       rw[WA]at WD;have SJ:=m1;have Zf:1<j2 - 1:=by lia
       have hj4:j2 - 1<=b.size:=by lia
       have hj5:j2 - 1+1<=j2:=by lia
      all_goals
       refine LZ (bc hw ?_);have m3:=SJ.qA ew WD;refine aI (λc6=>Mm ⟨L4,.inl ⟨_,_,rfl,fin _ _ _ m3 (.inl (beq_iff_eq.mp c6))⟩⟩) λc6=>?_
       have Zg:Mir r a b _ _ _:=⟨m3,Nat.pos_of_ne_zero λe=>c6 (beq_iff_eq.mpr e),by lia,Zf,hj4⟩;exact aI (λ_=>Mm ⟨L4,.inr ⟨_,_,_,_,_,_,rfl,Zg,by(try dsimp only);lia⟩⟩) λ_=>Mm ⟨L4,_,_,_,_,_,_,rfl,Zg,by(try dsimp only);lia⟩
    ·rintro z OU ⟨L3,o,PG,PH,g,u,v,rfl,md,hp⟩;exact⟨L3,.inr ⟨o,PG,PH,_,_,_,rfl,md,by lia⟩⟩
    ·rintro z OU ⟨L3,(⟨w,q,rfl,hr⟩| ⟨o',PG,PH,g,u,v,rfl,Qf,Vm⟩)⟩
     ·exact Mm ⟨L3,_,_,rfl,hr⟩
     ·exact LZ (mM L3 λNa L4=>Mm ⟨L4,o',PG,PH,_,rfl,Qf,by lia⟩)
 ·rintro z st' ⟨L,o,i,j,g,rfl,md,hp⟩;have:=md.h0
  lia
 ·rintro z st' ⟨L,w,q,rfl,hr⟩;exact Mm (h _ _ hr L)
end
def rk(r:Keyed->Nat)(xs:Array Keyed)(i:Nat):Nat:=match xs[i]? with
 |some p=>r p
 |none=>0
def Seg(r:Keyed->Nat)(xs:Array Keyed)(lo hi:Nat):Prop:=∀i j,lo<=i->i<=j->j<hi->rk r xs i<=rk r xs j
section
variable{r:Keyed->Nat}{xs:Array Keyed}{P W S:List Keyed}
def rG(e:xs.toList=P++(W++S)){i:Nat}(hi:i<W.length):rk r xs (P.length+i)=r W[i]:=by unfold rk;rw[<- NH,e,P5 (by lia),XJ,QT hi,MZ hi]
def yI(e:xs.toList=P++(W++S))(h:W.Pairwise λx y=>r x<=r y):Seg r xs P.length (P.length+W.length):=λi j h1 h2 h3=>by
 obtain⟨k,rfl⟩:∃k,i=P.length+k:=⟨i - P.length,by lia⟩;obtain⟨l,rfl⟩:∃l,j=P.length+l:=⟨j - P.length,by lia⟩;rw[rG e (by lia),rG e (by lia)];by_cases c:k=l
 ·subst c;exact Mw _
 ·exact RJ.mp h k l (by lia) (by lia) (by lia)
def kC(e:xs.toList=P++(W++S))(h:Seg r xs P.length (P.length+W.length)):W.Pairwise λx y=>r x<=r y:=RJ.mpr λi j h1 h2 NO=>by have:=h (P.length+i) (P.length+j) (by lia) (by lia) (by lia);rw[rG e h1,rG e h2]at this;exact this
def Ii(xs:Array Keyed){lo n:Nat}(h:lo+n<=xs.size):∃P W S,xs.toList=P++(W++S)/\P.length=lo/\W.length=n:=by
 refine⟨xs.toList.take lo,(xs.toList.drop lo).take n,(xs.toList.drop lo).drop n,by rw[Qh,Qh],?_,?_⟩
 ·rw[P8];exact R4 (by show lo<=xs.size;lia)
 ·rw[P8,Qy];exact R4 (by show n<=xs.size - lo;lia)
theorem wO(base:Nat):∀(m:List Keyed) (k:Nat) (xs:Array Keyed) (P W S:List Keyed),xs.toList=P++(W++S)->P.length=base+k->W.length=m.length →
  ((m.zipIdx k).foldl (λa (x:Keyed×Nat)=>match x with|(p,j)=>a.setIfInBounds (base+j) p) xs).toList=P++(m++S)
 |[],k,xs,P,W,S,e,hp,hw=>by have:W=[]:=UQ hw;rw[this]at e;exact e
 |p::m,k,xs,P,[],S,e,hp,hw=>by cases hw
 |p::m,k,xs,P,w::W,S,e,hp,hw=>by
  rw[List.zipIdx_cons,List.foldl_cons];rw[wO base m (k+1) _ (P++[p]) W S ?_ (by rw[Nz,hp];rfl) (by simpa using hw)]
  ·simp
  ·show(xs.setIfInBounds (base+k) p).toList=_;rw[zDN,e,<- hp,List.set_append_right _ _ (Mw _),VT];simp
end
section
variable{M:Model}{A:Around}{E:yaa}{s:Shared}{r:Keyed->Nat}{Mem:Keyed->Prop}{k0:SortKind}
def HI{σ:Type}{st st':σ}{Q:PUnit->σ->Prop}(h:Q ⟨⟩ st'):wpS M A E s (set st':StateT σ Sem PUnit) Q st:=by unfold wpS;rw[StateT.run_set];exact Ma ⟨rfl,h⟩
def En{st:SortSt}{i sa na p sb nb p2:Nat}{Q:Bool->SortSt->Prop}(C:SG M A E s r Mem k0)(hk:kindOf st=k0)(hf:failedOf st=none)(ma:∀x∈(arrOf st).toList,Mem x)(h1:(pendingOf st)[i]?=some (sa,na,p))(h2:(pendingOf st)[i+1]?=some (sb,nb,p2))
  {P X Y S:List Keyed} (e:(arrOf st).toList=P++(X++(Y++S))) (lP:P.length=sa) (lX:X.length=na) (lY:Y.length=nb) (Wm:sb=sa+na) (n0:0<na) (m0:0<nb) (sX:X.Pairwise λx y=>r x<=r y) (sY:Y.Pairwise λx y=>r x<=r y)
  (h:∀(st':SortSt) (Z:List Keyed),kindOf st'=k0->failedOf st'=none->pendingOf st'=((pendingOf st).setIfInBounds i (sa,na+nb,p)).eraseIdxIfInBounds (i+1)->(arrOf st').toList=P++(Z++S)->Z.Perm (X++Y)->Z.Pairwise (λx y=>r x<=r y)->Q true st'):wpS M A E s (mergeAt' i) Q st:=by
 subst Wm;have gX:∀n,n<na->(arrOf st)[sa+n]?=X[n]?:=λn hn=>by rw[<- NH,e,P5 (by lia),show sa+n - P.length=n by lia,QT (by lia)]
 have gY:∀n,n<nb->(arrOf st)[sa+na+n]?=Y[n]?:=λn hn=>by rw[<- NH,e,P5 (by lia),P5 (by lia),show sa+na+n - P.length - X.length=n by lia,QT (by lia)]
 have mX:∀x∈X,Mem x:=λx hx=>ma x (by rw[e];simp[hx])
 have mY:∀x∈Y,Mem x:=λx hx=>ma x (by rw[e];simp[hx])
 obtain⟨y0,Vr,Xt,my0⟩:=et (l:=Y) (i:=0) (by lia);obtain⟨xl,hxl,exl,mxl⟩:=iq (l:=X) (n:=na) n0 (by lia);have Zi:∀y∈Y,r y0<=r y:=kW (l:=Y) (i:=0) sY Xt;have lel:∀x∈X,r x<=r xl:=λx hx=>kU (l:=X) (n:=na) (sI (by rw[Rk (by lia)];exact sX)) exl x (SX.mpr (by rw[Rk (by lia)];exact hx))
 have same:∀(st':SortSt),kindOf st'=k0->failedOf st'=none->pendingOf st'=((pendingOf st).setIfInBounds i (sa,na+nb,p)).eraseIdxIfInBounds (i+1)->arrOf st'=arrOf st->(∀x∈X,∀y∈Y,r x<=r y)->Q true st':=λst' a1 a2 a3 a4 q =>
  h st' (X++Y) a1 a2 a3 (by rw[a4,e,Pn]) (W9 _) (Sr.mpr ⟨sX,sY,q⟩)
 refine LZ (wpS_get ?_);show wpS M A E s (match((pendingOf st)[i]?,(pendingOf st)[i+1]?)with|_=>_) Q st;simp only[h1,h2];refine LZ (HI ?_);have k1:kindOf (SortSt.mk' (kindOf st) (arrOf st) (((pendingOf st).setIfInBounds i (sa,na+nb,p)).eraseIdxIfInBounds (i+1)) (gallopOf st) (failedOf st))=k0:=hk;have f1:failedOf (SortSt.mk' (kindOf st) (arrOf st) (((pendingOf st).setIfInBounds i (sa,na+nb,p)).eraseIdxIfInBounds (i+1)) (gallopOf st) (failedOf st))=none:=hf;refine LZ (bc (x:=y0) (by have:=gY 0 m0;rw[Nat.add_zero]at this;rw[this];exact Vr) ?_);refine LZ (gR C k1 n0 (mY y0 my0) (g:=X) lX gX mX sX λk Xo Q3 SH=>?_);have lo:∀x∈X.take k,r x<=r y0:=λx hx=>by have:=Q3 x hx;simpa [QQ]using this
 have up:∀x∈X.drop k,r y0<=r x:=λx hx=>by
  have:=SH x hx;simp[QQ]at this
  lia
 refine aI (λc=>Mm (same _ k1 f1 rfl rfl λx hx y hy=>?_)) λc=>?_
 ·have c':na - k=0:=beq_iff_eq.mp c;have Qb:x∈X.take k:=by rw[Rk (by lia)];exact hx
  exact NM (lo x Qb) (Zi y hy)
 have c':na - k≠0:=λz=>c (beq_iff_eq.mpr z)
 refine LZ (bc (x:=xl) (by show(arrOf st)[sa+k+(na - k) - 1]?=_;rw[show sa+k+(na - k) - 1=sa+(na - 1)by lia,gX _ (by lia)];exact hxl) ?_);refine LZ (gR C k1 (show nb - 1<nb by lia) (mX xl mxl) (g:=Y) lY gY mY sY λk2 Vs Tw Tx=>?_);have WD:∀y∈Y.take k2,r y<=r xl:=λx hx=>by
  have:=Tw x hx;simp[QQ]at this
  lia
 have UE:∀y∈Y.drop k2,r xl<=r y:=λx hx=>by have:=Tx x hx;simpa [QQ]using this
 refine aI (λc=>Mm (same _ k1 f1 rfl rfl λx hx y hy=>?_)) λc2=>?_
 ·have c':k2=0:=beq_iff_eq.mp c;rw[c']at UE;exact NM (lel x hx) (UE y hy)
 have Si:k2≠0:=λz=>c2 (beq_iff_eq.mpr z)
 have ex:((arrOf st).extract (sa+k) (sa+na)).toList=X.drop k:=by rw[TM,List.extract_eq_drop_take,e,<- lP,<- X2,ZL (Mw _),List.drop_length,PR,ZL (by lia),show P.length+na - (P.length+k)=(X.drop k).length by rw[Qy];lia];exact List.take_left
 have ey:((arrOf st).extract (sa+na) (sa+na+k2)).toList=Y.take k2:=by rw[TM,List.extract_eq_drop_take,e,<- lP,<- lX,<- X2,ZL (Mw _),List.drop_length,PR,ZL (Mw _),List.drop_length,PR,XJ,List.take_append_of_le_length (by lia)]
 have fin:∀(z:Array Keyed) (LX:SortSt),Res r (X.drop k++Y.take k2) z->bU (SortSt.mk' (kindOf st) (arrOf st) (((pendingOf st).setIfInBounds i (sa,na+nb,p)).eraseIdxIfInBounds (i+1)) (gallopOf st) (failedOf st)) LX->wpS M A E s (do
   modify λst=>setArr st (z.toList.zipIdx.foldl (λa (x:Keyed×Nat)=>match x with|(p,j)=>a.setIfInBounds (sa+k+j) p) (arrOf st))
   let y←get
   pure (failedOf y).isNone) Q LX:=λz LX ⟨z1,z2⟩ L=>by
  refine LZ (TR (LZ (wpS_get (Mm ?_))));show Q (failedOf LX).isNone _;rw[L.f,f1];refine h _ (X.take k++(z.toList++Y.drop k2)) (L.k.trans k1) (L.f.trans f1) L.p ?_ ?_ ?_
  ·show(z.toList.zipIdx.foldl _ (arrOf LX)).toList=_;rw[wO (sa+k) z.toList 0 (arrOf LX) (P++X.take k) (X.drop k++Y.take k2) (Y.drop k2++S) ?_ ?_ ?_]
   ·simp only[Pn]
   ·rw[show arrOf LX=arrOf st from L.a,e];have t1:=Qh k X;have t2:=Qh k2 Y
    conv=>lhs;rw[<- t1,<- t2]
    simp only[Pn]
   ·rw[Nz,P8,lP,R4 (by lia)];rfl
   ·exact z2.length_eq.symm
  ·have t1:=Qh k X;have t2:=Qh k2 Y;have:(X.take k++(z.toList++Y.drop k2)).Perm (X.take k++((X.drop k++Y.take k2)++Y.drop k2)):=List.Perm.append_left _ (List.Perm.append_right _ z2);refine this.trans (List.Perm.of_eq ?_)
   conv=>rhs;rw[<- t1,<- t2]
   simp only[Pn]
  ·have in1:∀x∈X.take k,∀y∈Y,r x<=r y:=λx hx y hy=>NM (lo x hx) (Zi y hy)
   have inX:∀x∈X.take k,∀y∈X.drop k,r x<=r y:=by have:=sX;rw[<- Qh k X]at this;exact(Sr.mp this).2.2
   have inY:∀x∈Y.take k2,∀y∈Y.drop k2,r x<=r y:=by have:=sY;rw[<- Qh k2 Y]at this;exact(Sr.mp this).2.2
   refine Sr.mpr ⟨sX.sublist (VM _ _),Sr.mpr ⟨z1,sY.sublist (List.drop_sublist _ _),λx hx y hy=>?_⟩,λx hx y hy=>?_⟩
   ·rcases MC.mp (z2.mem_iff.mp hx)with q|q
    ·exact NM (lel x (UU q)) (UE y hy)
    ·exact inY x q y hy
   ·rcases MC.mp hy with q|q
    ·rcases MC.mp (z2.mem_iff.mp q)with q|q
     ·exact inX x hx y q
     ·exact in1 x hx y (UW q)
    ·exact in1 x hx y (UU q)
 have sx':((arrOf st).extract (sa+k) (sa+na)).toList.Pairwise λx y=>r x<=r y:=by rw[ex];exact sX.sublist (List.drop_sublist _ _)
 have sy':((arrOf st).extract (sa+na) (sa+na+k2)).toList.Pairwise λx y=>r x<=r y:=by rw[ey];exact sY.sublist (VM _ _)
 have mx':∀x∈((arrOf st).extract (sa+k) (sa+na)).toList,Mem x:=by rw[ex];exact λx hx=>mX x (UU hx)
 have my':∀x∈((arrOf st).extract (sa+na) (sa+na+k2)).toList,Mem x:=by rw[ey];exact λx hx=>mY x (UW hx)
 have zx:((arrOf st).extract (sa+k) (sa+na)).size=na - k:=by rw[<- P6,ex,Qy,lX]
 have zy:((arrOf st).extract (sa+na) (sa+na+k2)).size=k2:=by rw[<- P6,ey,P8,lY];exact R4 Vs
 have px:0<((arrOf st).extract (sa+k) (sa+na)).size:=by rw[zx];lia
 have py:0<((arrOf st).extract (sa+na) (sa+na+k2)).size:=by rw[zy];lia
 have hl:∀x,(X.drop k)[na - k - 1]?=some x->x=xl:=λx hx=>by rw[VG,show k+(na - k - 1)=na - 1 by lia,hxl]at hx;cases hx;rfl
 have hf0:∀y,(Y.take k2)[0]?=some y->y=y0:=λy hy=>by rw[XO,Lx (by lia),Vr]at hy;cases hy;rfl
 refine aI (λc3=>?_) λc3=>?_
 ·refine LZ (Ep C k1 mx' my' sx' sy' px py ?_ ?_ λz LX hz L=>fin z LX (by rw[ex,ey]at hz;exact hz) L)
  ·intro x hx y hy;rw[ey]at hy;rw[ex,zx]at hx;rw[hl x (by rw[<- Nat.add_zero (na - k - 1),<- VG,hx];rfl)];exact WD y hy
  ·intro y hy x hx;rw[ex]at hx;rw[<- NH,ey]at hy;rw[hf0 y hy];exact up x hx
 ·refine LZ (Eo C k1 mx' my' sx' sy' px py ?_ ?_ λz LX hz L=>fin z LX (by rw[ex,ey]at hz;exact hz) L)
  ·intro x hx y hy;rw[ey]at hy;rw[<- NH,ex,zx]at hx;rw[hl x hx];exact WD y hy
  ·intro y hy x hx;rw[ex]at hx;rw[ey]at hy;rw[hf0 y (by
    have:((Y.take k2).take 1)[0]?=some y:=by rw[hy];rfl
    rw[XO,Lx (by decide)]at this;exact this)]
   exact up x hx
end
section
variable{r:Keyed->Nat}
def fU{xs ys:Array Keyed}{i j:Nat}(h:xs[i]?=ys[j]?):rk r xs i=rk r ys j:=by unfold rk;rw[h]
def nJ{xs:Array Keyed}{j:Nat}(hj:j<=xs.size)(k:Nat):rk r (mirror xs i j ((j - i) / 2)) k=if i<=k/\k<j then rk r xs (i+j - 1 - k)else rk r xs k:=by
 have e:=getElem?_mirror_all (i:=i) hj k;by_cases h1:i<=k/\k<j
 ·rw[Lx h1]at e ⊢;exact fU e
 ·rw[Lw h1]at e ⊢;exact fU e
def gA{xs:Array Keyed}{i j:Nat}(hj:j<=xs.size)(heq:∀k,i<=k->k<j->rk r xs k=rk r xs (j - 1))(k:Nat):rk r (mirror xs i j ((j - i) / 2)) k=rk r xs k:=by
 rw[nJ hj];split
 ·rw[heq _ (by omega) (by omega),heq k (by omega) (by omega)]
 ·rfl
def uz{xs:Array Keyed}{src d:Nat}(hs:src<xs.size)(hd:d<=src)(k:Nat):rk r (bubble xs src d) k=if k=src - d then rk r xs src else if src - d<k/\k<=src then rk r xs (k - 1)else rk r xs k:=by
 have e:=getElem?_bubble hs d hd k;by_cases h1:k=src - d
 ·rw[Lx h1]at e ⊢;exact fU e
 ·rw[Lw h1]at e ⊢;by_cases h2:src - d<k/\k<=src
  ·rw[Lx h2]at e ⊢;exact fU e
  ·rw[Lw h2]at e ⊢;exact fU e
def Dn(r:Keyed->Nat)(xs:Array Keyed)(lo hi:Nat):Prop:=∀i j,lo<=i->i<=j->j<hi->rk r xs j<=rk r xs i
end
structure Nr(lo:Nat)(st st':SortSt):Prop where
 k:kindOf st'=kindOf st
 f:failedOf st'=failedOf st
 p:pendingOf st'=pendingOf st
 a:(arrOf st').Perm (arrOf st)
 fr:∀i,i<lo->(arrOf st')[i]?=(arrOf st)[i]?
theorem Nr.refl(lo:Nat)(st:SortSt):Nr lo st st:=⟨rfl,rfl,rfl,Array.Perm.refl _,λ_ _=>rfl⟩
theorem Nr.size{lo:Nat}{st st':SortSt}(h:Nr lo st st'):(arrOf st').size=(arrOf st).size:=h.a.size_eq
theorem Nr.trans{lo:Nat}{st st' LX:SortSt}(h:Nr lo st st')(g:Nr lo st' LX):Nr lo st LX:=⟨g.k.trans h.k,g.f.trans h.f,g.p.trans h.p,g.a.trans h.a,λi hi=>(g.fr i hi).trans (h.fr i hi)⟩
def Nr.mir{lo i j:Nat}{st st':SortSt}(h:Nr lo st st')(hi:lo<=i)(hj:j<=(arrOf st).size):Nr lo st (setArr st' (mirror (arrOf st') i j ((j - i) / 2))):=⟨h.k,h.f,h.p,(mirror_perm _ _ _ _).trans h.a,λk hk=>by show(mirror (arrOf st') i j ((j - i) / 2))[k]?=_;rw[getElem?_mirror_all (by rw[h.size];exact hj),Lw (by lia)];exact h.fr k hk⟩
section
variable{M:Model}{A:Around}{E:yaa}{s:Shared}{r:Keyed->Nat}{Mem:Keyed->Prop}{k0:SortKind}
def jz{st:SortSt}{i j:Nat}{Q:Option Bool->SortSt->Prop}(C:SG M A E s r Mem k0)(hk:kindOf st=k0)(hm:∀x∈(arrOf st).toList,Mem x)(hi:i<(arrOf st).size)(hj:j<(arrOf st).size)(h:Q (some (decide (rk r (arrOf st) i<rk r (arrOf st) j))) st):wpS M A E s (ltAt' i j) Q st:=by have gi:(arrOf st)[i]?=some (arrOf st)[i]:=getElem?_pos _ i hi;have gj:(arrOf st)[j]?=some (arrOf st)[j]:=getElem?_pos _ j hj;refine wpS_ltAt C hk gi gj (hm _ (by simp)) (hm _ (by simp)) ?_;unfold rk at h;rw[gi,gj]at h;exact h
def Nr.mem{lo:Nat}{st st':SortSt}(h:Nr lo st st')(hm:∀x∈(arrOf st).toList,Mem x):∀x∈(arrOf st').toList,Mem x:=λx hx=>hm x ((XA.mp h.a).mem_iff.mp hx)
def BH{st:SortSt}{lo Pd:Nat}{Q:Option Nat->SortSt->Prop}(C:SG M A E s r Mem k0)(hk:kindOf st=k0)(hm:∀x∈(arrOf st).toList,Mem x)(hs:lo+Pd=(arrOf st).size)(h1:1<=Pd)
  (h:∀m st',1<=m->m<=Pd->Nr lo st st'->Seg r (arrOf st') lo (lo+m)->Q (some m) st'):wpS M A E s (countRun' lo Pd) Q st:=by
 refine LZ (Qz (QY (a:=1) (b:=Pd) (I:=λx z st'=>st'=st/\z=(none,x)/\1<=x/\Seg r (arrOf st) lo (lo+x)) (Q:=λz st'=>st'=st/\∃n,z=(none,n)/\1<=n/\n<=Pd/\Seg r (arrOf st) lo (lo+n)/\(n=Pd∨rk r (arrOf st) (lo+n)<rk r (arrOf st) (lo+n - 1))) ?_ ?_ ⟨rfl,rfl,Mw _,λi j a b c=>by rw[show i=j by lia];exact Mw _⟩) ?_)
 ·rintro x z st' hx1 hx ⟨rfl,rfl,_,sg⟩;refine LZ (jz C hk hm (by show lo+x<_;lia) (by show lo+x - 1<_;lia) ?_);refine aI (λc=>Mm ⟨rfl,x,rfl,hx1,by lia,sg,.inr (OP c)⟩) λc=>Mm ⟨rfl,rfl,by lia,λi j a b d=>?_⟩
  have c':¬rk r (arrOf st') (lo+x)<rk r (arrOf st') (lo+x - 1):=λe=>c (NL e)
  by_cases e:j=lo+x
  ·subst e;by_cases e2:i=lo+x
   ·subst e2;exact Mw _
   ·exact NM (sg i (lo+x - 1) a (by lia) (by lia)) (Sv.mp c')
  ·exact sg i j a b (by lia)
 ·rintro z st' ⟨rfl,rfl,hx,sg⟩;exact⟨rfl,_,rfl,hx,by lia,sg,.inl (by lia)⟩
 ·rintro z st' ⟨rfl,n,rfl,n1,n2,sg,last⟩;refine aI (λ_=>Mm (h n st' n1 n2 (Nr.refl _ _) sg)) λc=>?_
  have c':n≠Pd:=λe=>c (beq_iff_eq.mpr e)
  have last:rk r (arrOf st') (lo+n)<rk r (arrOf st') (lo+n - 1):=last.resolve_left c'
  suffices key:∀RU,Nr lo st' RU->Dn r (arrOf RU) lo (lo+(n+1))->wpS M A E s _ _ RU by
   refine aI (λn3=>LZ (jz C hk hm (by lia) (by show lo+n - 1<_;lia) (aI (λ_=>Mm (h n st' n1 n2 (Nr.refl _ _) sg)) λrose=>?_))) λn3=>?_
   ·skip
    have rose':¬rk r (arrOf st') lo<rk r (arrOf st') (lo+n - 1):=λe=>rose (NL e)
    have eqs:∀k,lo<=k->k<lo+n->rk r (arrOf st') k=rk r (arrOf st') (lo+n - 1):=λk a b=>by
     have:=sg lo k (Mw _) a b;have:=sg k (lo+n - 1) a (by lia) (by lia)
     lia
    have rkm:=gA (r:=r) (xs:=arrOf st') (i:=lo) (j:=lo+n) (by lia) eqs;refine LZ (TR ?_);have N:Nr lo st' (setArr st' (mirror (arrOf st') lo (lo+n) ((lo+n - lo) / 2))):=(Nr.refl lo st').mir (Mw _) (by lia);have dn:Dn r (arrOf (setArr st' (mirror (arrOf st') lo (lo+n) ((lo+n - lo) / 2)))) lo (lo+(n+1)):=λi j a b c=>by
     show rk r (mirror (arrOf st') lo (lo+n) ((lo+n - lo) / 2)) j<=rk r (mirror (arrOf st') lo (lo+n) ((lo+n - lo) / 2)) i;rw[rkm,rkm];by_cases ej:j=lo+n
     ·by_cases ei:i=lo+n
      ·rw[ei,ej];exact Mw _
      ·rw[eqs i a (by lia),ej];lia
     ·rw[eqs i a (by lia),eqs j (by lia) (by lia)];exact Mw _
    exact key _ N dn
   ·skip
    have N:=Nr.refl lo st';have en:n=1:=by lia
    have dn:Dn r (arrOf st') lo (lo+(n+1)):=λi j a b c=>by
     subst en;by_cases ej:j=lo+1
     ·by_cases ei:i=lo+1
      ·rw[ei,ej];exact Mw _
      ·rw[show i=lo by lia,ej];rw[Nat.add_sub_cancel]at last
       lia
     ·rw[show i=j by lia];exact Mw _
    exact key _ N dn
  intro RU N dn;refine LZ (wpS_lift (wpAny_rule ⟨rfl,?_⟩));refine LZ (Qz (QY (a:=n+1) (b:=Pd) (I:=λx z LX=>Nr lo st' LX/\∃q,z=(none,x,q)/\n+1<=x/\q+1<=x/\Dn r (arrOf LX) lo (lo+x)/\∀i,lo+x - (q+1)<=i->i<lo+x->rk r (arrOf LX) i=rk r (arrOf LX) (lo+x - 1)) (Q:=λz LX=>Nr lo st' LX/\∃x q,z=(none,x,q)/\n+1<=x/\x<=Pd/\q+1<=x/\Dn r (arrOf LX) lo (lo+x)/\∀i,lo+x - (q+1)<=i->i<lo+x->rk r (arrOf LX) i=rk r (arrOf LX) (lo+x - 1)) ?_ ?_ ⟨N,0,rfl,Mw _,by lia,dn,λi a b=>by rw[show i=lo+(n+1) - 1 by lia]⟩) ?_)
  ·clear N dn;rintro x z LX hx1 hx ⟨N,q,rfl,x1,q1,dn,eq⟩;have sz:=N.size;refine LZ (jz C (N.k.trans hk) (N.mem hm) (by show lo+x<_;lia) (by show lo+x - 1<_;lia) ?_);refine aI (λc=>?_) λc=>?_
   ·have c':=OP c;have ext:∀xs:Array Keyed,(∀k,rk r xs k=rk r (arrOf LX) k)->Dn r xs lo (lo+(x+1)):=λxs e i j a b d=>by
     rw[e,e];by_cases ej:j=lo+x
     ·by_cases ei:i=lo+x
      ·rw[ei,ej];exact Mw _
      ·have c2:rk r (arrOf LX) (lo+x)<rk r (arrOf LX) (lo+x - 1):=c';rw[ej];exact NM (S4 c2) (dn i (lo+x - 1) a (by lia) (by lia))
     ·exact dn i j a b (by lia)
    refine aI (λ_=>LZ (TR (Mm ⟨N.mir (by show lo<=lo+x - (q+1);lia) (by show lo+x<=_;lia),0,rfl,by lia,by lia,ext _ (gA (by show lo+x<=(arrOf LX).size;lia) eq),λi a b=>?_⟩))) λ_=>Mm ⟨N,0,rfl,by lia,by lia,ext _ λ_=>rfl,λi a b=>?_⟩
    ·rw[show i=lo+(x+1) - 1 by lia]
    ·rw[show i=lo+(x+1) - 1 by lia]
   ·have c':¬rk r (arrOf LX) (lo+x)<rk r (arrOf LX) (lo+x - 1):=λe=>c (NL e)
    refine LZ (jz C (N.k.trans hk) (N.mem hm) (by show lo+x - 1<_;lia) (by show lo+x<_;lia) ?_);refine aI (λd=>Mm ⟨N,x,q,rfl,x1,by lia,q1,dn,eq⟩) λd=>?_
    have d':¬rk r (arrOf LX) (lo+x - 1)<rk r (arrOf LX) (lo+x):=λe=>d (NL e)
    have e0:rk r (arrOf LX) (lo+x)=rk r (arrOf LX) (lo+x - 1):=by lia
    refine Mm ⟨N,q+1,rfl,by lia,by lia,λi j a b e=>?_,λi a b=>?_⟩
    ·by_cases ej:j=lo+x
     ·by_cases ei:i=lo+x
      ·rw[ei,ej];exact Mw _
      ·rw[ej,e0];exact dn i (lo+x - 1) a (by lia) (by lia)
     ·exact dn i j a b (by lia)
    ·rw[show lo+(x+1) - 1=lo+x by lia,e0];by_cases ei:i=lo+x
     ·rw[ei,e0]
     ·exact eq i (by lia) (by lia)
  ·rintro z LX ⟨N,q,rfl,x1,q1,dn,eq⟩;exact⟨N,_,q,rfl,x1,by lia,q1,dn,eq⟩
  ·clear N dn;rintro z LX ⟨N,x,q,rfl,x1,x2,q1,dn,eq⟩;have sz:=N.size;have asc:∀OU:SortSt,Nr lo st' OU->Dn r (arrOf OU) lo (lo+x)->∀i j,lo<=i->i<=j->j<lo+x->rk r (mirror (arrOf OU) lo (lo+x) ((lo+x - lo) / 2)) i<=rk r (mirror (arrOf OU) lo (lo+x) ((lo+x - lo) / 2)) j:=λOU N3 Zj i j a b c=>by
    rw[nJ (by rw[N3.size];lia),nJ (by rw[N3.size];lia),Lx ⟨a,by lia⟩,Lx ⟨by lia,c⟩];exact Zj _ _ (by lia) (by lia) (by lia)
   suffices key:∀RU,Nr lo st' RU->Dn r (arrOf RU) lo (lo+x)->wpS M A E s _ _ RU by
    refine aI (λq3=>LZ (TR ?_)) λq3=>?_
    ·skip
     have N3:=N.mir (i:=lo+x - (q+1)) (j:=lo+x) (by lia) (by lia);have Zj:Dn r (mirror (arrOf LX) (lo+x - (q+1)) (lo+x) ((lo+x - (lo+x - (q+1))) / 2)) lo (lo+x):=λi j a b c=>by rw[gA (by lia) eq,gA (by lia) eq];exact dn i j a b c
     exact key _ N3 Zj
    ·exact key _ N dn
   intro RU N3 Zj;refine LZ (TR ?_);have N4:=N3.mir (i:=lo) (j:=lo+x) (Mw _) (by lia);have Tz:=asc _ N3 Zj;refine LZ (Qz (QY (a:=x) (b:=Pd) (I:=λy z Na=>Nr lo st' Na/\z=(none,y)/\x<=y/\Seg r (arrOf Na) lo (lo+y)) (Q:=λz Na=>Nr lo st' Na/\∃y,z=(none,y)/\x<=y/\y<=Pd/\Seg r (arrOf Na) lo (lo+y)) ?_ ?_ ⟨N4,rfl,Mw _,Tz⟩) ?_)
   ·rintro y z Na hy1 hy ⟨N5,rfl,_,WE⟩;have sz5:=N5.size;refine LZ (jz C (N5.k.trans hk) (N5.mem hm) (by show lo+y<_;lia) (by show lo+y - 1<_;lia) ?_);refine aI (λc=>Mm ⟨N5,y,rfl,hy1,by lia,WE⟩) λc=>Mm ⟨N5,rfl,by lia,λi j a b d=>?_⟩
    have c':¬rk r (arrOf Na) (lo+y)<rk r (arrOf Na) (lo+y - 1):=λe=>c (NL e)
    by_cases e:j=lo+y
    ·subst e;by_cases e2:i=lo+y
     ·subst e2;exact Mw _
     ·exact NM (WE i (lo+y - 1) a (by lia) (by lia)) (Sv.mp c')
    ·exact WE i j a b (by lia)
   ·rintro z Na ⟨N5,rfl,hy,WE⟩;exact⟨N5,_,rfl,hy,by lia,WE⟩
   ·rintro z Na ⟨N5,y,rfl,hy,hy2,WE⟩;exact Mm (h y Na (by lia) hy2 N5 WE)
def DF{st:SortSt}{lo n ok:Nat}{Q:Bool->SortSt->Prop}(C:SG M A E s r Mem k0)(hk:kindOf st=k0)(hm:∀x∈(arrOf st).toList,Mem x)(hn:lo+n<=(arrOf st).size)(Mh:ok<=n)(h0:Seg r (arrOf st) lo (lo+ok))
  (h:∀st',Nr lo st st'->Seg r (arrOf st') lo (lo+n)->Q true st'):wpS M A E s (binarySort' lo n ok) Q st:=by
 refine LZ (Qz (QY (I:=λk c st'=>c=(none,())/\Nr lo st st'/\Seg r (arrOf st') lo (lo+min k n)) (Q:=λc st'=>c=(none,())/\Nr lo st st'/\Seg r (arrOf st') lo (lo+n)) ?step ?fin ?init) ?post)
 case post =>
  rintro c st' ⟨rfl,N,sg⟩;exact Mm (h st' N sg)
 case init =>
  refine⟨rfl,Nr.refl _ _,λi j a b c=>?_⟩;by_cases h1:ok=0
  ·rw[show i=j by lia];exact Mw _
  ·exact h0 i j a b (by lia)
 case fin =>
  rintro c st' ⟨hc,N,sg⟩;exact⟨hc,N,by rw[show min (max (max ok 1) n) n=n by lia]at sg;exact sg⟩
 case step =>
  rintro k c st' hak Uw ⟨rfl,N,sg⟩;have sz:=N.size;rw[show min k n=k by lia]at sg;refine LZ (Qz (QY (a:=0) (b:=k) (I:=λx c LX=>LX=st'/\∃l u,c=(none,l,u)/\l<=u/\u<=k/\u - l<=k - x/\(∀i,i<l->rk r (arrOf st') (lo+i)<=rk r (arrOf st') (lo+k))/\(∀i,u<=i->i<k->rk r (arrOf st') (lo+k)<rk r (arrOf st') (lo+i)))
   (Q:=λc LX=>LX=st'/\∃l u,c=(none,l,u)/\l<=k/\(∀i,i<l->rk r (arrOf st') (lo+i)<=rk r (arrOf st') (lo+k))/\(∀i,l<=i->i<k->rk r (arrOf st') (lo+k)<rk r (arrOf st') (lo+i))) ?Zk ?ifin ⟨rfl,0,k,rfl,by lia,by lia,by lia,λi hi=>by lia,λi h1 h2=>by lia⟩) ?Zm)
  case ifin =>
   rintro c LX ⟨rfl,l,u,rfl,hlr,hrk,Vt,Q3,SH⟩;have:l=u:=by lia
   subst this;exact⟨rfl,l,l,rfl,hrk,Q3,SH⟩
  case Zk =>
   rintro x c LX _ hxk ⟨rfl,l,u,rfl,hlr,hrk,Vt,Q3,SH⟩;refine aI (λUI=>?_) λUI=>?_
   ·have hge':l≥u:=UI;have:l=u:=by lia
    subst this;exact Mm ⟨rfl,l,l,rfl,hrk,Q3,SH⟩
   ·have hge':¬l≥u:=UI;refine LZ (jz C (N.k.trans hk) (N.mem hm) (by lia) (by show lo+(l+u) / 2<_;lia) ?_);refine aI (λTB=>?_) λTB=>?_
    ·have QD:rk r (arrOf LX) (lo+k)<rk r (arrOf LX) (lo+(l+u) / 2):=OP TB;refine Mm ⟨rfl,l,(l+u) / 2,rfl,by lia,by lia,by lia,Q3,λi h1 h2=>?_⟩;exact OM QD (sg _ _ (by lia) (by lia) (by lia))
    ·have QD:¬rk r (arrOf LX) (lo+k)<rk r (arrOf LX) (lo+(l+u) / 2):=λe=>TB (NL e)
     refine Mm ⟨rfl,(l+u) / 2+1,u,rfl,by lia,by lia,by lia,λi h1=>?_,SH⟩;exact NM (sg (lo+i) (lo+(l+u) / 2) (by lia) (by lia) (by lia)) (Sv.mp QD)
  case Zm =>
   rintro c LX ⟨rfl,l,u,rfl,hlk,Q3,SH⟩;have Ws:lo+k<(arrOf LX).size:=by lia
   refine LZ (TR (Mm ⟨rfl,⟨N.k,N.f,N.p,(bubble_perm _ _ _).trans N.a,λi hi=>?_⟩,λi j a b c=>?_⟩))
   ·show(bubble (arrOf LX) (lo+k) (lo+k - (lo+l)))[i]?=_;rw[getElem?_bubble Ws _ (by lia),Lw (by lia),Lw (by lia)];exact N.fr i hi
   ·show rk r (bubble (arrOf LX) (lo+k) (lo+k - (lo+l))) i<=rk r (bubble (arrOf LX) (lo+k) (lo+k - (lo+l))) j;have hl2:∀i,lo<=i->i<lo+l->rk r (arrOf LX) i<=rk r (arrOf LX) (lo+k):=λi a b=>by
     have:=Q3 (i - lo) (by lia);rw[show lo+(i - lo)=i by lia]at this;exact this
    have hh2:∀i,lo+l<=i->i<lo+k->rk r (arrOf LX) (lo+k)<rk r (arrOf LX) i:=λi a b=>by have:=SH (i - lo) (by lia) (by lia);rw[show lo+(i - lo)=i by lia]at this;exact this
    rw[uz Ws (by lia),uz Ws (by lia),show lo+k - (lo+k - (lo+l))=lo+l by lia]
    repeat' split
    all_goals first
     |(exfalso;lia)
     |exact Mw _
     |exact hl2 _ (by lia) (by lia)
     |exact S4 (hh2 _ (by lia) (by lia))
     |exact sg _ _ (by lia) (by lia) (by lia)
end
def Chain:List (Nat×Nat×Nat)->Nat->Nat->Prop
 |[],s,e=>s=e
 |q::ps,s,e=>q.1=s/\0<q.2.1/\Chain ps (s+q.2.1) e
theorem Chain.len:∀{ps:List (Nat×Nat×Nat)} {s e:Nat},Chain ps s e->s+ps.length<=e
 |[],s,e,h=>by have h':s=e:=h;simp[h']
 |q::ps,s,e,h=>by
  obtain⟨_,h2,h3⟩:=h;have:=Chain.len h3;simp only[Qx]
  lia
theorem Chain.app:∀{ps qs:List (Nat×Nat×Nat)} {s e:Nat},Chain (ps++qs) s e↔∃ m,Chain ps s m/\Chain qs m e
 |[],qs,s,e=>⟨λh=>⟨s,rfl,h⟩,λ⟨m,h1,h2⟩=>by have:s=m:=h1;rw[this];exact h2⟩
 |q::ps,qs,s,e=>by
  constructor
  ·rintro⟨a,b,c⟩;obtain⟨m,h1,h2⟩:=Chain.app.mp c;exact⟨m,⟨a,b,h1⟩,h2⟩
  ·rintro⟨m,⟨a,b,c⟩,h2⟩;exact⟨a,b,Chain.app.mpr ⟨m,c,h2⟩⟩
theorem Chain.in_:∀{ps:List (Nat×Nat×Nat)} {s e:Nat},Chain ps s e->∀q∈ps,s<=q.1/\q.1+q.2.1<=e
 |[],_,_,_,q,h=>by cases h
 |p::ps,s,e,h,q,hq=>by
  obtain⟨a,b,c⟩:=h;have l:=Chain.len c;rcases L9.mp hq with z|z
  ·rw[z];lia
  ·have:=Chain.in_ c q z
   lia
theorem ua{f:Nat×Nat×Nat->Nat×Nat×Nat}(hf:∀q,(f q).1=q.1/\(f q).2.1=q.2.1):∀{ps:List (Nat×Nat×Nat)} {s e:Nat} (i:Nat),Chain ps s e->Chain (ps.modify i f) s e
 |[],s,e,i,h=>by rw[List.modify_nil];exact h
 |q::ps,s,e,0,⟨a,b,c⟩=>by rw[List.modify_cons,Lx rfl];exact⟨(hf q).1.trans a,by rw[(hf q).2];exact b,by rw[(hf q).2];exact c⟩
 |q::ps,s,e,i+1,⟨a,b,c⟩=>by rw[List.modify_succ_cons];exact⟨a,b,ua hf i c⟩
theorem zA{f:Nat×Nat×Nat->Nat×Nat×Nat}(hf:∀q,(f q).1=q.1/\(f q).2.1=q.2.1):∀{ps:List (Nat×Nat×Nat)} (i:Nat) {q:Nat×Nat×Nat},q∈ps.modify i f->∃q'∈ps,q.1=q'.1/\q.2.1=q'.2.1
 |[],i,q,h=>by rw[List.modify_nil]at h;cases h
 |p::ps,0,q,h=>by
  rw[List.modify_cons,Lx rfl]at h;rcases L9.mp h with z|z
  ·exact⟨p,by simp,by rw[z];exact(hf p).1,by rw[z];exact(hf p).2⟩
  ·exact⟨q,by simp[z],rfl,rfl⟩
 |p::ps,i+1,q,h=>by
  rw[List.modify_succ_cons]at h;rcases L9.mp h with z|z
  ·exact⟨p,by simp,by rw[z],by rw[z]⟩
  ·obtain⟨q',m,e⟩:=zA hf i z;exact⟨q',MO _ m,e⟩
def Em{ps:List (Nat×Nat×Nat)}{q:Nat×Nat×Nat}(h:q∈ps.modify i f)(hf:∀q,(f q).1=q.1/\(f q).2.1=q.2.1):∃q'∈ps,q.1=q'.1/\q.2.1=q'.2.1:=zA hf i h
section
variable{M:Model}{A:Around}{E:yaa}{s:Shared}{r:Keyed->Nat}{Mem:Keyed->Prop}{k0:SortKind}
structure PI(r:Keyed->Nat)(st st':SortSt)(lo:Nat):Prop where
 k:kindOf st'=kindOf st
 f:failedOf st'=failedOf st
 a:(arrOf st').Perm (arrOf st)
 ch:Chain (pendingOf st').toList 0 lo
 sg:∀q∈(pendingOf st').toList,Seg r (arrOf st') q.1 (q.1+q.2.1)
theorem PI.size{st st':SortSt}{lo:Nat}(h:PI r st st' lo):(arrOf st').size=(arrOf st).size:=h.a.size_eq
def PI.mem{st st':SortSt}{lo:Nat}(h:PI r st st' lo)(hm:∀x∈(arrOf st).toList,Mem x):∀x∈(arrOf st').toList,Mem x:=λx hx=>hm x ((XA.mp h.a).mem_iff.mp hx)
def mr{xs ys:Array Keyed}{lo hi:Nat}(h:Seg r xs lo hi)(e:∀i,lo<=i->i<hi->ys[i]?=xs[i]?):Seg r ys lo hi:=λi j a b c=>by rw[fU (e i a (by lia)),fU (e j (by lia) c)];exact h i j a b c
def JW{α:Type}{l:List α}{i:Nat}(h:i+1<l.length):∃as x y bs,l=as++(x::y::bs)/\as.length=i/\l[i]?=some x/\l[i+1]?=some y:=by refine⟨l.take i,l[i],l[i+1],l.drop (i+2),?_,by rw[P8];lia,MZ (by lia),MZ h⟩;have e1:l.drop i=l[i]::l.drop (i+1):=Ub (by lia);have e2:l.drop (i+1)=l[i+1]::l.drop (i+2):=Ub h;rw[<- e2,<- e1,Qh]
def zN{st st':SortSt}{lo i:Nat}{Q:Bool->SortSt->Prop}(C:SG M A E s r Mem k0)(hk:kindOf st=k0)(hf:failedOf st=none)(hm:∀x∈(arrOf st).toList,Mem x)(Q3:lo<=(arrOf st).size)(I:PI r st st' lo)(hi:i+1<(pendingOf st').size)
  (h:∀LX,PI r st LX lo->(pendingOf LX).size+1=(pendingOf st').size->(∀i,lo<=i->(arrOf LX)[i]?=(arrOf st')[i]?)->Q true LX):wpS M A E s (mergeAt' i) Q st':=by
 obtain⟨as,x,y,bs,el,la,gx,gy⟩:=JW (l:=(pendingOf st').toList) hi;have ch:=I.ch;rw[el]at ch;obtain⟨m,c1,⟨x1,x2,⟨y1,y2,c2⟩⟩⟩:=Chain.app.mp ch;have l2:=c2.len;have sz:=I.size;obtain⟨P,XY,S,e,lP,lXY⟩:=Ii (arrOf st') (lo:=m) (n:=x.2.1+y.2.1) (by lia);obtain⟨X,Y,TC,lX,lY⟩:∃X Y,XY=X++Y/\X.length=x.2.1/\Y.length=y.2.1:=⟨XY.take x.2.1,XY.drop x.2.1,(Qh _ _).symm,by rw[P8];lia,by rw[Qy];lia⟩;subst TC;have sx:=I.sg x (by rw[el];simp);have sy:=I.sg y (by rw[el];simp);have e1:(arrOf st').toList=P++(X++(Y++S)):=by rw[e,Pn]
 have e2:(arrOf st').toList=(P++X)++(Y++S):=by rw[e1,Pn]
 have sX:X.Pairwise λx y=>r x<=r y:=kC e1 (by rw[lP,lX,<- x1];exact sx)
 have sY:Y.Pairwise λx y=>r x<=r y:=kC e2 (by rw[Nz,lP,lX,lY,<- y1];exact sy)
 refine En C (I.k.trans hk) (I.f.trans hf) (I.mem hm) (sa:=x.1) (na:=x.2.1) (p:=x.2.2) (sb:=y.1) (nb:=y.2.1) (p2:=y.2.2) (by rw[<- NH];exact gx) (by rw[<- NH];exact gy) e1 (by lia) lX lY (by lia) x2 y2 sX sY λLX Z a1 a2 a3 a4 a5 a6=>?_
 have pe:(pendingOf LX).toList=as++((x.1,x.2.1+y.2.1,x.2.2)::bs):=by rw[a3,Array.toList_eraseIdxIfInBounds,zDN,el,<- la,List.set_append_right _ _ (Mw _),VT,List.set_cons_zero,List.eraseIdx_append_of_length_le (by lia),XJ];rfl
 have lZ:Z.length=x.2.1+y.2.1:=by rw[a5.length_eq,Nz,lX,lY]
 have outL:∀i,i<m->(arrOf LX)[i]?=(arrOf st')[i]?:=λi hi=>by rw[<- NH,<- NH,a4,e,QT (by lia),QT (by lia)]
 have Zn:∀i,m+(x.2.1+y.2.1)<=i->(arrOf LX)[i]?=(arrOf st')[i]?:=λi hi=>by rw[<- NH,<- NH,a4,e,P5 (by lia),P5 (by lia),P5 (by lia),P5 (by lia),lZ,lXY]
 refine h LX ⟨a1.trans hk.symm,a2.trans hf.symm,?_,?_,λq hq=>?_⟩ ?_ λi hi=>Zn i (by lia)
 ·refine Array.Perm.trans (XA.mpr ?_) I.a;rw[a4,e];exact List.Perm.append_left _ (List.Perm.append_right _ a5)
 ·rw[pe];exact Chain.app.mpr ⟨m,c1,x1,by show 0<x.2.1+y.2.1;lia,by show Chain bs (m+(x.2.1+y.2.1)) lo;rw[<- Nat.add_assoc];exact c2⟩
 ·rw[pe]at hq;rcases MC.mp hq with z|z
  ·have:=c1.in_ q z;exact mr (I.sg q (by rw[el];exact Qj _ z)) λi a b=>outL i (by lia)
  ·rcases L9.mp z with z|z
   ·rw[z];show Seg r (arrOf LX) x.1 (x.1+(x.2.1+y.2.1));have:=yI (r:=r) a4 a6;rw[lP,lZ]at this;rw[x1];exact this
   ·have:=c2.in_ q z;exact mr (I.sg q (by rw[el];exact Oq _ (MO _ (MO _ z)))) λi a b=>Zn i (by lia)
 ·have z1:(pendingOf LX).toList.length=(pendingOf LX).size:=rfl;have z2:(pendingOf st').toList.length=(pendingOf st').size:=rfl;rw[<- z1,<- z2,pe,el];simp only[Nz,Qx]
  lia
def C8{st:SortSt}{Q:Unit->SortSt->Prop}(C:SG M A E s r Mem k0)(hk:kindOf st=k0)(hf:failedOf st=none)(hp:pendingOf st=#[])(hm:∀x∈(arrOf st).toList,Mem x)(n1:1<=(arrOf st).size)
  (h:∀st',(arrOf st').Perm (arrOf st)->failedOf st'=none->Seg r (arrOf st') 0 (arrOf st).size->Q () st'):wpS M A E s sortRuns' Q st:=by
 have I0:PI r st st 0:=⟨rfl,rfl,Array.Perm.refl _,by rw[hp];exact rfl,λq hq=>by rw[hp]at hq;cases hq⟩;refine LZ (wpS_get ?_);refine LZ (Qz (QY (a:=0) (b:=(arrOf st).size) (I:=λx z st'=>∃lo,z=(none,lo)/\lo<=(arrOf st).size/\(x<=lo∨(arrOf st).size<=lo)/\PI r st st' lo) (Q:=λz st'=>z=(none,(arrOf st).size)/\PI r st st' (arrOf st).size) ?_ ?_ ⟨0,rfl,OE _,.inl (Mw _),I0⟩) ?_)
 ·rintro x z RU _ hx ⟨lo,rfl,Q3,hx2,I⟩;have sz:=I.size;refine aI (λc=>?_) λc=>?_
  ·have c':lo≥(arrOf st).size:=c;have e:lo=(arrOf st).size:=by lia
   subst e;exact Mm ⟨rfl,I⟩
  have c':¬lo≥(arrOf st).size:=c;refine LZ (BH C (I.k.trans hk) (I.mem hm) (show lo+((arrOf st).size - lo)=(arrOf RU).size by lia) (show 1<=(arrOf st).size - lo by lia) λm LX m1 m2 N sg=>?_);have m2':m<=(arrOf st).size - lo:=m2;have sz2:=N.size;have keep:∀{OU:SortSt},Nr lo RU OU->PI r st OU lo:=fun {OU} N3=>⟨N3.k.trans I.k,N3.f.trans I.f,N3.a.trans I.a,by rw[N3.p];exact I.ch,λq hq=>by rw[N3.p]at hq;have:=I.ch.in_ q hq;exact mr (I.sg q hq) λi a b=>N3.fr i (by lia)⟩
  refine aI (λcm=>?_) λcm=>?_
  case' refine_1 =>
   refine LZ (wpS_lift (wpAny_rule ⟨rfl,?_⟩));refine LZ (DF C ((N.k.trans I.k).trans hk) (λx hx=>I.mem hm x ((XA.mp N.a).mem_iff.mp hx)) (lo:=lo) (n:=min ((arrOf st).size - lo) (minRun' (arrOf st).size (arrOf st).size 0)) (ok:=m) (by lia) ?_ sg λOU N3 WG=>?_)
   case' refine_1.refine_1 =>
    have cm':m<minRun' (arrOf st).size (arrOf st).size 0:=cm
    lia
   refine aI (λz=>absurd z (by decide)) λ_=>?_
   have NN:=N.trans N3;obtain⟨n,hn⟩:∃n,n=min ((arrOf st).size - lo) (minRun' (arrOf st).size (arrOf st).size 0):=⟨_,rfl⟩;rw[<- hn]at WG;have n0:0<n:=by
    have cm':m<minRun' (arrOf st).size (arrOf st).size 0:=cm
    lia
   have nn:lo+n<=(arrOf st).size:=by lia
  case' refine_2 =>
   have NN:=N;obtain⟨n,hn⟩:∃n,n=m:=⟨_,rfl⟩;have WG:=sg;rw[<- hn]at WG;have n0:0<n:=by lia
   have nn:lo+n<=(arrOf st).size:=by lia
  all_goals
   have I3:=keep NN;have psh:∀Na:SortSt,PI r st Na lo->Seg r (arrOf Na) lo (lo+n)->PI r st (setPending Na ((pendingOf Na).push (lo,n,0))) (lo+n):=λNa I4 Tz=>⟨I4.k,I4.f,I4.a,by
    show Chain ((pendingOf Na).push (lo,n,0)).toList 0 (lo+n);rw[VI];exact Chain.app.mpr ⟨lo,I4.ch,rfl,n0,rfl⟩,λq hq=>by
    have Te:q∈((pendingOf Na).push (lo,n,0)).toList:=hq;rw[VI]at Te;rcases MC.mp Te with z|z
    ·exact I4.sg q z
    ·rw[NI.mp z];exact Tz⟩
   have Vu:∀e,n=e->∀Na:SortSt,PI r st Na lo->Seg r (arrOf Na) lo (lo+n)->∃Zo,((none,lo+e):Option Unit×Nat)=(none,Zo)/\Zo<=(arrOf st).size/\(x+1<=Zo∨(arrOf st).size<=Zo)/\PI r st (setPending Na ((pendingOf Na).push (lo,e,0))) Zo:=λe he Na I4 Tz=>by subst he;exact⟨lo+n,rfl,nn,by lia,psh Na I4 Tz⟩
   refine LZ (wpS_get ?_);dsimp only;split
   ·refine LZ (Qz (QY (a:=0) (b:=(arrOf st).size) (I:=λx z Na=>z=(none,())/\PI r st Na lo/\Seg r (arrOf Na) lo (lo+n)) (Q:=λz Na=>z=(none,())/\PI r st Na lo/\Seg r (arrOf Na) lo (lo+n)) ?_ (λ_ _ z=>z) ⟨rfl,I3,WG⟩) ?_)
    ·rintro x z Na _ hx ⟨rfl,I4,Tz⟩;refine LZ (wpS_get ?_);split
     ·rename_i heq;have hp:(pendingOf Na).size > 1:=by
       by_cases c:(pendingOf Na).size > 1
       ·exact c
       ·rw[Lw c]at heq;cases heq
      refine aI (λ_=>Mm ⟨rfl,I4,Tz⟩) λ_=>LZ (zN C hk hf hm (by lia) I4 (show(pendingOf Na).size - 2+1<(pendingOf Na).size by lia) λVe I5 _ fr=>?_)
      exact aI (λz=>absurd z (by decide)) λ_=>Mm ⟨rfl,I5,mr Tz λi a b=>fr i a⟩
     ·exact Mm ⟨rfl,I4,Tz⟩
    ·rintro z Na ⟨rfl,I4,Tz⟩;refine LZ (TR ?_);refine LZ (TR (Mm (Vu _ hn _ ?_ ?_)))
     ·exact⟨I4.k,I4.f,I4.a,by
       show Chain ((pendingOf Na).modify _ _).toList 0 lo;rw[Array.toList_modify];refine ua ?_ _ I4.ch;exact λ_=>⟨rfl,rfl⟩,λq hq=>by
       have Te:q∈((pendingOf Na).modify _ _).toList:=hq;rw[Array.toList_modify]at Te;obtain⟨q',m',e1,e2⟩:=Em Te λ_=>⟨rfl,rfl⟩
       rw[e1,e2];exact I4.sg q' m'⟩
     ·exact Tz
   ·exact LZ (TR (Mm (Vu _ hn _ I3 WG)))
 ·rintro z st' ⟨lo,rfl,h1,h2,I⟩;have e:lo=(arrOf st).size:=by lia
  rw[e]at I;exact⟨by rw[e],I⟩
 ·rintro z st' ⟨rfl,I⟩;have sz:=I.size;have pl:=I.ch.len;have pl':(pendingOf st').size<=(arrOf st).size:=by rw[QX]at pl;exact pl
  refine LZ (Qz (QY (a:=0) (b:=(arrOf st).size) (I:=λx z LX=>z=(none,())/\PI r st LX (arrOf st).size/\((pendingOf LX).size<=1∨(pendingOf LX).size+x<=(arrOf st).size)) (Q:=λz LX=>z=(none,())/\PI r st LX (arrOf st).size/\(pendingOf LX).size<=1) ?_ ?_ ⟨rfl,I,.inr pl'⟩) ?_)
  ·rintro x z LX _ hx ⟨rfl,I2,h2⟩;refine LZ (wpS_get ?_);refine aI (λc=>Mm ⟨rfl,I2,c⟩) λc=>?_
   have c':¬(pendingOf LX).size<=1:=c;have ix:∀(c:Prop) [Decidable c],(if c then(pendingOf LX).size - 2 - 1 else(pendingOf LX).size - 2)+1<(pendingOf LX).size:=λc _=>by split<;>lia
   refine LZ (zN C hk hf hm (Mw _) I2 (ix _) λOU I3 h3 _=>?_);refine aI (λz=>absurd z (by decide)) λ_=>Mm ⟨rfl,I3,by lia⟩
  ·rintro z LX ⟨rfl,I2,h2⟩;exact⟨rfl,I2,by lia⟩
  ·rintro z LX ⟨rfl,I2,h2⟩;refine Mm (h LX I2.a (I2.f.trans hf) ?_);have z1:(pendingOf LX).toList.length=(pendingOf LX).size:=rfl;have ch:=I2.ch;have sg:=I2.sg;generalize (pendingOf LX).toList=ps at *;rcases ps with _|⟨q,_|⟨q2,ps⟩⟩
   ·have:0=(arrOf st).size:=ch
    lia
   ·obtain⟨a,b,c⟩:=ch;have c':0+q.2.1=(arrOf st).size:=c;have:=sg q (by simp);rw[a,c']at this;exact this
   ·simp only[Qx]at z1
    lia
end
end TS
namespace SW
open PySem PyProof.Rows
section
variable{prog:Program}{w:World}{A:Around}{E:yaa}{s:Shared}
def Eg(a:(TK prog w).is h k c)(b:(TK prog w).is h k' c):k=k':=by obtain⟨o,items,n,ho,hc,hd,hi⟩:=a;obtain⟨o',Wu,n',Pq,RO,Rf,hi'⟩:=b;rw[ho]at Pq;cases Pq;rw[hd]at Rf;cases Rf;exact PySem.ItemsAre.inj hi hi'
def Cv {zs:List (yaf×Addr)} {P:PySem.Fin->Shared->Prop} (ho:s.heap.get? a=some (seqObj "list" ((zs.map (·.2)).map Value.ref).toArray n)) (hz:zs.length<=sizeLine)
  (h:∀z∈zs,(TK prog w).is s.heap z.1 z.2/\z.1 ≠ [])
  (hP:∀h' (ys:List (yaf×Addr)) c2,ys.Perm zs->ys.Pairwise (λx y=>lexLt y.1 x.1=false)->(∀b o,b≠a->s.heap.get? b=some o->h'.get? b=some o) →
   h'.get? a=some (seqObj "list" ((ys.map (·.2)).map Value.ref).toArray c2)->P (.done (.ret .none)) {s with heap:=h'}):wpAny (model prog w) A (Builtin.«list.sort» ⟨[.ref a],[]⟩) P E s:=by
 have ha:a<s.heap.objs.size:=Nn ho;have lv:((zs.map (·.2)).map Value.ref).length=zs.length:=by rw[LJ,LJ]
 obtain⟨e1,Vp⟩:∃e1,(s.heap.update a (Obj.mapSeq λ_=>(#[]:yao))).get? a=some (seqObj "list" #[] e1):=⟨_,get?_update_seq ho λ_=>#[]⟩;rw[list_sort_plain];refine LA (listItems_at ho rfl ?_);refine LA (listUpdate_at ho rfl ?_ (by rw[Ot,lv];exact hz) (OE _));refine LA (seqEpoch_at Vp rfl ?_);refine LA (wpAny_newTuple ?_ (by show((zs.map (·.2)).map Value.ref).length<=_;rw[lv];exact hz));refine LA (wpAny_newList ?_ (OE _));refine QN ?_;show wpAny (model prog w) A _ P E {s with heap:=((s.heap.update a (Obj.mapSeq λ_=>(#[]:yao))).push (seqObj "tuple" ((zs.map (·.2)).map Value.ref).toArray 0)).push (seqObj "list" #[] 0)};have UD:(((s.heap.update a (Obj.mapSeq λ_=>(#[]:yao))).push (seqObj "tuple" ((zs.map (·.2)).map Value.ref).toArray 0)).push (seqObj "list" #[] 0)).get? a=some (seqObj "list" #[] e1):=Oi _ (Oi _ Vp);have Rr:∀b o,b≠a->s.heap.get? b=some o->(((s.heap.update a (Obj.mapSeq λ_=>(#[]:yao))).push (seqObj "tuple" ((zs.map (·.2)).map Value.ref).toArray 0)).push (seqObj "list" #[] 0)).get? b=some o:=λb o hb e =>
  Oi _ (Oi _ ((VD _ _ (Ne.symm hb)).trans e))
 generalize ((s.heap.update a (Obj.mapSeq λ_=>(#[]:yao))).push (seqObj "tuple" ((zs.map (·.2)).map Value.ref).toArray 0)).push (seqObj "list" #[] 0)=H at UD Rr ⊢;have fin:∀(ys:List (yaf×Addr)) (out:yao),ys.Perm zs->ys.Pairwise (λx y=>lexLt y.1 x.1=false)->out=((ys.map (·.2)).map Value.ref).toArray->P (.done (.ret .none)) {s with heap:=H.update a (Obj.mapSeq λ_=>out)}:=λys out O S e=>by subst e;obtain⟨c2,hc2⟩:∃c2,(H.update a (Obj.mapSeq λ_=>((ys.map (·.2)).map Value.ref).toArray)).get? a=some (seqObj "list" ((ys.map (·.2)).map Value.ref).toArray c2):=⟨_,get?_update_seq UD λ_=>((ys.map (·.2)).map Value.ref).toArray⟩;exact hP _ ys c2 O S (λb o hb e=>(VD _ _ (Ne.symm hb)).trans (Rr b o hb e)) hc2
 have pe:(((zs.map (·.2)).map Value.ref).toArray.zip ((zs.map (·.2)).map Value.ref).toArray).toList=zs.map λz=>(Value.ref z.2,Value.ref z.2):=by
  rw[Array.toList_zip];show((zs.map (·.2)).map Value.ref).zip ((zs.map (·.2)).map Value.ref)=_;clear fin Rr UD Vp hP h ho lv hz
  induction zs with
  |nil=>rfl
  |cons z zs ih=>simp only[MR,List.zip_cons_cons];rw[ih]
 dsimp only;by_cases hn:((zs.map (·.2)).map Value.ref).toArray.size<2
 ·rw[Lx hn,Lx hn];refine LA (Ma ?_);rw[StateT.run_pure];refine LA (Ma ?_);dsimp only;refine LA (seqEpoch_at UD rfl ?_);have oe:(((zs.map (·.2)).map Value.ref).toArray.zip ((zs.map (·.2)).map Value.ref).toArray).map (·.2)=((zs.map (·.2)).map Value.ref).toArray:=by
   apply Array.toList_inj.mp;rw[Array.toList_map,pe,OH,OH];rfl
  refine LA (listUpdate_at UD rfl ?_ (hsz2:=by rw[oe,Ot,lv];exact Nat.le_succ_of_le hz));simp only[bne_self_eq_false,QL,if_false];refine Ma (fin zs _ (W9 _) ?_ oe);rw[Ot,lv]at hn
  match zs,hn with
  |[],_=>exact .nil
  |[_],_=>exact List.pairwise_singleton _ _
 ·rw[Lw hn,Lw hn];rw[Ot,lv]at hn;have hH:∀z∈zs,(TK prog w).is H z.1 z.2/\z.1 ≠ []:=λz Qp=>by
   obtain⟨q1,q2⟩:=h z Qp;exact⟨kZ q1 λo e=>Rr z.2 o (key_ne q1 ho rfl (by decide)) e,q2⟩
  have gj:∀(j:Nat) (c:Addr),(zs.map (·.2))[j]?=some c->∃z∈zs,zs[j]?=some z/\z.2=c:=λj c hj=>by
   rw[OD]at hj;cases e:zs[j]? with
   |none=>rw[e]at hj;cases hj
   |some z=>rw[e]at hj;cases hj;exact⟨z,OL e,rfl,rfl⟩
  refine LA (yn (s:={s with heap:=H}) (cs:=zs.map (·.2)) (K:=λj=>(zs.getD j ([],0)).1) (by rw[LJ];lia) (λj c hj=>by obtain⟨z,Qp,e,rfl⟩:=gj j c hj;rw[OZ,e];exact hH z Qp) ?_)
  let key:Keyed->yaf:=λp=>by
   classical
   exact if q:∃z∈zs,p.1=Value.ref z.2 then(Classical.choose q).1 else[]
  have R9:∀z∈zs,∀v,key (Value.ref z.2,v)=z.1:=λz Qp v=>by
   have q:∃z'∈zs,(Value.ref z.2:Value)=Value.ref z'.2:=⟨z,Qp,rfl⟩;show(if q:∃z'∈zs,(Value.ref z.2:Value)=Value.ref z'.2 then(Classical.choose q).1 else[])=z.1;rw[dif_pos q];obtain⟨m,e⟩:=Classical.choose_spec q;have e':z.2=(Classical.choose q).2:=by injection e
   have k1:=(hH _ m).1;rw[<- e']at k1;exact Eg k1 (hH z Qp).1
  have C:TS.SG (model prog w) A E {s with heap:=H} (λp=>rank (zs.map (·.1)) (key p)) (λp=>∃z∈zs,p=(Value.ref z.2,Value.ref z.2)) (tuples' true):=⟨λx y st Q ⟨z,hz1,ex⟩ ⟨z',hz2,ey⟩ hk q=>by subst ex ey;rw[lt'_eq];refine LZ (wpS_get ?_);rw[hk];refine LZ (wpS_lift (wpAny_attempt (BC (hH z hz1).1 (hH z' hz2).1 ⟨rfl,?_⟩)));refine Mm ?_;rw[R9 z hz1,R9 z' hz2,zG (Ms.mpr ⟨z,hz1,rfl⟩) (Ms.mpr ⟨z',hz2,rfl⟩)]at q;exact q⟩
  refine LA (PU (TS.C8 (Q:=λ_ st'=>∃ys:List (yaf×Addr),ys.Perm zs/\ys.Pairwise (λx y=>lexLt y.1 x.1=false)/\failedOf st'=none/\(arrOf st').toList=ys.map λz=>(Value.ref z.2,Value.ref z.2)) C rfl rfl rfl ?_ ?_ ?_) ?_ λ_ _ e=>e)
  ·intro x hx;have Qb:x∈(((zs.map (·.2)).map Value.ref).toArray.zip ((zs.map (·.2)).map Value.ref).toArray).toList:=hx;rw[pe]at Qb;obtain⟨z,Qp,rfl⟩:=Ms.mp Qb;exact⟨z,Qp,rfl⟩
  ·show 1<=(((zs.map (·.2)).map Value.ref).toArray.zip ((zs.map (·.2)).map Value.ref).toArray).size;rw[<- P6,pe,LJ]
   lia
  ·intro st' pm hf sg;have pl:=XA.mp pm;have pl':(arrOf st').toList.Perm (((zs.map (·.2)).map Value.ref).toArray.zip ((zs.map (·.2)).map Value.ref).toArray).toList:=pl;rw[pe]at pl';obtain⟨ys,py,ey⟩:=xo pl' zs rfl;refine⟨ys,py,?_,hf,ey⟩;have len:(arrOf st').toList.length=ys.length:=by rw[ey,LJ]
   have sg2:((arrOf st').toList).Pairwise λx y=>rank (zs.map (·.1)) (key x)<=rank (zs.map (·.1)) (key y):=TS.kC (xs:=arrOf st') (P:=[]) (S:=[]) (by simp) (by have:(arrOf st').toList.length=(((zs.map (·.2)).map Value.ref).toArray.zip ((zs.map (·.2)).map Value.ref).toArray).size:=pm.size_eq;rw[this];show TS.Seg _ (arrOf st') 0 (0+_);rw[QX];exact sg)
   rw[ey,VJ]at sg2;refine sg2.imp_of_mem fun {x y} hx hy q=>?_
   have mx:=py.mem_iff.mp hx;have my:=py.mem_iff.mp hy;rw[R9 x mx,R9 y my]at q;rw[<- zG (Ms.mpr ⟨y,my,rfl⟩) (Ms.mpr ⟨x,mx,rfl⟩)];exact R5 (Sv.mpr q)
  ·rintro⟨⟨⟩,st'⟩ s' ⟨rfl,ys,py,sy,hf,ey⟩;dsimp only;have hout:(arrOf st').map (·.2)=((ys.map (·.2)).map Value.ref).toArray:=by
    apply Array.toList_inj.mp;rw[Array.toList_map,ey,OH,OH];rfl
   rw[hout];refine LA (seqEpoch_at UD rfl ?_);refine LA (listUpdate_at UD rfl ?_ (OE _) (by rw[Ot,LJ,LJ,py.length_eq];exact Nat.le_succ_of_le hz));have Zb:failedOf st'=none:=hf;rw[Zb];simp only[bne_self_eq_false,QL,if_false];exact Ma (fin ys _ py sy rfl)
end
open PySem PySem.SetTable ST PySem.W PyProof.Rows
section
variable{prog:Program}{w:World}{A:Around}{E:yaa}{s:Shared}
def KQ(prog:Program)(w:World)(A:Around)(s:Shared)(v:Value)(xs:List (yaf×Addr)):Prop:=∀(R:yad->Shared->Prop) (E:yaa),(∀s1 (zs:List (yaf×Addr)),zs.Perm xs->(∀b o,s.heap.get? b=some o->s1.heap.get? b=some o)->s1.gens=s.gens->s1.drawn=s.drawn->s1.os=s.os->s.heap.objs.size<=s1.heap.objs.size->R ((zs.map (·.2)).map Value.ref) s1)->wpAny (model prog w) A (collect v) R E s
def C9{Q:yaa}(hcol:KQ prog w A.in1 s v xs)(hn:xs.length<=900)(Tq:∀x∈xs,(TK prog w).is s.heap x.1 x.2/\x.1 ≠ [])
  (hQ:∀s' (D:Addr) (ys:List (yaf×Addr)) c,(∀b o,s.heap.get? b=some o->s'.heap.get? b=some o)->s'.gens=s.gens->s'.drawn=s.drawn->s'.os=s.os->s.heap.objs.size<=D->ys.Perm xs->ys.Pairwise (λx y=>lexLt y.1 x.1=false) →
   s'.heap.get? D=some (seqObj "list" (ys.map λy=>Value.ref y.2).toArray c)->Q (.ref D) s'):wpAny (model prog w) A (call (.builtin "sorted") [v]) Q E s:=by
 refine Calls.call_function_entry kind_sorted plain_sorted entry_sorted (args_sorted1 _) ?_;unfold Builtin.«sorted»;refine LA (m:=checkCount "sorted" 1 1 _) (Ma ?_);refine LA (hcol _ _ λs1 zs pz kp g1 g2 g3 le=>?_);have lz:zs.length=xs.length:=pz.length_eq;have sl:900<=sizeLine:=by rw[sizeLine_eq];decide
 refine LA (wpAny_newList ?_ (by rw[LJ,LJ];lia));have Z2:(s1.heap.push (seqObj "list" ((zs.map (·.2)).map Value.ref).toArray 0)).get? s1.heap.objs.size=some (seqObj "list" ((zs.map (·.2)).map Value.ref).toArray 0):=Qu _ rfl;have kp2:∀b o,s.heap.get? b=some o->(s1.heap.push (seqObj "list" ((zs.map (·.2)).map Value.ref).toArray 0)).get? b=some o:=λb o e=>Oi _ (kp b o e)
 show wpAny _ _ _ _ _ {s1 with heap:=s1.heap.push (seqObj "list" ((zs.map (·.2)).map Value.ref).toArray 0)};refine LA (QN (X0 slot_list_sort ⟨_,Z2,rfl⟩ entry_list_sort ?body (args_list_sort _)))
 case body =>
  refine Cv (s:={s1 with heap:=s1.heap.push (seqObj "list" ((zs.map (·.2)).map Value.ref).toArray 0)}) Z2 (by lia) (λz hz=>?_) λh' ys c2 py sy Rr hD=>?_
  ·have:=Tq z (pz.mem_iff.mp hz);exact⟨kZ this.1 λo e=>kp2 _ o e,this.2⟩
  ·refine⟨_,rfl,Ma ⟨_,rfl,hQ _ s1.heap.objs.size ys c2 (λb o e=>?_) g1 g2 g3 le (py.trans pz) sy ?_⟩⟩
   ·exact Rr b o (O6 (OM (Nn e) le)) (kp2 b o e)
   ·rw[OH]at hD;exact hD
def yJ{Q:yaa}(hh:A.handled=none)(X:iQ prog w s.heap a xs)(hn:xs.length<=900)(NK:∀x∈xs,x.1 ≠ [])
  (hQ:∀s' (D:Addr) (ys:List (yaf×Addr)) c,(∀b o,s.heap.get? b=some o->s'.heap.get? b=some o)->s'.gens=s.gens->s'.drawn=s.drawn->s'.os=s.os->s.heap.objs.size<=D->ys.Perm xs->ys.Pairwise (λx y=>lexLt x.1 y.1=true) →
   s'.heap.get? D=some (seqObj "list" (ys.map λy=>Value.ref y.2).toArray c)->Q (.ref D) s'):wpAny (model prog w) A (call (.builtin "sorted") [.ref a]) Q E s:=by
 obtain⟨⟨o,es,ep,t,ho,hex,hd,he,T,M9,_,_⟩,Tq,nd⟩:=X;have sz:es.size=xs.length:=by rw[<- P6,he,LJ]
 refine C9 (xs:=xs) (λR E' k=>?_) hn (λx hx=>⟨Tq x hx,NK x hx⟩) λs' D ys c a1 a2 a3 a4 a5 py sy hD=>hQ s' D ys c a1 a2 a3 a4 a5 py ?_ hD
 ·refine ye (show A.in1.handled=none from hh) ho hex.1 hd T (by rw[LJ,sz]) M9 (by lia) λs1 acc kp g1 g2 g3 le ea=>?_
  obtain⟨zs,pz,ez⟩:=xo (pF w a es ep) xs he;have ea':acc=(zs.map (·.2)).map Value.ref:=by rw[ea,ez,OH,OH];rfl
  rw[ea'];exact k s1 zs pz kp g1 g2 g3 le
 ·have nd2:(ys.map (·.1)).Nodup:=(py.map (·.1)).nodup_iff.mpr nd;have nd3:ys.Pairwise λx y=>x.1≠y.1:=VJ.mp nd2
  refine(sy.and nd3).imp fun {x y} LO=>?_
  obtain⟨q1,q2⟩:=LO;rcases kA _ _ q1 with e|e
  ·exact absurd e.symm q2
  ·exact e
end
end SW
namespace PD
open PySem PySem.Spec PyProof.Rows L2
section
variable{X:Cx}{pos:Pos}
def boot_sorted:bootBuiltins "sorted" = some (.builtin "sorted"):=by kernel_rfl
def boot_set:bootBuiltins "set" = some (.type "set"):=by kernel_rfl
theorem qZ:∀{ns:yaf} {us:yad},Vals (ns.map V.int) us->PySem.ItemsAre (intKind prog w) ns us
 |[],us,r=>by rw[R7]at r;cases r;exact .nil
 |n::ns,us,r=>by
  rw[MR]at r;cases r with
  |cons h t =>
   obtain⟨tk,rfl⟩:=h;exact .cons (by simp[intKind,Value.isInt]) (qZ t)
def zr{k:yaf}(I:Inv X pins σ H s)(h:M6 X.K H a (k.map V.int)):(SW.TK X.prog X.w).is s.heap k a:=by obtain⟨LC,r,⟨o,e,hc,n,hd⟩,_⟩:=I.tuple h.w;exact⟨o,LC.toArray,n,e,hc,hd,by simpa using qZ r⟩
def Ce(hr:bN k A):A.in1.in1.in1.units<cLine:=VH (Nat.add_le_add_left (by decide:3<=64) _) hr.units
def tupI(k:yaf):D:=.tup (k.map D.int)
def KI{K:yac}{P:yak}{H:Hp}{k:yaf}{v:V}(h:Den K P H (tupI k) v):∃a,v=.ref a/\M6 K H a (k.map V.int):=by obtain⟨a,vs,e,q,hd⟩:=h.Qc;rw[jE hd]at q;exact⟨a,e,q⟩
def vM(ys ks:List (yaf)):Prop:=ys.Pairwise (λx y=>SW.lexLt x y=true)/\∀k,k∈ys↔k∈ks
def DW(te:DE):DA:=λρ Q=>te ρ λd=>∃t ks,d=.lst t (ks.map tupI)/\ks.length<=900/\(∀k∈ks,k ≠ [])/\∀ys,vM ys ks->Q (ys.map tupI)
def qO {e:Expr} {te:DE} {p p2 Sj:Pos} (hc:X.calm=true) (hu:X.A.in1.in1.in1.units<cLine) (hg:Gl X "sorted") (hm:X.mg "sorted" = none) (hg2:Gl X "set") (SJ:X.mg "set" = none) (he:Mf X e te)
  (OK:starEach [.Call (.Name "set" p2) [e] [] Sj] X.env=(false,eval (.Call (.Name "set" p2) [e] [] Sj) X.env)::starEach [] X.env:=by rfl) (M9:(backTo pos (starEach [] X.env)).any (·.1)=false:=by rfl)
  (Sf:starEach [e] X.env=(false,eval e X.env)::starEach [] X.env:=by rfl) (hpl2:(backTo Sj (starEach [] X.env)).any (·.1)=false:=by rfl) :
  Qo X (.Call (.Name "sorted" p) [.Call (.Name "set" p2) [e] [] Sj] [] pos) (DW te):=by
 intro pins s σ H W ρ Q I r h;refine TP (fx I hg hm boot_sorted ?_ (by decide) (by decide));refine PyProof.Rows.callWith_builtin1 ?_ OK M9;rw[OK];show wpAny _ _ (spliced ((false,eval (.Call (.Name "set" p2) [e] [] Sj) X.env)::backTo pos (starEach [] X.env))) _ _ s;refine Calls.spliced_cons ?_;refine TP (fx I hg2 SJ boot_set ?_ (by decide) (by decide));refine PyProof.Rows.callWith_type1 ?_ Sf hpl2;rw[Sf];show wpAny _ _ (spliced ((false,eval e X.env)::backTo Sj (starEach [] X.env))) _ _ s;refine Calls.spliced_cons (LK (he pins s σ H W ρ _ I r h) λu s1 LO=>?_);obtain⟨v,H1,d,I1,rv,e1,hd,t,ks,ed,lk,NK,q⟩:=LO;subst ed;obtain⟨l,vs,ev,_,hq,hw⟩:=hd.OJ;subst ev;cases rv;refine Ma ?_;obtain⟨LC,rv,pl,_⟩:=I1.list hq;have hh:=I1.ok.hd hc;have lvs:vs.length=ks.length:=by rw[hw.len,LJ]
 have lit:LC.length=ks.length:=by rw[<- rv.length,lvs]
 have at_:∀(j:Nat) (k:yaf),ks[j]?=some k->∃c:Addr,LC[j]?=some (Value.ref c)/\M6 X.K H1 c (k.map V.int):=λj k hk=>by obtain⟨v,ev,hv⟩:=hw.get (i:=j) (d:=tupI k) (by rw[OD,hk];rfl);obtain⟨c,rfl,hc⟩:=KI hv;obtain⟨u,eu,ru⟩:=rv.get ev;cases ru;exact⟨c,eu,hc⟩
 refine SW.call_set_list hh hu pl.isList (by rw[Ot];lia) (λj=>ks.getD j []) (λj v hj=>?_) λh2 tk2 ys kp S yl yk yi=>?_
 ·have P4:LC[j]?=some v:=by simpa using hj
  have lj:j<ks.length:=by rw[<- lit];exact(OC.mp P4).1
  obtain⟨c,ec,Pu⟩:=at_ j ks[j] (MZ lj);rw[P4]at ec;cases ec;rw[show ks.getD j []=ks[j]by simp[lj]];exact⟨c,rfl,zr I1 Pu⟩
 ·have I2:L2.Inv X pins σ H1 {s1 with heap:=h2,toks:=tk2}:=I1.kept kp;refine Ma ?_;rw[Ot]at yl yk yi;have Zp:∀k,k∈ys.map (·.1)↔k∈ks:=λk=>by
   rw[yk k];constructor
   ·rintro⟨j,lj,e⟩;rw[lit]at lj;rw[e,show ks.getD j []=ks[j]by simp[lj]];exact Qw lj
   ·intro hk;obtain⟨j,lj,e⟩:=RL hk;exact⟨j,by rw[lit];exact lj,by rw[<- e];simp[lj]⟩
  have den:∀y∈ys,M6 X.K H1 y.2 (y.1.map V.int):=λy hy=>by
   obtain⟨j,lj,ej⟩:=yi y hy;have ej':LC[j]?=some (.ref y.2):=by simpa using ej
   rw[lit]at lj;obtain⟨c,ec,Pu⟩:=at_ j ks[j] (MZ lj);rw[ej']at ec;cases ec;have k1:=zr I2 Pu;rw[(SW.TK X.prog X.w).inj (S.is_ y hy) k1];exact Pu
  refine SW.yJ (s:={s1 with heap:=h2,toks:=tk2}) hh S (by lia) (λy hy=>NK _ ((Zp _).mp (Ms.mpr ⟨y,hy,rfl⟩))) λs' D zs c UC g1 g2 g3 le pz sz hD=>?_
  have lz:zs.length=ys.length:=pz.length_eq;have es:s'={s1 with heap:=s'.heap,toks:=s'.toks}:=by cases s';dsimp only at g1 g2 g3 ⊢;subst g1 g2 g3;rfl
  have hz:s1.heap.objs.size<=D:=by obtain⟨_,_,_,_,ho,_⟩:=S.ex;exact S4 (OM (Nn ho) le)
  have nD:H1 D=none:=I1.Mh.fresh hz;have I3:L2.Inv X pins σ (L2.upd H1 D (.lst (zs.map λz=>V.ref z.2))) s':=by
   rw[es];refine I1.laid (λb u e=>UC b u (kp b u e)) hz ⟨by rw[LJ,sizeLine_eq];lia,zs.map λz=>Value.ref z.2,c,?_,hD⟩;clear pz sz hD lz
   induction zs with
   |nil=>exact .nil
   |cons z zs ih=>exact .cons rfl ih
  have dz:ag X.K W.bad H1 ((zs.map (·.1)).map tupI) (zs.map λz=>V.ref z.2):=by
   have NA:∀z∈zs,M6 X.K H1 z.2 (z.1.map V.int):=λz hz=>den z (pz.mem_iff.mp hz)
   clear pz sz hD lz I3
   induction zs with
   |nil=>exact rfl
   |cons z zs ih =>
    refine ag.cons (Den.tup (NA z O0) ?_) (ih λz hz=>NA z (MO _ hz));show ag X.K W.bad H1 (z.1.map PD.D.int) (z.1.map V.int);generalize z.1=k
    induction k with
    |nil=>exact rfl
    |cons n k Xr=>exact ag.cons (Den.int n) Xr
  have kn:=Inv.kno I3 aV;refine⟨D,_,_,_,rfl,I3,e1.trans (au.upd nD),e1.free nD,kn,aV,ag.apart nD kn dz,q _ ⟨?_,λk=>?_⟩⟩
  ·exact VJ.mpr sz
  ·rw[(pz.map (·.1)).mem_iff];exact Zp k
end
end PD
namespace HT
open PySem PyProof.Rows
section
open PySem.SeqAt
open PySem.AutoSeq1 (wpAny_loadPart')
open PySem.MeetsSeq PySem.MeetsSeq2 PySem.MeetsSeq3
end
end HT
namespace PD
open PySem PySem.Spec PyProof.Rows L2
def D7(g1 g2 g3:DG)(a b c:D)(ρ:Ro)(Q:Ro->Prop):oz 3 (cY g1 (cY g2 (cY g3 ow))) (.tup [a,b,c]) ρ Q=g1 a ρ λPh=>g2 b Ph λNP=>g3 c NP Q:=by rw[As 3 _ _ rfl];simp only[gdc,gdn]
end PD
namespace SW
open PySem PySem.SetTable ST PySem.W PyProof.Rows
section
variable{prog:Program}{w:World}{A:Around}{E:yaa}{s:Shared}
structure Ls(prog:Program)(w:World)(h:Heap)(a:Addr)(xs:List (Int×Tok)):Prop where
 ex:∃o es ep t,h.get? a=some o/\o.ExactSet/\o.data=.set es ep t/\es.toList=xs.map (λx=>((intKind prog w).hash x.1,Value.int x.1 x.2))/\Tab t (xs.map λx=>(intKind prog w).hash x.1)/\(t.plain=true/\t.led=!w.params.followText "set-order")/\7<=t.mask
 nd:(xs.map (·.1)).Nodup
end
end SW
namespace PD
open PySem PySem.Spec PyProof.Rows L2
section
variable{X:Cx}{pos:Pos}
theorem kh:∀{out:yad} {ms:yaf},IntsAre out ms->Vals (ms.map V.int) out
 |_,_,.nil=>.nil
 |_,_,.cons n t r=>.cons ⟨t,rfl⟩ (kh r)
end
def FL(K:yac)(x:Str)(st:Stmt):Prop:=∃(f:Addr) (oc:Value) (od:Option Addr) (kV dc pm:Value) (an:Option Addr) (cd ct:Value) (sl:Array (yan)),
 PySem.W.nsIn K mainGlobals x=some (some (.ref f))/\K.lookup f=some ⟨oc,od,.func (PySem.W.fnOf x x (cT st) (bZ st) (ao st) .none kV dc pm an cd ct),sl⟩/\PySem.W.codeIn K cd x=true/\PySem.W.keepIn K (.ref f)=true
def FL.mk{K:yac}{x:Str}{st:Stmt}{f:Addr}{oc:Value}{od:Option Addr}{kV dc pm:Value}{an:Option Addr}{cd ct:Value}{sl:Array (yan)}(a:PySem.W.nsIn K mainGlobals x=some (some (.ref f)))
  (b:K.lookup f=some ⟨oc,od,.func (PySem.W.fnOf x x (cT st) (bZ st) (ao st) .none kV dc pm an cd ct),sl⟩) (c:PySem.W.codeIn K cd x=true) (d:PySem.W.keepIn K (.ref f)=true):FL K x st:=⟨f,oc,od,kV,dc,pm,an,cd,ct,sl,a,b,c,d⟩
def K7{α:Type}:∀{us:List α},us.length=1->∃a,us=[a]
 |[a],_=>⟨a,rfl⟩
def K8{α:Type}:∀{us:List α},us.length=2->∃a b,us=[a,b]
 |[a,b],_=>⟨a,b,rfl⟩
def K9{α:Type}:∀{us:List α},us.length=3->∃a b c,us=[a,b,c]
 |[a,b,c],_=>⟨a,b,c,rfl⟩
def Ld{α:Type}:∀{us:List α},us.length=4->∃a b c d,us=[a,b,c,d]
 |[a,b,c,d],_=>⟨a,b,c,d,rfl⟩
def Le{α:Type}:∀{us:List α},us.length=5->∃a b c d e,us=[a,b,c,d,e]
 |[a,b,c,d,e],_=>⟨a,b,c,d,e,rfl⟩
def FL.has{K:yac}{x:Str}{st:Stmt}{h:Heap}{mg:yam}{k:Nat}{ps:yah}{sp:DSp}(e:FL K x st)(P:Program)(w:World)(base:Heap)(X:K.In h)(G:h.Ns mainGlobals mg)
  (ok:∀{f:Addr} {fd:FuncData},aw K x x st f fd->aJ P w K mg base (CX1 P w) k f fd ps (aM K sp))
  (hb:∀(kV dc pm:Value) (an:Option Addr) (cd ct:Value) (us:yad),us.length=ps.length->bindArgs (PySem.W.fnOf x x (cT st) (bZ st) (ao st) .none kV dc pm an cd ct) ⟨us,[]⟩=pure (ps.zip us):=by
   intro _ _ _ _ _ _ us hl
   first
    |(obtain⟨_,rfl⟩:=K7 hl;rfl)
    |(obtain⟨_,_,rfl⟩:=K8 hl;rfl)
    |(obtain⟨_,_,_,rfl⟩:=K9 hl;rfl)
    |(obtain⟨_,_,_,_,rfl⟩:=Ld hl;rfl)
    |(obtain⟨_,_,_,_,_,rfl⟩:=Le hl;rfl)
    |(cases UQ hl;rfl)):MU P w K mg base x k ps sp:=by
 obtain⟨f,oc,od,kV,dc,pm,an,cd,ct,sl,a,b,c,d⟩:=e;exact⟨f,_,ok (ot b c d),PySem.W.mg_of X G a,d,.all λus hl=>hb kV dc pm an cd ct us hl⟩
end PD
namespace HT
open PySem PyProof.Rows
section
open PySem.SeqAt
open PySem.AutoSeq1 (wpAny_loadPart')
open PySem.MeetsSeq PySem.MeetsSeq2 PySem.MeetsSeq3
end
end HT
namespace PD
open PySem PySem.Spec PyProof.Rows L2
section
variable{X:Cx}
structure Told(K:yac)(H:Hp)(b c t0:Addr)(k0:Int)(us ws qs:yar):Prop where
 hb:H b=some (.lst (.int k0::us))
 hc:H c=some (.lst (.ref t0::ws))
 ht:H t0=some (.tup (.ref b::qs))
 kb:K.lookup b=none
 kc:K.lookup c=none
 kt:K.lookup t0=none
end
end PD
namespace PZ
open PySem PySem.Spec PyProof.Rows
structure ZT(h:Heap)(xs ys:yao)(B:Addr)(as:yae):Prop where
 nd:as.Nodup
 ab:∀a∈as,B<=a
 pr:∀(j:Nat) (a:Addr),as[j]?=some a->∃x y,xs[j]?=some x/\ys[j]?=some y/\IsPair h a x y
end PZ
namespace PD
open PySem PySem.Spec PyProof.Rows L2
section
variable{X:Cx}{a b c:Expr}{ta tb tc:DE}{pos:Pos}
def D5(ho:Nq X (compareOp op) r)(Pq:Nq X (compareOp op') r')(ha:Mf X a ta)(hb:Mf X b tb)(hc:Mf X c tc)(hm:lastMarks [op,op'] [b,c]=false:=by with_unfolding_all rfl):Q4 X (.Compare a [op,op'] [b,c] pos) (dB (BL r r' ta tb tc)):=by
 intro pins s σ H W ρ Q I rr h;refine isTrue_chain (LK (ha pins s σ H W ρ _ I rr h) λv s1 ⟨vx,H1,x,I1,r1,e1,hx,q1⟩=>test_link (LK (hb pins s1 σ H1 W ρ _ I1 (rr.same e1) q1) λu s2 ⟨vy,H2,y,I2,r2,e2,hy,q2⟩=>
  LK (ho pins s2 σ H2 W x y vx vy v u _ I2 ((rr.same e1).same e2).tracked r1 r2 (hx.same e2) hy q2) λd s3 ⟨vz,H3,z,I3,r3,e3,hz,k,ek,q3⟩=>?_)) hm
 subst ek;have ez:=hz.Tc;subst ez;cases r3;refine WY ?_;have rr3:=((rr.same e1).same e2).same e3;cases k with
 |false =>
  obtain⟨k,ek,q3⟩:=q3;cases ek;exact ite_ff ⟨H3,I3,e1.trans (e2.trans e3),q3⟩
 |true =>
  refine ite_tt (test_last (LK (hc pins s3 σ H3 W ρ _ I3 rr3 q3) λw' s4 ⟨vu,H4,du,I4,r4,e4,hu,q4⟩=>LK (Pq pins s4 σ H4 W y du vy vu u w' _ I4 (rr3.same e4).tracked r2 r4 (hy.same (e3.trans e4)) hu q4) λd s5 LO=>?_));obtain⟨vz,H5,z,I5,r5,e5,hz,k,ek,q5⟩:=LO;subst ek;have ez:=hz.Tc;subst ez;cases r5;exact WY ⟨H5,I5,e1.trans (e2.trans (e3.trans (e4.trans e5))),q5⟩
end
end PD
namespace LW
open PySem PySem.Spec PyProof.Rows L2 PD
seal PD.cO PD.OF PD.Mf PD.Q4 PD.Qe PD.Qn PD.T1 PD.Vd PD.vL PD.Wh PD.Qo PD.PKD PD.Y2 PD.Vl PD.PFL PD.PPK PD.PEK
local macro_rules | `(tactic| walk_at "sc") => `(tactic| exact ⟨rfl, rfl, rfl, by decide +kernel, rfl, by decide +kernel, by decide +kernel⟩)
def top(i:Nat):Stmt:=PySem.Challenge.pw_halvecut_k53_whole_regions.main.body.getD i (.Pass ⟨0,0,0,0⟩)
abbrev xG:Stmt:=top 7
abbrev fV:Stmt:=top 8
abbrev nO:Stmt:=top 9
abbrev oN:Stmt:=top 10
abbrev tK:Stmt:=top 12
abbrev xF:Stmt:=top 13
abbrev me:Stmt:=top 14
abbrev nL:Stmt:=top 15
abbrev xD:Stmt:=top 16
abbrev tI:Stmt:=top 18
abbrev mi:Stmt:=top 19
abbrev xE:Stmt:=top 20
abbrev tJ:Stmt:=top 21
abbrev nP:Stmt:=top 23
abbrev jr:Stmt:=top 24
abbrev iB:Stmt:=top 25
abbrev hJ:Stmt:=top 26
abbrev fZ:Stmt:=top 27
abbrev tH:Stmt:=top 29
abbrev rK:Stmt:=top 30
abbrev gZ:Stmt:=top 32
abbrev eI:Stmt:=top 33
abbrev kI:Stmt:=top 34
abbrev jq:Stmt:=top 35
abbrev gI:Stmt:=top 36
abbrev gJ:Stmt:=top 38
abbrev kf:Stmt:=top 39
abbrev p9:Stmt:=top 40
abbrev AU:Stmt:=top 41
abbrev eG:Stmt:=top 43
abbrev mh:Stmt:=top 44
abbrev iV:Stmt:=top 45
abbrev rL:Stmt:=top 46
abbrev nM:Stmt:=top 47
abbrev gK:Stmt:=top 48
abbrev qa:Stmt:=top 49
abbrev kH:Stmt:=top 51
abbrev iX:Stmt:=top 52
abbrev iZ:Stmt:=top 53
abbrev nN:Stmt:=top 54
abbrev mf:Stmt:=top 55
abbrev kE:Stmt:=top 56
abbrev jN:Stmt:=top 57
abbrev fu:Stmt:=top 58
abbrev gW:Stmt:=top 59
abbrev kG:Stmt:=top 60
abbrev kF:Stmt:=top 61
abbrev iY:Stmt:=top 62
abbrev iW:Stmt:=top 63
abbrev jO:Stmt:=top 64
abbrev i4:Stmt:=top 65
abbrev gH:Stmt:=top 66
abbrev gG:Stmt:=top 67
def Ht:az ["number"] ["number"] (ao xG):=by walk_at "sc"
def cR:az ["one", "other", "rest"] ["one", "other"] (ao fV):=by walk_at "sc"
def mj:az ["triple", "lead", "divisor"] ["triple", "lead"] (ao nO):=by walk_at "sc"
def fW:az ["count", "size", "found", "length", "longer", "pick", "first"] ["count", "size"] (ao oN):=by walk_at "sc"
def EZ:az ["gauge", "place"] ["gauge", "place"] (ao tK):=by walk_at "sc"
def Hs:az ["gauge", "place"] ["gauge", "place"] (ao xF):=by walk_at "sc"
def yD:az ["gauge"] ["gauge"] (ao me):=by walk_at "sc"
def AV:az ["one", "other"] ["one", "other"] (ao nL):=by walk_at "sc"
def zL:az ["one", "other", "gauge"] ["one", "other"] (ao xD):=by walk_at "sc"
def EW:az ["by", "x", "y"] ["by", "x", "y"] (ao tI):=by walk_at "sc"
def yF:az ["spot"] ["spot"] (ao mi):=by walk_at "sc"
def zM:az ["one", "other", "across"] ["one", "other"] (ao xE):=by walk_at "sc"
def EX:az ["one", "two", "three"] ["one", "two", "three"] (ao tJ):=by walk_at "sc"
def AX:az ["dot"] ["dot"] (ao nP):=by walk_at "sc"
def yH:az ["dots"] ["dots"] (ao jr):=by walk_at "sc"
def xJ:az ["dots", "colour"] ["dots", "colour"] (ao iB):=by walk_at "sc"
def EY:az ["dots", "colour"] ["dots", "colour"] (ao hJ):=by walk_at "sc"
def ml:az ["dots", "gauge", "colour", "weights", "dot"] ["dots", "gauge", "colour"] (ao fZ):=by walk_at "sc"
def qb:az ["places", "kept", "each"] ["places"] (ao tH):=by walk_at "sc"
def zK:az ["spots", "places"] ["spots"] (ao rK):=by walk_at "sc"
def rO:az ["dots", "pair"] ["dots", "pair"] (ao gZ):=by walk_at "sc"
def mT:az ["dots", "pairs"] ["dots"] (ao eI):=by walk_at "sc"
def xK:az ["dots", "pair"] ["dots", "pair"] (ao kI):=by walk_at "sc"
def yG:az ["dots", "lines"] ["dots", "lines"] (ao jq):=by walk_at "sc"
def uU:az ["dots"] ["dots"] (ao gI):=by walk_at "sc"
def fX:az ["one", "other", "gauge", "here", "there"] ["one", "other", "gauge"] (ao gJ):=by walk_at "sc"
def gL:az ["corners", "gauge", "kept", "index", "one", "other"] ["corners", "gauge"] (ao kf):=by walk_at "sc"
def nQ:az ["corners", "gauges", "gauge"] ["corners", "gauges"] (ao p9):=by walk_at "sc"
def rN:az ["corners", "first", "index"] ["corners"] (ao AU):=by walk_at "sc"
def uT:az ["dots"] ["dots"] (ao eG):=by walk_at "sc"
def yE:az ["gauge"] ["gauge"] (ao mh):=by walk_at "sc"
def hU:az ["dots", "found", "row"] ["dots"] (ao iV):=by walk_at "sc"
def Hr:az ["planes", "weight"] ["planes", "weight"] (ao rL):=by walk_at "sc"
def AW:az ["dots"] ["dots"] (ao nM):=by walk_at "sc"
def jQ:az ["dots", "planes", "least", "weight"] ["dots", "planes", "least"] (ao gK):=by walk_at "sc"
def C5:az ["dots", "least"] ["dots", "least"] (ao qa):=by walk_at "sc"
def xI:az ["_law_found"] ["_law_found"] (ao kH):=by walk_at "sc"
def tM:az ["_law_script", "_law_k"] ["_law_script", "_law_k"] (ao iX):=by walk_at "sc"
def fh:az ["_law_one", "_law_other", "_law_here", "_law_there"] ["_law_one", "_law_other"] (ao iZ):=by walk_at "sc"
def bu:az ["_law_cell", "_law_kind", "_law_heavy", "_law_number", "_law_x", "_law_y", "_law_weight"] ["_law_cell", "_law_kind", "_law_heavy"] (ao nN):=by walk_at "sc"
def dY:az ["_law_script", "_law_start", "_law_most", "_law_first_here", "_law_kind", "_law_heavy", "_law_dots_here", "_law_cell"] ["_law_script", "_law_start", "_law_most"] (ao mf):=by walk_at "sc"
def aK:az ["_law_dots_here", "_law_here", "_law_found", "_law_ways", "_law_least", "_law_way", "_law_x", "_law_y", "_law_colour", "_law_weight", "_law_right", "_law_up", "_law_sums", "_law_lighter_sum", "_law_turn", "_law_along", "_law_at"] ["_law_dots_here", "_law_here"] (ao kE):=by walk_at "sc"
def mR:az ["_law_by", "_law_x", "_law_y", "_law_share"] ["_law_by", "_law_x", "_law_y"] (ao jN):=by walk_at "sc"
def bM:az ["_law_dots_here", "_law_cell", "_law_number", "_law_one", "_law_two", "_law_three", "_law_by"] ["_law_dots_here", "_law_cell"] (ao fu):=by walk_at "sc"
def rM:az ["_law_found"] ["_law_found"] (ao gW):=by walk_at "sc"
def jP:az ["_law_one", "_law_two", "_law_three", "_law_found"] ["_law_one", "_law_two", "_law_three"] (ao kG):=by walk_at "sc"
def xH:az ["_law_one", "_law_other"] ["_law_one", "_law_other"] (ao kF):=by walk_at "sc"
def dh:az ["_law_found", "_law_here", "_law_k", "_law_j"] ["_law_found"] (ao iY):=by walk_at "sc"
def tL:az ["_law_one", "_law_other", "_law_here"] ["_law_one", "_law_other", "_law_here"] (ao iW):=by walk_at "sc"
def mS:az ["_law_found", "_law_here", "_law_k"] ["_law_found", "_law_here"] (ao jO):=by walk_at "sc"
def fi:az ["_law_dots_here", "_law_least", "_law_caught", "error"] ["_law_dots_here", "_law_least"] (ao i4):=by walk_at "sc"
def dR:az ["_law_dots_here", "_law_least", "_law_places", "_law_found", "_law_whole_weight", "_law_here"] ["_law_dots_here", "_law_least", "_law_places"] (ao gH):=by walk_at "sc"
def dQ:az ["_law_script", "_law_most", "_law_dots_here", "_law_whole_weight", "_law_places", "_law_least", "_law_wrong", "_law_found", "_law_held"] ["_law_script"] (ao gG):=by walk_at "sc"
structure MS where
 PlaneError:Addr
 NoPlace:Addr
 NoLine:Addr
 TooFew:Addr
 NoSuch:Addr
structure MW(K:yac)(mg:yam)(κ:MS):Prop where
 MG:mg "PlaneError" = some (.ref κ.PlaneError)
 Nj:mg "NoPlace" = some (.ref κ.NoPlace)
 Of:mg "NoLine" = some (.ref κ.NoLine)
 NC:mg "TooFew" = some (.ref κ.TooFew)
 Nf:mg "NoSuch" = some (.ref κ.NoSuch)
 Nk:PySem.W.excIn K κ.NoSuch Be "ValueError.__new__" = true
 ND:PX.fN K κ.NoSuch
 L8:PySem.W.kitOne K (.ref κ.NoSuch) (.ref κ.PlaneError)=some true
 L6:PySem.W.kitOne K (.ref κ.NoSuch) (.ref κ.NoPlace)=some false
 Mu:PySem.W.kitOne K (.ref κ.NoSuch) (.ref κ.NoLine)=some false
 Mb:PySem.W.kitOne K (.ref κ.NoSuch) (.ref κ.TooFew)=some false
 Mc:PySem.W.kitOne K (.ref κ.NoSuch) (.ref κ.NoSuch)=some true
 LP:PySem.W.kitOne K (.ref κ.NoSuch) (.type "ValueError")=some true
 LQ:PySem.W.exmOne K (.ref κ.NoSuch) (.ref κ.PlaneError)=some true
 Mv:PySem.W.exmOne K (.ref κ.NoSuch) (.ref κ.NoSuch)=some true
noncomputable def sg(n:Int):Int:=if 0<n then 1 else if n<0 then -1 else 0
def rk(a0 a1 a2 b0 b1 b2:Int):Int:=if sg (a1*b0 - b1*a0)=0 then sg (a2*b0 - b2*a0)else sg (a1*b0 - b1*a0)
noncomputable def sw(a0 a1 a2 b0 b1 b2 c0 c1 c2:Int):Int:=a0*(b1*c2 - c1*b2)+b0*(c1*a2 - a1*c2)+c0*(a1*b2 - b1*a2)
def dW{t g:Int}(hg:g≠0)(hd:g∣t)(h:Bd n t):Bd n (t.fdiv g):=VH (PM.o7 hg hd) h
structure Pl(n:Nat)(a b c:Int):Prop where
 pos:0<a
 low:PM.g3 a b c=1
 b0:Bd n a
 b1:Bd n b
 b2:Bd n c
def je{d k x y z:Int}(h1:d∣k*x)(h2:d∣k*y)(h3:d∣k*z)(hg:PM.g3 x y z=1):d∣k:=by
 have e1:d∣(Int.gcd (k*x) (k*y):Int):=WZ h1 h2;rw[Int.gcd_mul_left]at e1;have e2:d∣k*(Int.gcd x y:Int):=by
  have:((k.natAbs*Int.gcd x y:Nat):Int)∣k*(Int.gcd x y:Int):=by rw[Int.natCast_mul];exact X1 (Int.natAbs_dvd.mpr (Ui _)) (Ui _)
  exact Xa e1 this
 have e3:d∣(Int.gcd (k*(Int.gcd x y:Int)) (k*z):Int):=WZ e2 h3;rw[Int.gcd_mul_left]at e3;have e4:Int.gcd (Int.gcd x y:Int) z=1:=hg;rw[e4,Nat.mul_one]at e3;exact Xa e3 (Int.natAbs_dvd.mpr (Ui _))
abbrev Sp:=Int×Int
abbrev yat:=List Sp
def Qq(p:Sp):D:=.tup [.int p.1,.int p.2]
def Hx(h:Qq p=Qq q):p=q:=by unfold Qq at h;simp only[D.tup.injEq,PQ,D.int.injEq,and_true]at h;exact N2 h.1 h.2
theorem iM{α:Type}{f:α->D}(hf:∀{p q},f p=f q->p=q):∀{ps qs:List α},ps.map f=qs.map f->ps=qs
 |[],[],_=>rfl
 |[],_::_,h=>by simp at h
 |_::_,[],h=>by simp at h
 |p::ps,q::qs,h=>by simp only[MR,PQ]at h;rw[hf h.1,iM hf h.2]
def Hy{ps qs:yat}(h:ps.map Qq=qs.map Qq):ps=qs:=iM Hx h
def xS(p:Sp):aX (Qq p)=Qq p:=by unfold Qq;simp only[eQ,cP,dO,cN]
def A9(ps:yat):bq (ps.map Qq)=ps.map Qq:=dN Qq xS ps
def Oa(p:Sp):D:=.tup [.int 1,.int p.1,.int p.2]
def Hd(h:Oa p=Oa q):p=q:=by unfold Oa at h;simp only[D.tup.injEq,PQ,D.int.injEq,and_true,true_and]at h;exact N2 h.1 h.2
def He{ps qs:yat}(h:ps.map Oa=qs.map Oa):ps=qs:=iM Hd h
def qr(p:Sp):aX (Oa p)=Oa p:=by unfold Oa;simp only[eQ,cP,dO,cN]
def r9(ps:yat):bq (ps.map Oa)=ps.map Oa:=dN Oa qr ps
def cr(a b e:Sp):Int:=sw 1 a.1 a.2 1 b.1 b.2 1 e.1 e.2
def b6:yat->Sp->yat
 |b::a::r,e=>if cr a b e<=0 then b6 (a::r) e else b::a::r
 |l,_=>l
def bE:yat->yat->yat
 |acc,[]=>acc
 |acc,e::es=>bE (e::b6 acc e) es
theorem o6(x:Sp):∀(acc done:yat),bE acc (done++[x])=x::b6 (bE acc done) x
 |acc,[]=>rfl
 |acc,e::es=>by show bE (e::b6 acc e) (es++[x])=_;rw[o6 x _ es];rfl
theorem p6:∀(st:yat) (e:Sp),∃pre,st=pre++b6 st e
 |[],e=>⟨[],rfl⟩
 |[b],e=>⟨[],rfl⟩
 |b::a::r,e=>by
  unfold b6;split
  ·obtain⟨pre,q⟩:=p6 (a::r) e;exact⟨b::pre,by rw[O5,<- q]⟩
  ·exact⟨[],rfl⟩
def EI(st:yat)(e:Sp):(b6 st e).length<=st.length:=by
 obtain⟨pre,q⟩:=p6 st e;have:=congrArg List.length q;rw[Nz]at this
 lia
def Br{α:Type}(xs:List α)(u v:α):NY (xs++[u]++[v]) (-2)=some u:=by have:=dU (xs:=xs++[u]++[v]) (j:=xs.length) (v:=u) (by simp);unfold NY at this ⊢;rw[show ixN (xs++[u]++[v]).length (-2)=some xs.length by unfold ixN;simp;lia];simp
def fm{a b:Int}(hb:0<b):0<=a.fmod b/\a.fmod b<b:=⟨ZP a hb,Int.fmod_lt_of_pos a hb⟩
def p12:((10:Int) ^ (12:Int).toNat)=1000000000000:=by decide
def Ah:vD 10 12:=⟨by decide,by decide,by decide⟩
def SK(p:Sp):yaf:=[p.1,p.2]
def FH(ps:yat):ps.map Qq=(ps.map SK).map PD.tupI:=by rw[OH];rfl
def cF(ys ps:yat):Prop:=ys.Pairwise (λp q=>p.1<q.1∨(p.1=q.1/\p.2<q.2))/\∀p,p∈ys↔p∈ps
def C1{ps:yat}(h:PD.vM zs (ps.map SK)):∃ys:yat,zs=ys.map SK/\cF ys ps:=by
 obtain⟨h1,h2⟩:=h;have NA:∀z∈zs,∃p:Sp,z=SK p:=λz hz=>by obtain⟨p,_,e⟩:=Ms.mp ((h2 z).mp hz);exact⟨p,e.symm⟩
 have ex:∃ys:yat,zs=ys.map SK:=by
  clear h1 h2
  induction zs with
  |nil=>exact⟨[],rfl⟩
  |cons z zs ih =>
   obtain⟨p,e⟩:=NA z O0;obtain⟨ys,e2⟩:=ih λz hz=>NA z (MO _ hz)
   exact⟨p::ys,by rw[e,e2];rfl⟩
 obtain⟨ys,rfl⟩:=ex;have inj:∀{p q:Sp},SK p=SK q->p=q:=fun {p q} e=>by unfold SK at e;simp only[PQ,and_true]at e;exact N2 e.1 e.2
 refine⟨ys,rfl,?_,λp=>?_⟩
 ·refine(VJ.mp h1).imp fun {p q} e=>?_
  unfold SK SW.lexLt at e;split at e
  ·rename_i e1;unfold SW.lexLt at e;split at e
   ·cases e
   ·exact .inr ⟨e1,by simpa using e⟩
  ·exact .inl (by simpa using e)
 ·constructor
  ·intro hp;obtain⟨q,hq,e⟩:=Ms.mp ((h2 (SK p)).mp (Ms.mpr ⟨p,hp,rfl⟩));rw[<- inj e];exact hq
  ·intro hp;obtain⟨q,hq,e⟩:=Ms.mp ((h2 (SK p)).mpr (Ms.mpr ⟨p,hp,rfl⟩));rw[<- inj e];exact hq
def wz(xs:yas):PD.cutD xs none (some (-1))=xs.dropLast:=by
 unfold PD.cutD;rw[List.dropLast_eq_take];have e0:HT.Oj xs.length 0 none=0:=rfl;have e1:HT.Oj xs.length xs.length (some (-1))=xs.length - 1:=by
  unfold HT.Oj;cases xs with
  |nil=>rfl
  |cons x xs=>simp;lia
 rw[e0,e1];simp
theorem jJ:∀(acc ps:yat),(bE acc ps).length<=acc.length+ps.length
 |acc,[]=>Mw _
 |acc,e::es=>by
  have:=jJ (e::b6 acc e) es;have h2:=EI acc e;show(bE (e::b6 acc e) es).length<=_;simp at this ⊢
  lia
theorem CF:∀{ys ps:yat},ys.Nodup->(∀p∈ys,p∈ps)->ys.length<=ps.length
 |[],_,_,_=>OE _
 |y::ys,ps,nd,h=>by
  obtain⟨n1,n2⟩:=SY.mp nd;have m:=h y O0;have r:=CF (ps:=ps.erase y) n2 λp hp=>(List.mem_erase_of_ne (λe=>by subst e;exact n1 hp)).mpr (h p (MO _ hp))
  rw[List.length_erase_of_mem m]at r;have:0<ps.length:=List.length_pos_of_mem m;rw[Qx]
  lia
def l5(h:cF ys ps):ys.length<=ps.length:=by
 have nd:ys.Nodup:=h.1.imp fun {p q} c e=>by subst e;lia
 exact CF nd λp hp=>(h.2 p).mp hp
def aC(ys:yat):yat:=(bE [] ys).reverse
def aS(ys:yat):yat:=if ys.length<2 then ys else(aC ys).dropLast++(aC ys.reverse).dropLast
def wu{α:Type}{wi:DA}{js:yag}{te:DE}{Q:D->Prop}{P:List α->Prop}(f g:α->D)(hw:∀R:yas->Prop,(∀ys,P ys->R (ys.map f))->wi ρ R)(hz:∀ys,P ys->ys.length<=sizeLine)
  (he:∀ys,P ys->∀x∈ys,∀K:D->Prop,K (g x)->te (some (.val (f x))::js.map (b5 ρ)) K) (q:∀ys,P ys->Q (.lst true (ys.map g))):n5 wi js pL te ρ Q:=by
 refine hw _ λys hy=>?_
 have:=PD.comp_map (wi:=λ_ R=>R (ys.map f)) (js:=js) (tc:=pL) (te:=te) (ρ:=ρ) (Q:=Q) ys f (λ_=>true) g (λR h=>h) (hz ys hy) (λx hx K k=>k) (λx hx _ K k=>he ys hy x hx K k) (by rw[RK.mpr (λ_ _=>rfl)];exact q ys hy);exact this
structure SB(p:Sp):Prop where
 x:Bd 60 p.1
 y:Bd 60 p.2
def kB(p q:Sp):Prop:=p.1<q.1∨(p.1=q.1/\p.2<q.2)
def bI(a b e:Sp):cr a b e=(b.1 - a.1)*(e.2 - a.2) - (b.2 - a.2)*(e.1 - a.1):=by unfold cr sw;grind
def fA(A B:Int)(p:Sp):Int:=A*p.1+B*p.2
def cx(a b c d:Sp):Int:=(b.1 - a.1)*(d.2 - c.2) - (b.2 - a.2)*(d.1 - c.1)
def Aj(A B:Int)(a b c d e g:Sp):cx a b e g*(fA A B d - fA A B c)=cx c d e g*(fA A B b - fA A B a)+cx a b c d*(fA A B g - fA A B e):=by unfold cx fA;grind
def JL{x y:Int}(h:0<x*y)(hy:0<y):0<x:=by
 by_cases c:0<x
 ·exact c
 ·have:=M3 (show 0<=-x by lia) (MT hy);rw[O3]at this
  lia
def Jv{x y:Int}(h:0<=x*y)(hy:0<y):0<=x:=by
 by_cases c:0<=x
 ·exact c
 ·have:=O2 (show 0 < -x by lia) hy;rw[O3]at this
  lia
def Fh(h1:fA A B a<fA A B b)(h2:fA A B c<fA A B d)(h3:fA A B e<fA A B g)(p:0<cx a b c d)(q:0<=cx c d e g):0<cx a b e g:=by have i:=Aj A B a b c d e g;have u:=M3 q (show 0<=fA A B b - fA A B a by lia);have v:=O2 p (show 0<fA A B g - fA A B e by lia);exact JL (y:=fA A B d - fA A B c) (by lia) (by lia)
def Fg(h1:fA A B a<fA A B b)(h2:fA A B c<fA A B d)(h3:fA A B e<fA A B g)(p:0<=cx a b c d)(q:0<cx c d e g):0<cx a b e g:=by have i:=Aj A B a b c d e g;have u:=O2 q (show 0<fA A B b - fA A B a by lia);have v:=M3 p (show 0<=fA A B g - fA A B e by lia);exact JL (y:=fA A B d - fA A B c) (by lia) (by lia)
def Kb(h1:fA A B a<fA A B b)(h2:fA A B c<fA A B d)(h3:fA A B e<fA A B g)(p:0<=cx a b c d)(q:0<=cx c d e g):0<=cx a b e g:=by have i:=Aj A B a b c d e g;have u:=M3 q (show 0<=fA A B b - fA A B a by lia);have v:=M3 p (show 0<=fA A B g - fA A B e by lia);exact Jv (y:=fA A B d - fA A B c) (by lia) (by lia)
def cx1(a b e:Sp):cr a b e=cx a b a e:=by rw[bI];rfl
def cx2(a b e:Sp):cr a b e=cx a b b e:=by rw[bI];unfold cx;grind
def cx3(a b e:Sp):cr a b e=cx a e b e:=by rw[bI];unfold cx;grind
def cx4(a b e:Sp):cr a b e=cx e a a b:=by rw[bI];unfold cx;grind
def cx5(a b e:Sp):cr a b e=cx e b a b:=by rw[bI];unfold cx;grind
def F2(a b c d:Sp):cx a b c d=- cx c d a b:=by unfold cx;grind
def Ic(a b:Sp):cr a b a=0:=by rw[bI];grind
def Ie(a b:Sp):cr a b b=0:=by rw[bI];grind
structure Vv(A B:Int)(st done:yat):Prop where
 e2:∀b a r,(b::a::r) <:+ st->∀p∈done,0<=cr a b p
 e3:∀c b a r,(c::b::a::r) <:+ st->0<cr a b c
 ord:st.Pairwise λb a=>fA A B a<fA A B b
 mem:∀p∈st,p∈done
 top:∀b r,st=b::r->∀p∈done,fA A B p<=fA A B b
 bot:done ≠ []->∃pre a,st=pre++[a]/\∀p∈done,fA A B a<=fA A B p
def A7{b a:Sp}{r st:yat}(h:b::a::r <:+ st)(o:st.Pairwise R):R b a:=by obtain⟨pre,rfl⟩:=h;exact(P7.mp (Sr.mp o).2.1).1 a O0
theorem CU(I:Vv A B Xs done)(hx:∀p∈done,fA A B p<fA A B x):∀(st:yat),st <:+ Xs->(∀b r,st=b::r->∀p∈done,fA A B b<fA A B p->0<=cr b x p) →
  (∀b a r,b6 st x=b::a::r->0<cr a b x)/\(∀b r,b6 st x=b::r->∀p∈done,fA A B b<fA A B p->0<=cr b x p)
 |[],_,h=>⟨λb a r e=>(by cases e),λb r e=>(by cases e)⟩
 |[b],_,h=>⟨λb a r e=>(by cases e),h⟩
 |b::a::r,s,h=>by
  unfold b6;split
  ·rename_i c;refine CU I hx (a::r) (List.IsSuffix.trans (List.suffix_cons _ _) s) λb' r' e p hp lt=>?_
   cases e;have o:=A7 s I.ord;have e2:=I.e2 b a r s p hp;have xa:=hx a (I.mem a (s.subset (by simp)));rw[cx1]at e2 c ⊢;rw[F2]at c;exact Kb xa o lt (by lia) e2
  ·rename_i c;refine⟨λb' a' r' e=>?_,h⟩;cases e
   lia
theorem far(I:Vv A B Xs done)(hx:∀p∈done,fA A B p<fA A B x):∀(st:yat),st <:+ Xs->(∀b a r,st=b::a::r->0<cr a b x)->∀b a r,b::a::r <:+ st->0<cr a b x
 |[],_,_=>λb a r e=>by have:=e.length_le;simp at this
 |b::st,s,h=>λb1 a1 r1 e=>by
  rcases List.suffix_cons_iff.mp e with q|q
  ·exact h _ _ _ q.symm
  ·refine far I hx st (List.IsSuffix.trans (List.suffix_cons _ _) s) (λa a0 r e'=>?_) b1 a1 r1 q;subst e';have h1:=h _ _ _ rfl;have h2:=I.e3 _ _ _ _ s;have o1:=A7 s I.ord;have o2:=A7 (List.IsSuffix.trans (List.suffix_cons _ _) s) I.ord;have xa:=hx a (I.mem a (s.subset (by simp)));rw[cx2]at h2 ⊢;rw[cx1]at h1;exact Fh o2 o1 xa h2 (MT h1)
theorem zF:∀{st:yat},st ≠ []->b6 st x ≠ []
 |[],h=>absurd rfl h
 |[b],_=>by simp[b6]
 |b::a::r,_=>by
  unfold b6;split
  ·exact zF (by simp)
  ·simp
def Ec{A B:Int}{st done:yat}{x:Sp}(I:Vv A B st done)(hx:∀p∈done,fA A B p<fA A B x)(inj:∀p∈done,∀q∈done,fA A B p=fA A B q->p=q)(hn:done=[]->st=[]):Vv A B (x::b6 st x) (done++[x]):=by
 have s:b6 st x <:+ st:=by obtain⟨pre,q⟩:=p6 st x;exact⟨pre,q.symm⟩
 obtain⟨P1,P2⟩:=CU I hx st (List.suffix_refl _) λb r e p hp lt=>absurd (I.top b r e p hp) (by lia)
 have F:=far I hx _ s P1;refine⟨λb a r e p hp=>?_,λc b a r e=>?_,?_,λp hp=>?_,λb r e p hp=>?_,λ_=>?_⟩
 ·rcases List.suffix_cons_iff.mp e with q|q
  ·injection q with q1 q2;subst q1;rcases MC.mp hp with hp|hp
   ·rcases UY (fA A B p) (fA A B a)with c|c|c
    ·rcases r with _|⟨a0,r⟩
     ·obtain⟨pre,a',e1,h1⟩:=I.bot (List.ne_nil_of_mem hp);rw[<- q2]at s;obtain⟨pre2,e2⟩:=s;rw[e1]at e2;have:=List.append_inj_right' e2 (by simp);simp at this;have:=h1 p hp
      subst_vars
      lia
     ·have h1:=P1 _ _ _ q2.symm;rw[<- q2]at s;have h2:=I.e2 _ _ _ s p hp;have o:=A7 s I.ord;have xa:=hx a (I.mem a (s.subset (by simp)));rw[cx2]at h1;rw[cx5]at h2;rw[cx4];exact MT (Fg c o xa h2 h1)
    ·rw[inj p hp a (I.mem a (s.subset (by rw[<- q2];simp))) c,Ic];exact Np _
    ·exact P2 _ _ q2.symm p hp c
   ·rw[NI.mp hp,Ie];exact Np _
  ·rcases MC.mp hp with hp|hp
   ·exact I.e2 _ _ _ (q.trans s) p hp
   ·rw[NI.mp hp];exact MT (F _ _ _ q)
 ·rcases List.suffix_cons_iff.mp e with q|q
  ·injection q with q1 q2;subst q1;exact P1 _ _ _ q2.symm
  ·exact I.e3 _ _ _ _ (q.trans s)
 ·exact P7.mpr ⟨λa ha=>hx a (I.mem a (s.subset ha)),I.ord.sublist s.sublist⟩
 ·rcases L9.mp hp with q|q
  ·rw[q];simp
  ·exact Qj _ (I.mem p (s.subset q))
 ·injection e with e1 e2;subst e1;rcases MC.mp hp with q|q
  ·exact MT (hx p q)
  ·rw[NI.mp q];exact Np _
 ·by_cases d0:done=[]
  ·rw[hn d0,d0];exact⟨[],x,rfl,λp hp=>by simp at hp;rw[hp];exact Np _⟩
  ·obtain⟨pre,a,e1,h1⟩:=I.bot d0;obtain⟨pre2,e2⟩:=s;have ne:b6 st x ≠ []:=zF (by rw[e1];simp);obtain⟨WH,a3,e3⟩:∃WH a3,b6 st x=WH++[a3]:=⟨_,_,(WS ne).symm⟩;have:a3=a:=by
    rw[e3,e1,<- Pn]at e2;have:=List.append_inj_right' e2 (by simp);simpa using this
   subst this;refine⟨x::WH,a3,by rw[e3];rfl,λp hp=>?_⟩;rcases MC.mp hp with q|q
   ·exact h1 p q
   ·rw[NI.mp q];exact MT (hx a3 (I.mem a3 (by rw[e1];simp)))
theorem uo:∀(es st done:yat),Vv A B st done->(done=[]->st=[])->(done++es).Pairwise (λp q=>fA A B p<fA A B q)->Vv A B (bE st es) (done++es)
 |[],st,done,I,_,_=>by rw[QM];exact I
 |x::es,st,done,I,hn,o=>by
  obtain⟨o1,o2,o3⟩:=Sr.mp o;have inj:∀(l:yat),l.Pairwise (λp q=>fA A B p<fA A B q)->∀p∈l,∀q∈l,fA A B p=fA A B q->p=q:=by
   intro l
   induction l with
   |nil=>intro _ p hp;cases hp
   |cons y l ih =>
    intro o p hp q hq e;obtain⟨u,v⟩:=P7.mp o;rcases L9.mp hp with a|a<;>rcases L9.mp hq with b|b
    ·rw[a,b]
    ·have:=u q b;rw[a]at e;lia
    ·have:=u p a;rw[b]at e;lia
    ·exact ih v p a q b e
  have:=uo es (x::b6 st x) (done++[x]) (Ec I (λp hp=>o3 p hp x O0) (inj done o1) hn) (by simp) (by rw[Pn];exact o);rw[Pn]at this;exact this
def GB(A B:Int):Vv A B [] []:=⟨λb a r e=>by have:=e.length_le;simp at this,λc b a r e=>by have:=e.length_le;simp at this,.nil,λp hp=>hp,λb r e=>(by cases e),λh=>absurd rfl h⟩
def Jh{ys:yat}(o:ys.Pairwise λp q=>fA A B p<fA A B q):Vv A B (bE [] ys) ys:=by have:=uo ys [] [] (GB A B) (λ_=>rfl) (by simpa using o);simpa using this
structure Way(A B:Int)(ps:yat)(n:Nat)(l:Nat->Sp):Prop where
 two:2<=n
 Nt:∀i,i+1<n->∀p∈ps,0<=cr (l i) (l (i+1)) p
 Rx:∀i,i+2<n->0<cr (l i) (l (i+1)) (l (i+2))
 rise:∀i j,i<j->j<n->fA A B (l i)<fA A B (l j)
 mem:∀i,i<n->l i∈ps
 lo:∀p∈ps,fA A B (l 0)<=fA A B p
 hi:∀p∈ps,fA A B p<=fA A B (l (n - 1))
def b8(A B:Int)(p:Sp):fA (-A) (-B) p=- fA A B p:=by unfold fA;grind
def E4{n m:Nat}(L:Way A B ps (n+2) l)(U:Way (-A) (-B) ps (m+2) u)(hm:l (n+1)=u 0)(h:0<n+m):0<cr (l n) (l (n+1)) (u 1):=by
 have ol:=L.rise n (n+1) (R3 _) (R3 _);have ou:=U.rise 0 1 Nat.one_pos (TQ (QO _));rw[b8,b8,Int.neg_lt_neg_iff]at ou;rw[hm]at ol ⊢;have g:cr (l n) (u 0) (u 1)=cx (u 1) (u 0) (l n) (u 0):=by rw[bI];unfold cx;grind
 rw[g];cases n with
 |succ a =>
  have b:=L.Rx a (R3 _);have o:=L.rise a (a+2) (Nat.lt_add_of_pos_right (by decide)) (R3 _);have e:=U.Nt 0 (TQ (QO _)) (l a) (L.mem a (Nat.lt_add_of_pos_right (k:=3) (by decide)));have Vt:l (a+2)=u 0:=hm;rw[Vt]at o b;have e':cr (u 0) (u 1) (l a)=cx (u 1) (u 0) (l a) (u 0):=by rw[bI];unfold cx;grind
  rw[e']at e;rw[cx3]at b;exact Fg (A:=A) (B:=B) ou o ol e b
 |zero =>
  cases m with
  |zero=>exact absurd h (Su _)
  |succ m =>
   have b:=U.Rx 0 (TQ (TQ (QO _)));have o:=U.rise 0 2 (by decide) (TQ (TQ (QO _)));rw[b8,b8,Int.neg_lt_neg_iff]at o;have e:=L.Nt 0 (R3 _) (u 2) (U.mem 2 (TQ (TQ (QO _))));have Vt:l (0+1)=u 0:=hm;rw[Vt]at e;have e':cr (l 0) (u 0) (u 2)=cx (u 2) (u 0) (l 0) (u 0):=by rw[bI];unfold cx;grind
   have b':cr (u 0) (u 1) (u 2)=cx (u 1) (u 0) (u 2) (u 0):=by rw[bI];unfold cx;grind
   rw[e']at e;have b2:0<cx (u 1) (u 0) (u 2) (u 0):=by rw[<- b'];exact b
   exact Fh (A:=A) (B:=B) ou o ol b2 e
def zI{n m:Nat}{h:Nat->Sp}(L:Way A B ps (n+2) l)(U:Way (-A) (-B) ps (m+2) u)(eM:l (n+1)=u 0)(e0:u (m+1)=l 0)(h3:0<n+m)
  (hl:∀k,k<n+2->h k=l k) (hu:∀j,j<m+1->h (n+1+j)=u j):(∀k,k<n+m+2->∀p∈ps,0<=cr (h ((k+(n+m+2) - 1) % (n+m+2))) (h k) p)/\0<cr (h 0) (h 1) (h 2):=by
 refine⟨λk hk p hp=>?_,?_⟩
 ·cases k with
  |zero =>
   have e:(0+(n+m+2) - 1) % (n+m+2)=n+1+m:=by rw[QX];show(n+m+1) % (n+m+2)=_;rw[Pf (R3 _),Nat.add_right_comm]
   rw[e,hu m (R3 _),hl 0 (QO _),<- e0];exact U.Nt m (R3 _) p hp
  |succ k =>
   have e:(k+1+(n+m+2) - 1) % (n+m+2)=k:=by rw[Nat.add_right_comm];show(k+(n+m+2)) % (n+m+2)=k;rw[VN,Pf (XT hk)]
   rw[e];by_cases c:k+1<n+2
   ·rw[hl k (XT c),hl (k+1) c];exact L.Nt k c p hp
   ·obtain⟨j,rfl⟩:=Nat.le.dest (Nat.le_of_succ_le_succ (Nat.le_of_not_lt c));have hj:j+1<m+1:=by lia
    rw[hu j (XT hj),Nat.add_assoc,hu (j+1) hj];exact U.Nt j (XU hj) p hp
 ·cases n with
  |succ a =>
   have z:2<a+1+2:=TQ (TQ (QO _));rw[hl 0 (QO _),hl 1 (XT z),hl 2 z];exact L.Rx 0 z
  |zero =>
   have z:1<m+1:=by lia
   rw[hl 0 (by decide),hl 1 (by decide),show h 2=u 1 from hu 1 z];exact E4 L U eM h3
def Du{ys:yat}(o:ys.Pairwise λp q=>fA A B p<fA A B q)(h2:2<=ys.length):Way A B ys (aC ys).length λi=>(aC ys).getD i (0,0):=by
 have I:=Jh o;obtain⟨pre,a,e1,h1⟩:=I.bot (by intro e;rw[e]at h2;simp at h2);have len:2<=(aC ys).length:=by
  unfold aC;rw[TN,e1];rcases pre with _|⟨b,pre⟩
  ·exfalso;have t:=I.top a [] (by simpa using e1);rcases ys with _|⟨y1,_|⟨y2,r⟩⟩
   ·simp at h2
   ·simp at h2
   ·have q:=(P7.mp o).1 y2 (by simp);have q1:=h1 y1 (by simp);have q2:=t y2 (by simp)
    lia
  ·simp
 have sp1:∀i,i<(aC ys).length->(aC ys)[i]?=some ((aC ys).getD i (0,0)):=λi hi=>by rw[OZ,MZ hi];rfl
 have TF:bE [] ys=(aC ys).reverse:=by unfold aC;rw[List.reverse_reverse]
 refine⟨len,λi hi p hp=>?_,λi hi=>?_,λi j NO hj=>?_,λi hi=>?_,λp hp=>?_,λp hp=>?_⟩
 ·refine I.e2 _ _ ((aC ys).take i).reverse ⟨((aC ys).drop (i+2)).reverse,?_⟩ p hp;rw[TF];have q:=Qh i (aC ys);rw[Ub (show i<(aC ys).length by lia),Ub hi]at q;have q2:=congrArg List.reverse q;simp only[OZ,MZ (show i<(aC ys).length by lia),MZ hi,Option.getD_some];simpa only[WV,VL,Pn,O5,PR]using q2
 ·refine I.e3 _ _ _ ((aC ys).take i).reverse ⟨((aC ys).drop (i+3)).reverse,?_⟩;rw[TF];have q:=Qh i (aC ys);rw[Ub (show i<(aC ys).length by lia),Ub (show i+1<(aC ys).length by lia),Ub hi]at q;have q2:=congrArg List.reverse q;simp only[OZ,MZ (show i<(aC ys).length by lia),MZ (show i+1<(aC ys).length by lia),MZ hi,Option.getD_some];simpa only[WV,VL,Pn,O5,PR]using q2
 ·have o':(aC ys).Pairwise λa b=>fA A B a<fA A B b:=by
   unfold aC;exact ZU.mpr I.ord
  have:=(RJ.mp o') i j (by lia) hj NO;simp only[OZ,MZ (show i<(aC ys).length by lia),MZ hj,Option.getD_some];exact this
 ·refine I.mem _ ?_;rw[TF,SX];exact OL (sp1 i hi)
 ·have:(aC ys).getD 0 (0,0)=a:=by unfold aC;rw[e1];simp
  show fA A B ((aC ys).getD 0 (0,0))<=_;rw[this];exact h1 p hp
 ·have e:=sp1 ((aC ys).length - 1) (by lia);generalize (aC ys).getD ((aC ys).length - 1) (0,0)=b at e ⊢;refine I.top b (bE [] ys).tail ?_ p hp;rw[<- zDS]at e;unfold aC at e;rw[List.getLast?_reverse]at e;cases hc:bE [] ys with
  |nil=>rw[hc]at e;simp at e
  |cons x r=>rw[hc]at e;simp at e;rw[e];rfl
theorem B6:∀{l:yat},l.Pairwise (λp q=>fA A B p<fA A B q)->∀p∈l,∀q∈l,fA A B p=fA A B q->p=q
 |[],_,p,hp=>by cases hp
 |y::l,o,p,hp=>λq hq e=>by
  obtain⟨u,v⟩:=P7.mp o;rcases L9.mp hp with a|a<;>rcases L9.mp hq with b|b
  ·rw[a,b]
  ·have:=u q b;rw[a]at e;lia
  ·have:=u p a;rw[b]at e;lia
  ·exact B6 v p a q b e
def Way.to{ps qs:yat}(h:∀p,p∈qs↔p∈ps)(W:Way A B ps n l):Way A B qs n l :=
 ⟨W.two,λi hi p hp=>W.Nt i hi p ((h p).mp hp),W.Rx,W.rise,λi hi=>(h _).mpr (W.mem i hi),λp hp=>W.lo p ((h p).mp hp),λp hp=>W.hi p ((h p).mp hp)⟩
theorem HX:∀ys:yat,∃M:Int,0<M/\∀p∈ys,-M<p.2/\p.2<M
 |[]=>⟨1,by decide,λp hp=>by cases hp⟩
 |y::ys=>by
  obtain⟨M,h0,h⟩:=HX ys;refine⟨M+y.2.natAbs+1,by lia,λp hp=>?_⟩;rcases L9.mp hp with q|q
  ·rw[q];lia
  ·have:=h p q;lia
def Ct{M:Int}{p q:Sp}(h0:0<M)(hp:-M<p.2/\p.2<M)(hq:-M<q.2/\q.2<M)(h:kB p q):fA (2*M) 1 p<fA (2*M) 1 q:=by
 unfold fA;rcases h with h|⟨h1,h2⟩
 ·have:=zC6 (show p.1+1<=q.1 by lia) (show 0<=2*M by lia);rw[Int.mul_add]at this
  lia
 ·rw[h1];lia
def cK(hs:yat)(k:Nat):Sp:=hs.getD ((k+hs.length - 1) % hs.length) (0,0)
structure zW(hs ps:yat):Prop where
 mem:∀p∈hs,p∈ps
 len:hs.length<=2*ps.length
 Vw:ps ≠ []->∃a r,hs=a::r/\∀p∈ps,¬kB p a
 one:∀a,hs=[a]->∀p∈ps,p=a
 two:∀a b,hs=[a,b]->a≠b/\∀p∈ps,cr a b p=0/\¬kB b p
 Nt:2<hs.length->∀k,k<hs.length->∀p∈ps,0<=cr (cK hs k) (hs.getD k (0,0)) p
 Rx:2<hs.length->0<cr (hs.getD 0 (0,0)) (hs.getD 1 (0,0)) (hs.getD 2 (0,0))
def pR{ys ps:yat}(o:ys.Pairwise (λp q=>p.1<q.1∨(p.1=q.1/\p.2<q.2)))(hm:∀p,p∈ys↔p∈ps)(c:¬ys.length<2):∃(A:Int) (n m:Nat),(aC ys).length<=ys.length/\(aC ys.reverse).length<=ys.length/\(∀p∈ps,∀q∈ps,fA A 1 p=fA A 1 q->p=q)/\(∀p∈ps,∀q∈ps,fA A 1 p<=fA A 1 q->¬kB q p)/\(aC ys).length=n+2/\(aC ys.reverse).length=m+2 ∧
  Way A 1 ps (n+2) (λi=>(aC ys).getD i (0,0))/\Way (-A) (-1) ps (m+2) (λi=>(aC ys.reverse).getD i (0,0))/\(aC ys).getD (n+1) (0,0)=(aC ys.reverse).getD 0 (0,0)/\(aC ys.reverse).getD (m+1) (0,0)=(aC ys).getD 0 (0,0) ∧
  (∀j,j<m+1->((aC ys).dropLast++(aC ys.reverse).dropLast).getD (n+1+j) (0,0)=(aC ys.reverse).getD j (0,0))/\(∀k,k<n+2->((aC ys).dropLast++(aC ys.reverse).dropLast).getD k (0,0)=(aC ys).getD k (0,0))/\((aC ys).dropLast++(aC ys.reverse).dropLast).length=n+m+2:=by
 obtain⟨M,M0,hM⟩:=HX ys;have oF:ys.Pairwise λp q=>fA (2*M) 1 p<fA (2*M) 1 q:=by refine List.Pairwise.imp_of_mem ?_ o;intro p q hp hq h;exact Ct M0 (hM p hp) (hM q hq) h
 have oB:ys.reverse.Pairwise λp q=>fA (-(2*M)) (-1) p<fA (-(2*M)) (-1) q:=by refine ZU.mpr (oF.imp ?_);intro p q h;rw[b8,b8];exact Int.neg_lt_neg h
 have L:=(Du oF (Nat.le_of_not_lt c)).to (qs:=ps) λp=>(hm p).symm
 have U:=(Du oB (by rw[TN];exact Nat.le_of_not_lt c)).to (qs:=ps) λp=>by rw[SX];exact(hm p).symm
 have ll:(aC ys).length<=ys.length:=by have:=jJ [] ys;unfold aC;rw[TN];simpa using this
 have lu:(aC ys.reverse).length<=ys.length:=by have:=jJ [] ys.reverse;unfold aC;rw[TN];simpa using this
 generalize aC ys=l at L ll ⊢;generalize aC ys.reverse=u at U lu ⊢;have inj:∀p∈ps,∀q∈ps,fA (2*M) 1 p=fA (2*M) 1 q->p=q:=λp hp q hq e=>B6 oF p ((hm p).mpr hp) q ((hm q).mpr hq) e
 have nl:∀p∈ps,∀q∈ps,fA (2*M) 1 p<=fA (2*M) 1 q->¬kB q p:=λp hp q hq e x =>
  Int.not_le_of_gt (Ct M0 (hM q ((hm q).mpr hq)) (hM p ((hm p).mpr hp)) x) e
 generalize 2*M=A at L U inj nl;clear oF oB hM M0 o hm;obtain⟨n,hn⟩:∃n,l.length=n+2:=⟨l.length - 2,by have:=L.two;lia⟩;obtain⟨m,hm⟩:∃m,u.length=m+2:=⟨u.length - 2,by have:=U.two;lia⟩;have hl:(l.dropLast++u.dropLast).length=n+m+2:=by
  rw[Nz,Ue,Ue,hn,hm];show n+1+(m+1)=_
  lia
 rw[hn]at L;rw[hm]at U;have eM:l.getD (n+1) (0,0)=u.getD 0 (0,0):=by have m1:=L.mem (n+1) (R3 _);have m2:=U.mem 0 (QO _);have a1:=L.hi _ m2;have a2:=U.lo _ m1;rw[b8,b8]at a2;exact inj _ m1 _ m2 (Int.le_antisymm (Int.le_of_neg_le_neg a2) a1)
 have e0:u.getD (m+1) (0,0)=l.getD 0 (0,0):=by have m1:=L.mem 0 (QO _);have m2:=U.mem (m+1) (R3 _);have a1:=L.lo _ m2;have a2:=U.hi _ m1;rw[b8,b8]at a2;exact inj _ m2 _ m1 (Int.le_antisymm (Int.le_of_neg_le_neg a2) a1)
 have gu:∀j,j<m+1->(l.dropLast++u.dropLast).getD (n+1+j) (0,0)=u.getD j (0,0):=λj hj=>by
  have ld:l.dropLast.length=n+1:=by rw[Ue,hn];rfl
  rw[OZ,OZ,P5 (by rw[ld];exact Nat.le_add_right _ _),ld,XJ,List.getElem?_dropLast,hm,Lx (show j<m+2 - 1 from hj)]
 have gl:∀k,k<n+2->(l.dropLast++u.dropLast).getD k (0,0)=l.getD k (0,0):=λk hk=>by
  rcases XR (XS hk)with z|z
  ·rw[OZ,OZ,QT (by rw[Ue,hn];exact z),List.getElem?_dropLast,hn,Lx (show k<n+2 - 1 from z)]
  ·rw[z,eM];exact gu 0 (QO _)
 exact⟨A,n,m,ll,lu,inj,nl,hn,hm,L,U,eM,e0,gu,gl,hl⟩
def nr(h:cF ys ps):zW (aS ys) ps:=by
 have yl:=l5 h;obtain⟨o,hm⟩:=h;unfold aS;by_cases c:ys.length<2
 ·rw[Lx c];refine⟨λp hp=>(hm p).mp hp,by lia,λe=>?_,λa e p hp=>?_,λa b e=>?_,λq=>absurd q (by lia),λq=>absurd q (by lia)⟩
  ·rcases ys with _|⟨y,_|⟨z,r⟩⟩
   ·cases ps with
    |nil=>exact absurd rfl e
    |cons y r=>have:=(hm y).mpr O0;cases this
   ·refine⟨y,[],rfl,λp hp=>?_⟩;have:=(hm p).mpr hp;rw[NI.mp this];exact λq=>q.elim (R6 _) λq=>R6 _ q.2
   ·exact absurd c (by simp)
  ·have:=(hm p).mpr hp;rw[e]at this;exact NI.mp this
  ·rw[e]at c;simp at c
 ·rw[Lw c];obtain⟨A,n,m,ll,lu,inj,nl,hn,hm,L,U,eM,e0,gu,gl,hl⟩:=pR o hm c;generalize aC ys=l at *;generalize aC ys.reverse=u at *;have memD:∀{w:yat} {x:Sp},x∈w.dropLast->x∈w:=fun {w x} hx=>(ZQ w).subset hx
  have gm:∀{w:yat} {i:Nat} (hi:i<w.length),w.getD i (0,0)=w[i]:=fun {w i} hi=>by rw[OZ,MZ hi];rfl
  have a0:=gl 0 (QO _);refine⟨λp hp=>?_,by rw[hl];lia,λe=>?_,λa e=>?_,λa b e=>?_,λq=>?_,λq=>?_⟩
  ·rcases MC.mp hp with z|z
   ·obtain⟨i,hi,e⟩:=ZV.mp (memD z);rw[<- e,<- gm hi];exact L.mem i (by rw[<- hn];exact hi)
   ·obtain⟨i,hi,e⟩:=ZV.mp (memD z);rw[<- e,<- gm hi];exact U.mem i (by rw[<- hm];exact hi)
  ·cases hh:l.dropLast++u.dropLast with
   |nil=>rw[hh]at hl;exact absurd hl (by simp)
   |cons a r =>
    rw[hh]at a0;refine⟨a,r,rfl,λp hp=>?_⟩;rw[show a=l.getD 0 (0,0)from a0];exact nl _ (L.mem 0 (QO _)) p hp (L.lo p hp)
  ·rw[e]at hl;simp at hl
  ·have nm:n=0/\m=0:=by rw[e]at hl;simp at hl;lia
   obtain⟨rfl,rfl⟩:=nm;have g1:=gl 1 (by decide);rw[e]at a0 g1;have Sk:a=l.getD 0 (0,0):=a0;have Ry:b=l.getD 1 (0,0):=g1;have eM':l.getD 1 (0,0)=u.getD 0 (0,0):=eM;have e0':u.getD 1 (0,0)=l.getD 0 (0,0):=e0;refine⟨λab=>?_,λp hp=>?_⟩
   ·have:=L.rise 0 1 (by decide) (by decide);rw[<- Sk,<- Ry,ab]at this;exact R6 _ this
   ·have x1:=L.Nt 0 (by decide) p hp;have x2:=U.Nt 0 (by decide) p hp;have x3:=L.hi p hp;have x1':0<=cr a b p:=by rw[Sk,Ry];exact x1
    have x2':0<=cr b a p:=by rw[Ry,eM',Sk,<- e0'];exact x2
    have x3':fA A 1 p<=fA A 1 b:=by rw[Ry];exact x3
    have an:cr b a p=- cr a b p:=by rw[bI,bI];grind
    refine⟨by lia,nl p hp b ?_ x3'⟩;rw[Ry];exact L.mem 1 (by decide)
  ·intro k hk p hp;rw[hl]at hk q;have R:=(zI L U eM e0 (by lia) gl gu).1 k hk p hp;unfold cK;rw[hl];exact R
  ·rw[hl]at q;exact(zI L U eM e0 (by lia) gl gu).2
def vT{α:Type}(xs:List α)(j b:Nat)(hj:j<xs.length)(hb:b<=xs.length):NY xs ((j:Int) - (b:Int))=xs[(j+xs.length - b) % xs.length]?:=by
 unfold NY ixN;by_cases c:b<=j
 ·rw[Lx (by lia),Lx (by lia),show j+xs.length - b=j - b+xs.length by lia,VN,Pf (by lia)];show xs[((j:Int) - (b:Int)).toNat]?=_;congr 1
  lia
 ·rw[Lw (by lia),Lx (by lia),Pf (by lia)];show xs[((j:Int) - (b:Int)+(xs.length:Int)).toNat]?=_;congr 1
  lia
def FG(lo hi:Int):jK lo hi 1=(hi - lo).toNat:=by
 unfold jK Builtin.Range.rangeSize;rw[Lx (by decide)];by_cases h:lo<hi
 ·rw[Lx h,Int.ediv_one]
  lia
 ·rw[Lw h]
  lia
def p8(n:Nat):iU 0 1 (jK 0 (n:Int) 1)=(List.range' 0 n).map λ(k:Nat)=>D.int (k:Int):=by unfold iU;rw[FG,show((n:Int) - 0).toNat=n by lia,List.range'_eq_map_range,OH];apply VF;intro k _;simp
def Lf{B:Int}{Q:D->Prop}(hb:0<B)(bb:Bd 4000 B)(h:Q (xr B X Y)):CD B (Int.gcd (Int.gcd B X:Int) Y:Int)/\CD X (Int.gcd (Int.gcd B X:Int) Y:Int)/\CD Y (Int.gcd (Int.gcd B X:Int) Y:Int)/\([D.int (B.fdiv (Int.gcd (Int.gcd B X:Int) Y:Int)),D.int (X.fdiv (Int.gcd (Int.gcd B X:Int) Y:Int)),D.int (Y.fdiv (Int.gcd (Int.gcd B X:Int) Y:Int))]:yas).length<=sizeLine/\Q (D.tup [D.int (B.fdiv (Int.gcd (Int.gcd B X:Int) Y:Int)),D.int (X.fdiv (Int.gcd (Int.gcd B X:Int) Y:Int)),D.int (Y.fdiv (Int.gcd (Int.gcd B X:Int) Y:Int))]):=by
 have eg:(Int.gcd (Int.gcd B X:Int) Y:Int)=PM.ML B X Y B:=by unfold PM.ML PM.g3;rw[Lw (by lia)]
 have hz:¬(B=0/\X=0/\Y=0):=λz=>by lia
 have T4:Bd 8000 (PM.ML B X Y B):=by have d:=PM.cW (l:=B) (PM.gn B X Y);exact VH (U4 (by lia) (UT.mpr d)) (bb.mono (n:=8000) (by decide))
 rw[eg];exact⟨⟨PM.cX hz,T4⟩,⟨PM.cX hz,T4⟩,⟨PM.cX hz,T4⟩,RS _ _ _,h⟩
noncomputable def gk(pk:yag):Nat:=match pk.getLast? with
 |none=>0
 |some l=>l+1
def PY(n:Nat)(pk:yag):List (yag):=(List.range' (gk pk) (n - gk pk)).map λk=>pk++[k]
def Qr(n:Nat):Nat->List (yag)
 |0=>[[]]
 |j+1=>(Qr n j).flatMap (PY n)
def Qs(pk:yag):D:=.lst true (pk.map λ(k:Nat)=>D.int (k:Int))
theorem zu:∀{j:Nat} {pk:yag},pk∈Qr n j->pk.length=j/\∀k∈pk,k<n
 |0,pk,h=>by simp only[Qr,NI]at h;subst h;simp
 |j+1,pk,h=>by
  simp only[Qr,Ug]at h;obtain⟨q,hq,h⟩:=h;obtain⟨h1,h2⟩:=zu hq;unfold PY at h;obtain⟨k,hk,rfl⟩:=Ms.mp h;rw[UZ]at hk;refine⟨by simp[h1],λx hx=>?_⟩;rcases MC.mp hx with z|z
  ·exact h2 x z
  ·simp at z;subst z;lia
theorem oD(n:Nat):∀j:Nat,(Qr n j).length<=n ^ j
 |0=>by simp[Qr]
 |j+1=>by
  have ih:=oD n j;simp only[Qr];have:∀l:List (yag),(l.flatMap (PY n)).length<=l.length*n:=by
   intro l
   induction l with
   |nil=>simp
   |cons a r ih =>
    rw[List.flatMap_cons,Nz,Qx,Nat.add_mul];have:(PY n a).length<=n:=by unfold PY;rw[LJ,QU];lia
    lia
  refine NM (this _) ?_;rw[Rm];exact Nat.mul_le_mul_right _ ih
def Hq(a b:Nat):iU (a:Int) 1 (jK a b 1)=(List.range' a (b - a)).map λ(k:Nat)=>D.int (k:Int):=by unfold iU;rw[FG,show((b:Int) - (a:Int)).toNat=b - a by lia,List.range'_eq_map_range,OH];apply VF;intro k _;simp
theorem wN(n:Nat):∀l:List (yag),(l.flatMap (PY n)).length<=l.length*n
 |[]=>by simp
 |a::r=>by
  rw[List.flatMap_cons,Nz,Qx,Nat.add_mul];have:=wN n r;have:(PY n a).length<=n:=by unfold PY;rw[LJ,QU];lia
  lia
def FZ{pk:yag}(h:pk ≠ []){Q:D->Prop}(q:Q (.int ((gk pk:Nat) - 1:Int))):∃d,NY (pk.map λ(k:Nat)=>D.int (k:Int)) (-1)=some d/\Q d:=by
 obtain⟨r,l,rfl⟩:∃r l,pk=r++[l]:=⟨pk.dropLast,pk.getLast h,(WS h).symm⟩;refine⟨.int l,?_,?_⟩
 ·unfold NY ixN;rw[LJ,Nz];have e:(-1+((r.length:Int)+1)).toNat=r.length:=by lia
  have l:(1:Int)<=(r.length:Int)+1:=by lia
  simp[e,l]
 ·have:((gk (r++[l]):Nat):Int) - 1=l:=by
   unfold gk;simp
  rw[<- this];exact q
abbrev Tr:=Int×Int×Int
abbrev yau:=List Tr
noncomputable def tn(a b:Sp):Int:=a.1*b.2 - b.1*a.2
def LB(a b:Sp):Int:=a.1*b.1+a.2*b.2
noncomputable def Lv(g h:Tr):Int:=g.1*h.1+g.2.1*h.2.1+g.2.2*h.2.2
noncomputable def bS(a b:Sp):Tr:=(a.1*b.2 - b.1*a.2,a.2*1 - b.2*1,1*b.1 - 1*a.1)
def aW(a w:Sp):Tr:=(-(w.1*a.1+w.2*a.2),w.1*1,w.2*1)
def MB(a:Sp):Sp:=(-a.1,-a.2)
noncomputable def ME(a:Sp):Sp:=(-a.2,a.1)
noncomputable def cn(a b:Sp):Sp:=if a=b then(1,0)else(1*b.1 - 1*a.1,1*b.2 - 1*a.2)
def bJ(a b:Sp):yau:=[aW a (cn a b),aW b (MB (cn a b)),aW a (ME (cn a b)),aW a (MB (ME (cn a b)))]
def br(hs:yat):yau:=if hs.length<3 then bJ (hs.getD 0 (0,0)) (hs.getD (hs.length - 1) (0,0))else(List.range' 0 hs.length).map λk=>bS (cK hs k) (hs.getD k (0,0))
def KO(a b:Sp):Prop:=tn a b=0/\LB a b<0
def KP(a b e:Sp):Prop:=(0<tn b e/\0<tn e a/\0<tn a b)∨(tn b e<0/\tn e a<0/\tn a b<0)
def cg(a b:Sp):tn a b=- tn b a:=by unfold tn;grind
def lH(a:Sp):tn a a=0:=by unfold tn;grind
def wJ(a b:Sp):LB a b=LB b a:=by unfold LB;grind
def T8(a:Int):0<=a*a:=by
 rcases Int.le_total 0 a with h|h
 ·exact M3 h h
 ·have:=M3 (show 0<=-a by lia) (show 0<=-a by lia);have e:-a*-a=a*a:=by grind
  lia
def zc{w:Sp}(h:w≠(0,0)):0<LB w w:=by
 obtain⟨a,b⟩:=w;unfold LB;dsimp only;have h1:=T8 a;have h2:=T8 b;by_cases ha:a=0
 ·by_cases hb:b=0
  ·subst ha hb;exact absurd rfl h
  ·have:b*b≠0:=U0 hb hb;omega
 ·have:a*a≠0:=U0 ha ha;omega
def tZ{u v x y:Int}(e:u*y=v*x)(h1:0<u∨(u=0/\0<v))(h2:0<x∨(x=0/\0<=y)):0<=u*x+v*y:=by
 rcases h1 with h1|⟨h1,Nc⟩
 ·have e2:(u*x+v*y)*u=(u*u+v*v)*x:=by grind
  refine Jv (y:=u) ?_ h1;rw[e2];refine M3 (Int.add_nonneg (T8 u) (T8 v)) ?_;rcases h2 with q|q
  ·exact MT q
  ·rw[q.1];exact Np _
 ·subst h1;rw[QW]at e ⊢;rw[Xc];rcases PT.mp e.symm with q|q
  ·exact absurd Nc (by rw[q];exact R6 _)
  ·rcases h2 with r|r
   ·exact absurd r (by rw[q];exact R6 _)
   ·exact M3 (MT Nc) r.2
def sU(h:¬kB q p):0<q.1 - p.1∨(q.1 - p.1=0/\0<=q.2 - p.2):=by
 unfold kB at h
 lia
def E5{a b:Sp}{g:Tr}(ne:a≠b)(Vn:¬kB b a)(hap:¬kB p a)(hpb:¬kB b p)(h0:cr a b p=0)(hg:g∈bJ a b):0<=Lv g (1,p.1,p.2):=by
 have key:∀w a:Sp,Lv (aW a w) (1,p.1,p.2)=w.1*(p.1 - a.1)+w.2*(p.2 - a.2):=λw a=>by unfold Lv aW;grind
 rw[bI]at h0;have c0:(b.1 - a.1)*(p.2 - a.2)=(b.2 - a.2)*(p.1 - a.1):=Int.eq_of_sub_eq_zero h0;have c1:(b.1 - a.1)*(b.2 - p.2)=(b.2 - a.2)*(b.1 - p.1):=by grind
 have al:0<b.1 - a.1∨(b.1 - a.1=0/\0<b.2 - a.2):=by
  rcases sU Vn with q|⟨q,r⟩
  ·exact .inl q
  ·refine .inr ⟨q,?_⟩;have:b.2 - a.2≠0:=λz=>ne (N2 (Int.eq_of_sub_eq_zero q).symm (Int.eq_of_sub_eq_zero z).symm)
   exact Int.lt_iff_le_and_ne.mpr ⟨r,Ne.symm this⟩
 have d1:=tZ c0 al (sU hap);have d2:=tZ c1 al (sU hpb);clear al Vn hap hpb;unfold bJ cn at hg;rw[Lw ne]at hg;simp only[L9,QV,or_false]at hg;rcases hg with q|q|q|q<;>rw[q,key]<;>simp only[MB,ME,RM]
 ·exact d1
 ·have:-(b.1 - a.1)*(p.1 - b.1)+-(b.2 - a.2)*(p.2 - b.2)=(b.1 - a.1)*(b.1 - p.1)+(b.2 - a.2)*(b.2 - p.2):=by grind
  rw[this];exact d2
 ·rw[O3,c0,Int.add_left_neg];exact Np _
 ·rw[VU,O3,c0,Int.add_right_neg];exact Np _
def x9(g:zW hs ps)(hn:ps ≠ []){b:Tr}(hb:b∈br hs){p:Sp}(hp:p∈ps):0<=Lv b (1,p.1,p.2):=by
 obtain⟨a0,r0,eh,Zq⟩:=g.Vw hn;unfold br at hb;by_cases c:hs.length<3
 ·rw[Lx c]at hb;rcases r0 with _|⟨b0,_|⟨z,r⟩⟩
  ·have e:=g.one a0 eh p hp;subst e;rw[eh]at hb;have key:∀w:Sp,Lv (aW p w) (1,p.1,p.2)=0:=λw=>by unfold Lv aW;grind
   unfold bJ at hb;simp only[List.getD_cons_zero,ZS,VT,L9,QV,or_false]at hb;rcases hb with q|q|q|q<;>rw[q,key]<;>exact Np _
  ·have e:=g.two a0 b0 eh;rw[eh]at hb;exact E5 e.1 (Zq b0 (g.mem b0 (by rw[eh];simp))) (Zq p hp) (e.2 p hp).2 (e.2 p hp).1 hb
  ·rw[eh]at c;exact absurd c (by simp)
 ·rw[Lw c]at hb;obtain⟨k,hk,e⟩:=Ms.mp hb;have SM:k<hs.length:=by
   have:=(UZ.mp hk).2;rw[QX]at this;exact this
  have ev:Lv b (1,p.1,p.2)=cr (cK hs k) (hs.getD k (0,0)) p:=by rw[<- e,bI];unfold Lv bS;grind
  rw[ev];exact g.Nt (by lia) k SM p hp
def LL(g:Tr):D:=T3 g.1 g.2.1 g.2.2
def zP(h:LL p=LL q):p=q:=by unfold LL T3 at h;simp only[D.tup.injEq,PQ,D.int.injEq,and_true]at h;exact N2 h.1 (N2 h.2.1 h.2.2)
def HD{ps qs:yau}(h:ps.map LL=qs.map LL):ps=qs:=iM zP h
def bF(p:Tr):aX (LL p)=LL p:=by unfold LL T3;simp only[eQ,cP,dO,cN]
def sd(ps:yau):bq (ps.map LL)=ps.map LL:=dN LL bF ps
structure WB(n:Nat)(w:Sp):Prop where
 x:Bd n w.1
 y:Bd n w.2
structure PB(n:Nat)(h:Tr):Prop where
 b0:0<h.1
 b:Bd 100 h.1
 x:Bd n h.2.1
 y:Bd n h.2.2
def Qg(hx:Bd n x)(hy:Bd m y)(hn:n<=1000:=by decide)(hm:m<=1000:=by decide):CM x y:=.inr (.inr ⟨hx.mono (NM hn (by decide)),hy.mono (NM hm (by decide))⟩)
def Ag(hs:yat):(br hs).length<=hs.length+4:=by
 unfold br bJ;split
 ·simp
 ·rw[LJ,QU];lia
def bO{s1 s2:DS}{ρ:Ro}(P:Ro->Prop)(h2:∀Ly,P Ly->s2 E Ly)(h1:∀K:Ro->Prop,(∀Ly,P Ly->K Ly)->s1 {E with nx:=K} ρ):kx s1 s2 E ρ:=h1 _ h2
noncomputable def LR(a b:Tr):Tr:=(a.2.1*b.2.2 - a.2.2*b.2.1,a.2.2*b.1 - a.1*b.2.2,a.1*b.2.1 - a.2.1*b.1)
def L7(a b c:Tr):Int:=Lv (LR a b) c
def bQ(a b c:Tr):L7 a b c=L7 b c a:=by unfold L7 Lv LR;grind
def lR(a b c:Tr):L7 a b c=- L7 b a c:=by unfold L7 Lv LR;grind
def BX(a c:Tr):L7 a a c=0:=by unfold L7 Lv LR;grind
def eX(a b:Tr):L7 a b a=0:=by unfold L7 Lv LR;grind
def eY(a b:Tr):L7 a b b=0:=by unfold L7 Lv LR;grind
structure Vx(q a b:Tr)(m s t:Int):Prop where
 m0:0<m
 s0:0<s
 t0:0<t
 e1:m*q.1=s*a.1+t*b.1
 e2:m*q.2.1=s*a.2.1+t*b.2.1
 e3:m*q.2.2=s*a.2.2+t*b.2.2
def Vx.gv(C:Vx q a b m s t)(g:Tr):m*Lv g q=s*Lv g a+t*Lv g b:=by have h1:=C.e1;have h2:=C.e2;have h3:=C.e3;unfold Lv;grind
def Vx.Xu(C:Vx q a b m s t)(ha:0<=Lv g a)(hb:0<=Lv g b):0<=Lv g q:=by
 have h:=C.gv g;have h1:=M3 (MT C.s0) ha;have h2:=M3 (MT C.t0) hb;have:0<=m*Lv g q:=by lia
 exact Sq this C.m0
def Vx.zero(C:Vx q a b m s t)(ha:Lv g a=0)(hb:Lv g b=0):Lv g q=0:=by
 have h:=C.gv g;rw[ha,hb]at h;have h':m*Lv g q=0:=by lia
 rcases PT.mp h' with z|z
 ·have:=C.m0;lia
 ·exact z
def aH(g:Tr)(qf:Tr->Tr->Tr):Tr->yau->yau
 |_,[]=>[]
 |p,c::r=>(if Lv g p*Lv g c<0 then[qf p c]else[])++((if 0<=Lv g c then[c]else[])++aH g qf c r)
def SN(g:Tr)(qf:Tr->Tr->Tr):Prop:=∀p c:Tr,0<p.1->0<c.1->Lv g p*Lv g c<0->(∃m s t,Vx (qf p c) p c m s t)/\Lv g (qf p c)=0
theorem mK(B:SN g qf):∀(l:yau) (p:Tr),(∀x∈p::l,0<x.1)->(∀x∈p::l,0<=Lv d x)->∀y∈aH g qf p l,0<=Lv d y
 |[],_,_,_=>λy hy=>by cases hy
 |c::r,p,h1,hd=>λy hy=>by
  unfold aH at hy;rcases MC.mp hy with q|q
  ·split at q
   ·rename_i lt;rw[NI.mp q];obtain⟨⟨m,s,t,C⟩,_⟩:=B p c (h1 p (by simp)) (h1 c (by simp)) lt;exact C.Xu (hd p (by simp)) (hd c (by simp))
   ·cases q
  ·rcases MC.mp q with q|q
   ·split at q
    ·rw[NI.mp q];exact hd c (by simp)
    ·cases q
   ·exact mK B r c (λx hx=>h1 x (MO _ hx)) (λx hx=>hd x (MO _ hx)) y q
theorem qu(B:SN g qf):∀(l:yau) (p:Tr),(∀x∈p::l,0<x.1)->∀y∈aH g qf p l,0<y.1
 |[],_,_=>λy hy=>by cases hy
 |c::r,p,h1=>λy hy=>by
  unfold aH at hy;rcases MC.mp hy with q|q
  ·split at q
   ·rename_i lt;rw[NI.mp q];obtain⟨⟨m,s,t,C⟩,_⟩:=B p c (h1 p (by simp)) (h1 c (by simp)) lt;have a1:=O2 C.s0 (h1 p (by simp));have a2:=O2 C.t0 (h1 c (by simp));have:=C.e1;have hm:0<m*(qf p c).1:=by lia
    exact O7.mp λz=>by have:=ZJ (MT C.m0) z;lia
   ·cases q
  ·rcases MC.mp q with q|q
   ·split at q
    ·rw[NI.mp q];exact h1 c (by simp)
    ·cases q
   ·exact qu B r c (λx hx=>h1 x (MO _ hx)) y q
theorem iu(g:Tr)(qf:Tr->Tr->Tr):∀(a:yau) (p c:Tr) (b:yau),aH g qf p (a++c::b)=aH g qf p (a++[c])++aH g qf c b
 |[],p,c,b=>by simp only[PR,aH,QM,Pn]
 |x::a,p,c,b=>by simp only[O5,aH,iu g qf a x c b,Pn]
theorem nY(B:SN g qf):∀(l:yau) (p:Tr),(∀x∈p::l,0<x.1)->∀y∈aH g qf p l,0<=Lv g y
 |[],_,_=>λy hy=>by cases hy
 |c::r,p,h1=>λy hy=>by
  unfold aH at hy;rcases MC.mp hy with q|q
  ·split at q
   ·rename_i lt;rw[NI.mp q,(B p c (h1 p (by simp)) (h1 c (by simp)) lt).2];exact Np _
   ·cases q
  ·rcases MC.mp q with q|q
   ·split at q
    ·rename_i le;rw[NI.mp q];exact le
    ·cases q
   ·exact nY B r c (λx hx=>h1 x (MO _ hx)) y q
theorem nX:∀(l:yau) (p:Tr) {x:Tr},x∈l->0<=Lv g x->x∈aH g qf p l
 |[],_,_,h,_=>by cases h
 |c::r,p,x,h,hx=>by
  unfold aH;rcases L9.mp h with rfl|h
  ·rw[Lx hx];simp
  ·exact Oq _ (Oq _ (nX r c h hx))
theorem mJ(B:SN g qf):∀(l:yau) (p z:Tr),(∀x∈p::l,0<x.1)->0<z.1->Lv g p*Lv g z<0->∃y∈aH g qf p (l++[z]),Lv g y=0/\∀d:Tr,(∀x∈p::(l++[z]),0<=Lv d x)->0<=Lv d y
 |[],p,z,h1,hz,lt=>by obtain⟨⟨m,s,t,C⟩,e⟩:=B p z (h1 p (by simp)) hz lt;refine⟨qf p z,?_,e,λd hd=>C.Xu (hd p (by simp)) (hd z (by simp))⟩;rw[PR];unfold aH;rw[Lx lt];simp
 |c::r,p,z,h1,hz,lt=>by
  rcases UY (Lv g p*Lv g c) 0 with q|q|q
  ·obtain⟨⟨m,s,t,C⟩,e⟩:=B p c (h1 p (by simp)) (h1 c (by simp)) q;refine⟨qf p c,?_,e,λd hd=>C.Xu (hd p (by simp)) (hd c (by simp))⟩;rw[O5];unfold aH;rw[Lx q];simp
  ·have hp:Lv g p≠0:=λe=>by rw[e,QW]at lt;exact R6 _ lt
   have hc:Lv g c=0:=(PT.mp q).resolve_left hp;exact⟨c,nX _ _ (by simp) (by lia),hc,λd hd=>hd c (by simp)⟩
  ·have lt2:Lv g c*Lv g z<0:=by
    rcases Int.lt_or_gt_of_ne (show Lv g p≠0 from λe=>by rw[e,QW]at lt;exact R6 _ lt)with a|a
    ·have b:0<Lv g z:=O7.mp λb=>O7.mpr lt (WR (MT a) b)
     have d:Lv g c<0:=O7.mp λd=>O7.mpr q (UP (MT a) d)
     exact RI d b
    ·have b:Lv g z<0:=O7.mp λb=>O7.mpr lt (M3 (MT a) b)
     have d:0<Lv g c:=O7.mp λd=>O7.mpr q (ZJ (MT a) d)
     exact QK d b
   obtain⟨y,hy,e,hd⟩:=mJ B r c z (λx hx=>h1 x (MO _ hx)) hz lt2;refine⟨y,?_,e,λd k=>hd d λx hx=>k x (MO _ hx)⟩;rw[O5];unfold aH;exact Oq _ (Oq _ hy)
def Pe(l:yau):Prop:=∀x y z,List.Sublist [x,y,z] l->0<=L7 x y z
def Pe.sub{k:yau}(h:Pe l)(s:k.Sublist l):Pe k:=λx y z q=>h x y z (q.trans s)
def jB:yau->Prop
 |[]=>True
 |p::r=>r.Pairwise (λa b=>0<=L7 p a b)/\jB r
theorem Pe.p:∀{l:yau},Pe l->jB l
 |[],_=>True.intro
 |p::r,h=>⟨List.pairwise_iff_forall_sublist.mpr fun {a b} s=>h p a b (s.cons_cons p),Pe.p (h.sub (List.sublist_cons_self p r))⟩
theorem jB.t:∀{l:yau},jB l->Pe l
 |[],_,_,_,_,s=>by cases s
 |p::r,h,x,y,z,s=>by
  cases s with
  |cons _ s=>exact jB.t h.2 x y z s
  |cons_cons _ s=>exact List.pairwise_iff_forall_sublist.mp h.1 s
theorem ki(B:SN g qf):∀(l:yau) (p:Tr),(∀x∈p::l,0<x.1)->(p::l).Pairwise (λa b=>0<=L7 d a b)->(p::aH g qf p l).Pairwise (λa b=>0<=L7 d a b)
 |[],_,_,h=>h
 |c::r,p,h1,h=>by
  have Nc:∀x∈c::r,0<x.1:=λx hx=>h1 x (MO _ hx)
  obtain⟨hp,hc⟩:=P7.mp h;have ih:=ki B r c Nc hc;obtain⟨ih1,Xr⟩:=P7.mp ih;have hw:∀w∈aH g qf c r,0<=L7 d p w:=mK B r c Nc (d:=LR d p) hp;have Pu:0<=L7 d p c:=hp c (by simp);unfold aH;by_cases lt:Lv g p*Lv g c<0
  ·rw[Lx lt];obtain⟨⟨m,s,t,C⟩,e⟩:=B p c (h1 p (by simp)) (h1 c (by simp)) lt;have pq:0<=L7 d p (qf p c):=C.Xu (g:=LR d p) (by show 0<=L7 d p p;rw[eY];exact Np _) Pu;have qx:∀x,0<=L7 d p x->0<=L7 d c x->0<=L7 d (qf p c) x:=λx a b=>by
    rw[bQ,bQ]at a b ⊢;exact C.Xu (g:=LR x d) a b
   have qc:0<=L7 d (qf p c) c:=qx c Pu (by rw[eY];exact Np _);by_cases le:0<=Lv g c
   ·rw[Lx le];refine P7.mpr ⟨λa ha=>?_,P7.mpr ⟨λa ha=>?_,?_⟩⟩
    ·simp only[O5,PR,L9]at ha;rcases ha with rfl|rfl|ha
     ·exact pq
     ·exact Pu
     ·exact hw a ha
    ·rcases L9.mp (show a∈c::aH g qf c r from ha)with e|ha
     ·rw[e];exact qc
     ·exact qx a (hw a ha) (ih1 a ha)
    ·exact ih
   ·rw[Lw le];refine P7.mpr ⟨λa ha=>?_,P7.mpr ⟨λa ha=>?_,?_⟩⟩
    ·simp only[O5,PR,L9]at ha;rcases ha with rfl|ha
     ·exact pq
     ·exact hw a ha
    ·simp only[PR]at ha;exact qx a (hw a ha) (ih1 a ha)
    ·exact Xr
  ·rw[Lw lt];by_cases le:0<=Lv g c
   ·rw[Lx le];refine P7.mpr ⟨λa ha=>?_,ih⟩;simp only[O5,PR,L9]at ha;rcases ha with rfl|ha
    ·exact Pu
    ·exact hw a ha
   ·rw[Lw le];exact P7.mpr ⟨hw,Xr⟩
theorem xT(B:SN g qf):∀(l:yau) (p:Tr),(∀x∈p::l,0<x.1)->jB (p::l)->jB (p::aH g qf p l)
 |[],_,_,h=>h
 |c::r,p,h1,h=>by
  have Nc:∀x∈c::r,0<x.1:=λx hx=>h1 x (MO _ hx)
  have ih:=xT B r c Nc h.2;have hp:(p::c::r).Pairwise λa b=>0<=L7 p a b:=P7.mpr ⟨λa _=>by rw[BX];exact Np _,h.1⟩
  have pw:=(P7.mp (ki (d:=p) B (c::r) p h1 hp)).2;refine⟨pw,?_⟩;have hcr:(c::r).Pairwise λa b=>0<=L7 p a b:=h.1
  have p1:=ki (d:=p) B r c Nc hcr;have hc:(c::r).Pairwise λa b=>0<=L7 c a b:=P7.mpr ⟨λa _=>by rw[BX];exact Np _,h.2.1⟩
  have p2:=ki (d:=c) B r c Nc hc;unfold aH;by_cases lt:Lv g p*Lv g c<0
  ·rw[Lx lt];obtain⟨⟨m,s,t,C⟩,e⟩:=B p c (h1 p (by simp)) (h1 c (by simp)) lt;have pq:(c::aH g qf c r).Pairwise λa b=>0<=L7 (qf p c) a b:=by
    refine List.Pairwise.imp ?_ (List.pairwise_and_iff.mpr ⟨p1,p2⟩);intro a b ⟨x,y⟩;rw[bQ]at x y ⊢;exact C.Xu (g:=LR a b) x y
   by_cases le:0<=Lv g c
   ·rw[Lx le];exact⟨pq,ih⟩
   ·rw[Lw le];exact⟨(P7.mp pq).2,ih.2⟩
  ·rw[Lw lt];by_cases le:0<=Lv g c
   ·rw[Lx le];exact ih
   ·rw[Lw le];exact ih.2
def uC{l:yau}{a:Tr}(h:Pe (l++[a])):Pe (a::(l++[a])):=λx y z s=>by
 cases s with
 |cons _ s=>exact h x y z s
 |cons_cons _ s =>
  obtain⟨k1,k2,e,s1,s2⟩:=List.sublist_append_iff.mp s;rcases k2 with _|⟨w,k2⟩
  ·rw[QM]at e;subst e;have:=h y z a (by
    have:[y,z,a]=[y,z]++[a]:=rfl;rw[this];exact s1.append (List.Sublist.refl _))
   rw[bQ];exact this
  ·have hk:k2=[]:=by
    have:=s2.length_le;simp at this;exact this
   subst hk;have hw:w=a:=NI.mp (s2.subset (by simp));subst hw;rcases k1 with _|⟨u,_|⟨v,k1⟩⟩
   ·cases e
   ·cases e;rw[eX];exact Np _
   ·exact absurd (congrArg List.length e) (by simp)
def QF(l:yau)(X:Tr):Prop:=∀h:Tr,(∀p∈l,0<=Lv h p)->0<=Lv h X
def My(g u v:Tr):Tr:=(Lv g v*u.1 - Lv g u*v.1,Lv g v*u.2.1 - Lv g u*v.2.1,Lv g v*u.2.2 - Lv g u*v.2.2)
def Dv(g u v h:Tr):Lv h (My g u v)=Lv g v*Lv h u - Lv g u*Lv h v:=by unfold My Lv;grind
def CP(e1:Lv g y=0)(e2:L7 u v y=0):Lv h y*(My g u v).1=y.1*Lv h (My g u v):=by unfold L7 Lv LR at e2;unfold My Lv at *;dsimp only at *;grind
def HE(e1:Lv g y1=0)(e2:Lv g y2=0)(d1:L7 u v y1<=0)(d2:0<=L7 u v y2)(p1:0<y1.1)(p2:0<y2.1)(h1:0<=Lv h y1)(h2:0<=Lv h y2):0<=Lv h (My g u v)*(My g u v).1:=by
 by_cases z:L7 u v y1=0
 ·have k:=CP (h:=h) e1 z;have sq:0<=(My g u v).1*(My g u v).1:=T8 _;have:0<=y1.1*(Lv h (My g u v)*(My g u v).1):=by
   have:y1.1*(Lv h (My g u v)*(My g u v).1)=Lv h y1*((My g u v).1*(My g u v).1):=by rw[<- U3,<- k,U3]
   rw[this];exact M3 h1 sq
  exact Sq this p1
 ·have lt:L7 u v y1<0:=by lia
  generalize ha:L7 u v y1=a at *;generalize hb:L7 u v y2=b at *
  let y:Tr:=(b*y1.1 - a*y2.1,b*y1.2.1 - a*y2.2.1,b*y1.2.2 - a*y2.2.2)
  have Xv:∀f:Tr,Lv f y=b*Lv f y1 - a*Lv f y2:=λf=>by show Lv f (b*y1.1 - a*y2.1,b*y1.2.1 - a*y2.2.1,b*y1.2.2 - a*y2.2.2)=_;unfold Lv;grind
  have k:=CP (h:=h) (u:=u) (v:=v) (y:=y) (g:=g) (by rw[Xv,e1,e2];simp) (by
   show Lv (LR u v) y=0;rw[Xv];show b*L7 u v y1 - a*L7 u v y2=0;rw[ha,hb,M4]
   lia)
  rw[Xv]at k;have y0:0<y.1:=by
   show 0<b*y1.1 - a*y2.1;have:=M3 d2 (MT p1);have:=RI lt p2
   lia
  have n:0<=b*Lv h y1 - a*Lv h y2:=by
   have:=M3 d2 h1;have:=UP (MT lt) h2
   lia
  have sq:0<=(My g u v).1*(My g u v).1:=T8 _;have:0<=y.1*(Lv h (My g u v)*(My g u v).1):=by
   have:y.1*(Lv h (My g u v)*(My g u v).1)=(b*Lv h y1 - a*Lv h y2)*((My g u v).1*(My g u v).1):=by rw[<- U3,<- k,U3]
   rw[this];exact M3 n sq
  exact Sq this y0
def wA(B:SN g qf){A C D:yau}{u v z:Tr}(hz:A++u::(C++v::D)=(A++u::(C++v::D)).dropLast++[z])(Ol:Pe (A++u::(C++v::D)))(pos:∀x∈A++u::(C++v::D),0<x.1)
  (lt:Lv g u*Lv g v<0) (hh:∀y∈aH g qf z (A++u::(C++v::D)),0<=Lv h y):0<=Lv h (My g u v)*(My g u v).1:=by
 have hu:0<u.1:=pos u (by simp);have hv:0<v.1:=pos v (by simp);have hC:∀x∈C,0<x.1:=λx hx=>pos x (by simp[hx])
 have hA:∀x∈A,0<x.1:=λx hx=>pos x (by simp[hx])
 have hD:∀x∈D,0<x.1:=λx hx=>pos x (by simp[hx])
 have zp:0<z.1:=pos z (by rw[hz];simp);have w1:aH g qf z (A++u::(C++v::D))=aH g qf z (A++[u])++(aH g qf u (C++[v])++aH g qf v D):=by rw[iu g qf A z u,iu g qf C u v]
 obtain⟨y1,m1,e1,d1⟩:=mJ B C u v (λx hx=>by
  rcases L9.mp hx with rfl|hx
  ·exact hu
  ·exact hC x hx) hv lt
 have p1:0<y1.1:=qu B (C++[v]) u (λx hx=>by
  simp only[L9,MC,QV,or_false]at hx;rcases hx with rfl|hx|rfl
  ·exact hu
  ·exact hC x hx
  ·exact hv) y1 m1
 have s1:L7 u v y1<=0:=by
  have:=d1 (LR v u) λx hx=>by
   show 0<=L7 v u x;simp only[L9,MC,QV,or_false]at hx;rcases hx with rfl|hx|rfl
   ·rw[eY];exact Np _
   ·have t:=Ol u x v (by
     have a:List.Sublist [u,x,v] (u::(C++v::D)):=by refine List.Sublist.cons_cons u ?_;have:[x,v]=[x]++[v]:=rfl;rw[this];exact(Uc.mpr hx).append (Uc.mpr (by simp))
     exact a.trans (US _ _))
    rw[bQ,bQ]at t;exact t
   ·rw[eX];exact Np _
  have q:0<=L7 v u y1:=this;rw[lR]
  lia
 have dn:∀x∈v::D++(A++[u]),0<=L7 u v x:=λx hx=>by
  simp only[L9,MC,QV,or_false,O5]at hx;rcases hx with rfl|hx|hx|rfl
  ·rw[eY];exact Np _
  ·exact Ol u v x (by
    have a:List.Sublist [u,v,x] (u::(C++v::D)):=by refine List.Sublist.cons_cons u ?_;exact(List.Sublist.cons_cons v (Uc.mpr hx)).trans (US _ _)
    exact a.trans (US _ _))
  ·have t:=Ol x u v (by
    have:[x,u,v]=[x]++[u,v]:=rfl;rw[this];refine(Uc.mpr hx).append (List.Sublist.cons_cons u ?_);exact(Uc.mpr (by simp)).trans (US _ _))
   rw[bQ]at t;exact t
  ·rw[eX];exact Np _
 obtain⟨y2,m2,e2,d2⟩:=mJ B (D++A) v u (λx hx=>by
  simp only[L9,MC]at hx;rcases hx with rfl|hx|hx
  ·exact hv
  ·exact hD x hx
  ·exact hA x hx) hu (by rw[M4];exact lt)
 have p2:0<y2.1:=qu B (D++A++[u]) v (λx hx=>by
  simp only[L9,MC,QV,or_false]at hx;rcases hx with rfl|(hx|hx)|rfl
  ·exact hv
  ·exact hD x hx
  ·exact hA x hx
  ·exact hu) y2 m2
 have s2:0<=L7 u v y2:=d2 (LR u v) λx hx=>dn x (by
  simp only[L9,MC,QV,or_false,O5]at hx ⊢;rcases hx with hx|(hx|hx)|hx
  ·exact .inl hx
  ·exact .inr (.inl hx)
  ·exact .inr (.inr (.inl hx))
  ·exact .inr (.inr (.inr hx)))
 have k1:0<=Lv h y1:=hh y1 (by rw[w1];exact Oq _ (Qj _ m1));have k2:0<=Lv h y2:=by
  apply hh y2;rw[w1];have:∃D',v::D=D'++[z]:=by
   have hn:v::D ≠ []:=by simp
   refine⟨(v::D).dropLast,?_⟩;have e:(A++u::(C++v::D)).getLast?=some z:=by rw[hz];simp
   have e2:(A++u::(C++v::D)).getLast?=(v::D).getLast?:=by
    have:A++u::(C++v::D)=(A++u::C)++(v::D):=by simp
    rw[this,List.getLast?_append,Xz hn];rfl
   rw[e2,Xz hn]at e;have e3:=(WS hn).symm;rw[ON e]at e3;exact e3
  obtain⟨D',hD'⟩:=this;rcases D' with _|⟨w,D'⟩
  ·cases hD';rw[PR]at m2;exact Qj _ m2
  ·rw[O5]at hD';cases hD';have e:D'++[z]++A++[u]=D'++z::(A++[u]):=by simp
   rw[e,iu]at m2;rcases MC.mp m2 with q|q
   ·exact Oq _ (Oq _ q)
   ·exact Qj _ q
 exact HE e1 e2 s1 s2 p1 p2 k1 k2
def Dd{l:yau}{a b:Tr}(ha:a∈l)(hb:b∈l)(ne:a≠b):(∃A C D,l=A++a::(C++b::D))∨∃ A C D,l=A++b::(C++a::D):=by
 obtain⟨A,R,rfl⟩:=WW ha;rcases MC.mp hb with q|q
 ·obtain⟨A',R',rfl⟩:=WW q;exact .inr ⟨A',R',R,by simp⟩
 ·rcases L9.mp q with q|q
  ·exact absurd q.symm ne
  ·obtain⟨A',R',rfl⟩:=WW q;exact .inl ⟨A,A',R',rfl⟩
theorem pV(g h:Tr):∀l:yau,(∃n∈l,Lv g n<0/\Lv h n<0)->∃n∈l,Lv g n<0/\Lv h n<0/\∀m∈l,Lv g m<0->Lv g n*Lv h m<=Lv h n*Lv g m
 |[],⟨_,hn,_⟩=>by cases hn
 |x::r,hex=>by
  by_cases hr:∃n∈r,Lv g n<0/\Lv h n<0
  ·obtain⟨n,hn,n1,n2,nm⟩:=pV g h r hr;by_cases c:Lv g x<0/\¬(Lv g n*Lv h x<=Lv h n*Lv g x)
   ·obtain⟨c1,c2⟩:=c;have Si:=O7.mp c2;have hx:Lv h x<0:=by
     have:0<Lv h n*Lv g x:=Ua n2 c1;exact O7.mp λz=>by
      have:=UP (MT n1) z
      lia
    refine⟨x,by simp,c1,hx,λm hm gm=>?_⟩;rcases L9.mp hm with rfl|hm
    ·rw[M4];exact Np _
    ·have k:=nm m hm gm;have a:0<=(-Lv g x)*(Lv h n*Lv g m - Lv g n*Lv h m):=M3 (by lia) (by lia);have b:0<=(-Lv g m)*(Lv g n*Lv h x - Lv h n*Lv g x):=M3 (by lia) (by lia);have e:(-Lv g x)*(Lv h n*Lv g m - Lv g n*Lv h m)+(-Lv g m)*(Lv g n*Lv h x - Lv h n*Lv g x)=(-Lv g n)*(Lv h x*Lv g m - Lv g x*Lv h m):=by grind
     have:0<=(-Lv g n)*(Lv h x*Lv g m - Lv g x*Lv h m):=by lia
     have:=Sq this (by lia)
     lia
   ·refine⟨n,MO _ hn,n1,n2,λm hm gm=>?_⟩;rcases L9.mp hm with rfl|hm
    ·exact Decidable.byContradiction λz=>c ⟨gm,z⟩
    ·exact nm m hm gm
  ·obtain⟨n,hn,n1,n2⟩:=hex;rcases L9.mp hn with rfl|hn
   ·refine⟨n,by simp,n1,n2,λm hm gm=>?_⟩;rcases L9.mp hm with rfl|hm
    ·rw[M4];exact Np _
    ·have:0<=Lv h m:=QZ.mp λz=>hr ⟨m,hm,gm,z⟩
     have a:=UP (MT n1) this;have b:=Ua n2 gm
     lia
   ·exact absurd ⟨n,hn,n1,n2⟩ hr
def Fb(B:SN g qf){l:yau}{z:Tr}(hz:l=l.dropLast++[z])(Ol:Pe l)(pos:∀x∈l,0<x.1)(hX:QF l X)(gX:0<=Lv g X):QF (aH g qf z l) X:=λh hh=>by
 have kp:∀p∈l,0<=Lv g p->0<=Lv h p:=λp hp q=>hh p (nX l z hp q)
 by_cases hb:∃n∈l,Lv g n<0/\Lv h n<0
 ·obtain⟨n,hn,n1,n2,nm⟩:=pV g h l hb
  let k:Tr:=(Lv h n*g.1 - Lv g n*h.1,Lv h n*g.2.1 - Lv g n*h.2.1,Lv h n*g.2.2 - Lv g n*h.2.2)
  have Xv:∀p:Tr,Lv k p=Lv h n*Lv g p - Lv g n*Lv h p:=λp=>by show Lv (Lv h n*g.1 - Lv g n*h.1,Lv h n*g.2.1 - Lv g n*h.2.1,Lv h n*g.2.2 - Lv g n*h.2.2) p=_;generalize Lv h n=a;generalize Lv g n=b;unfold Lv;grind
  have kn:∀p∈l,0<=Lv k p:=λp hp=>by
   rw[Xv];rcases UY (Lv g p) 0 with q|q|q
   ·have:=nm p hp q
    lia
   ·rw[q,Pg];have:=UP (MT n1) (kp p hp (by lia))
    lia
   ·have ne:p≠n:=λe=>by rw[e]at q;lia
    have np:=pos n hn;have pp:=pos p hp;rcases Dd hp hn ne with⟨A,C,D,rfl⟩| ⟨A,C,D,rfl⟩
    ·have r:=wA B hz Ol pos (QK q n1) hh;rw[Dv]at r;have w0:(My g p n).1<0:=by
      show Lv g n*p.1 - Lv g p*n.1<0;have:=RI n1 pp;have:=O2 q np
      lia
     have r2:Lv g n*Lv h p - Lv g p*Lv h n<=0:=QZ.mp λz=>by
      have:=QK z w0
      lia
     rw[M4 (Lv h n)]
     lia
    ·have r:=wA B hz Ol pos (RI n1 q) hh;rw[Dv]at r;have w0:0<(My g n p).1:=by
      show 0<Lv g p*n.1 - Lv g n*p.1;have:=RI n1 pp;have:=O2 q np
      lia
     have r2:0<=Lv g p*Lv h n - Lv g n*Lv h p:=QZ.mp λz=>by
      have:=RI z w0
      lia
     rw[M4 (Lv h n)];exact r2
  have kX:=hX k kn;rw[Xv]at kX;have a:=UP (MT n2) gX;exact QZ.mp λz=>by
   have:=Ua n1 z
   lia
 ·refine hX h λp hp=>?_
  by_cases q:0<=Lv g p
  ·exact kp p hp q
  ·exact QZ.mp λz=>hb ⟨p,hp,by lia,z⟩
def PJ(R:Tr->Tr->Prop):yau->Prop
 |[]=>True
 |[_]=>True
 |a::b::r=>R a b/\PJ R (b::r)
def PJ.tail{a:Tr}:∀{l:yau},PJ R (a::l)->PJ R l
 |[],_=>True.intro
 |_::_,h=>h.2
theorem jv:∀(l:yau) (x:Tr) (k:yau),PJ R (l++x::k)↔PJ R (l++[x])/\PJ R (x::k)
 |[],x,k=>by simp[PJ]
 |[a],x,k=>by simp[PJ]
 |a::b::l,x,k=>by have:=jv (R:=R) (b::l) x k;simp only[O5,PJ]at this ⊢;rw[this,and_assoc]
def Sh(G:Tr->Prop)(a b:Tr):Prop:=∃e,G e/\Lv e a=0/\Lv e b=0
theorem mI(B:SN g qf){G:Tr->Prop}(hg:G g):∀(l:yau) (p x:Tr),(∀y∈p::l,0<y.1)->((x=p/\0<=Lv g p)∨(Lv g x=0/\Lv g p<0))->PJ (Sh G) (p::l)->PJ (Sh G) (x::aH g qf p l)
 |[],_,_,_,_,_=>True.intro
 |c::r,p,x,h1,hx,h=>by
  have Nc:∀y∈c::r,0<y.1:=λy hy=>h1 y (MO _ hy)
  obtain⟨⟨e,ge,ep,ec⟩,hr⟩:=h;have ih:=λx hx=>mI B hg r c x Nc hx hr
  unfold aH;by_cases lt:Lv g p*Lv g c<0
  ·rw[Lx lt];obtain⟨⟨m,s,t,C⟩,eq⟩:=B p c (h1 p (by simp)) (h1 c (by simp)) lt;have Zr:Lv e (qf p c)=0:=C.zero ep ec;by_cases le:0<=Lv g c
   ·rw[Lx le];refine⟨?_,⟨e,ge,Zr,ec⟩,ih c (.inl ⟨rfl,le⟩)⟩;rcases hx with⟨rfl,_⟩| ⟨hx,_⟩
    ·exact⟨e,ge,ep,Zr⟩
    ·exact⟨g,hg,hx,eq⟩
   ·rw[Lw le];refine⟨?_,ih _ (.inr ⟨eq,by lia⟩)⟩;rcases hx with⟨rfl,_⟩| ⟨hx,_⟩
    ·exact⟨e,ge,ep,Zr⟩
    ·exact⟨g,hg,hx,eq⟩
  ·rw[Lw lt];by_cases le:0<=Lv g c
   ·rw[Lx le];refine⟨?_,ih c (.inl ⟨rfl,le⟩)⟩;rcases hx with⟨rfl,_⟩| ⟨hx,hp⟩
    ·exact⟨e,ge,ep,ec⟩
    ·have:Lv g c=0:=by
      rcases Int.lt_or_eq_of_le le with q|q
      ·exact absurd (RI hp q) lt
      ·exact q.symm
     exact⟨g,hg,hx,this⟩
   ·rw[Lw le];refine ih x ?_;rcases hx with⟨rfl,hp⟩| ⟨hx,_⟩
    ·right
     refine⟨?_,by lia⟩;rcases Int.lt_or_eq_of_le hp with q|q
     ·exact absurd (QK q (by lia)) lt
     ·exact q.symm
    ·exact .inr ⟨hx,by lia⟩
theorem uG(B:SN g qf){G:Tr->Prop}(hg:G g):∀(l:yau) (p:Tr),(∀y∈p::l,0<y.1)->PJ (Sh G) (p::l)->PJ (Sh G) (aH g qf p l)
 |[],_,_,_=>True.intro
 |c::r,p,h1,h=>by
  by_cases hp:0<=Lv g p
  ·exact(mI B hg (c::r) p p h1 (.inl ⟨rfl,hp⟩) h).tail
  have Nc:∀y∈c::r,0<y.1:=λy hy=>h1 y (MO _ hy)
  obtain⟨⟨e,ge,ep,ec⟩,hr⟩:=h;unfold aH;by_cases lt:Lv g p*Lv g c<0
  ·rw[Lx lt];obtain⟨⟨m,s,t,C⟩,eq⟩:=B p c (h1 p (by simp)) (h1 c (by simp)) lt;have Zr:Lv e (qf p c)=0:=C.zero ep ec;by_cases le:0<=Lv g c
   ·rw[Lx le];exact⟨⟨e,ge,Zr,ec⟩,mI B hg r c c Nc (.inl ⟨rfl,le⟩) hr⟩
   ·exact absurd (Ua (O7.mp hp) (O7.mp le)) (by lia)
  ·rw[Lw lt];by_cases le:0<=Lv g c
   ·rw[Lx le];exact mI B hg r c c Nc (.inl ⟨rfl,le⟩) hr
   ·rw[Lw le];exact uG B hg r c Nc hr
def Xw(R:Tr->Tr->Prop)(l:yau):Prop:=∀k z,l=k++[z]->PJ R (z::l)
def E9(B:SN g qf){G:Tr->Prop}(hg:G g){l:yau}{z:Tr}(hz:l=l.dropLast++[z])(pos:∀y∈l,0<y.1)(h:Xw (Sh G) l):Xw (Sh G) (aH g qf z l):=λk y ek=>by
 have c1:=h _ z hz;have c2:PJ (Sh G) (z::(l++l)):=by
  have e:z::(l++l)=(z::l.dropLast)++(z::l):=by
   rw[O5];congr 1
   conv=>lhs;arg 1;rw[hz]
   simp
  rw[e,jv];refine⟨?_,c1⟩;rw[O5,<- hz];exact c1
 have zl:z∈l:=by rw[hz];simp
 have c3:=uG B hg (l++l) z (λy hy=>by
  simp only[L9,MC,or_self]at hy;rcases hy with rfl|hy
  ·exact pos y zl
  ·exact pos y hy) c2
 have e:aH g qf z (l++l)=aH g qf z l++aH g qf z l:=by
  have a:l++l=l.dropLast++z::l:=by
   conv=>lhs;arg 1;rw[hz]
   simp
  rw[a,iu,<- hz]
 rw[e]at c3;have e2:aH g qf z l++aH g qf z l=k++y::aH g qf z l:=by
  conv=>lhs;arg 1;rw[ek]
  simp
 rw[e2,jv]at c3;exact c3.2
noncomputable def Pk:yau->yau->yau
 |_,[]=>[]
 |seen,x::r=>if x∈seen then Pk seen r else x::Pk (seen++[x]) r
theorem kQ:∀(l seen:yau),(Pk seen l).Sublist l
 |[],_=>List.Sublist.slnil
 |x::r,seen=>by
  unfold Pk;split
  ·exact(kQ r seen).cons x
  ·exact(kQ r _).cons_cons x
theorem sG:∀(l seen:yau) {x:Tr},x∈l->x∈seen∨x∈Pk seen l
 |[],_,_,h=>by cases h
 |y::r,seen,x,h=>by
  unfold Pk;rcases L9.mp h with rfl|h
  ·split
   ·rename_i q;exact .inl q
   ·exact .inr (by simp)
  ·split
   ·exact sG r seen h
   ·rcases sG r (seen++[y]) h with q|q
    ·rcases MC.mp q with q|q
     ·exact .inl q
     ·rw[NI.mp q];exact .inr (by simp)
    ·exact .inr (MO _ q)
theorem uc:∀(l seen:yau),l.Nodup->(∀x∈l,x∉seen)->Pk seen l=l
 |[],_,_,_=>rfl
 |x::r,seen,h,hs=>by
  obtain⟨a,b⟩:=SY.mp h;unfold Pk;rw[Lw (hs x (by simp)),uc r (seen++[x]) b λy hy q=>by
   rcases MC.mp q with q|q
   ·exact hs y (MO _ hy) q
   ·exact a (by rw[<- NI.mp q];exact hy)]
theorem m8:∀(l seen:yau) (v:Tr) (k:yau),v∈seen∨v∈l->Pk seen (l++v::k)=Pk seen (l++k)
 |[],seen,v,k,h=>by
  rw[PR,PR]
  conv=>lhs;unfold Pk
  rw[Lx (h.resolve_right (by simp))]
 |x::r,seen,v,k,h=>by
  rw[O5,O5];unfold Pk;split
  ·rename_i q;refine m8 r seen v k ?_;rcases h with h|h
   ·exact .inl h
   ·rcases L9.mp h with rfl|h
    ·exact .inl q
    ·exact .inr h
  ·congr 1;refine m8 r _ v k ?_;rcases h with h|h
   ·exact .inl (Qj _ h)
   ·rcases L9.mp h with rfl|h
    ·exact .inl (by simp)
    ·exact .inr h
theorem pE:∀l:yau,¬l.Nodup->∃A v C,l=A++v::C/\v∈A
 |[],h=>absurd List.nodup_nil h
 |x::r,h=>by
  by_cases hx:x∈r
  ·obtain⟨A,C,rfl⟩:=WW hx;exact⟨x::A,x,C,rfl,by simp⟩
  ·obtain⟨A,v,C,e,hv⟩:=pE r λq=>h (SY.mpr ⟨hx,q⟩)
   exact⟨x::A,v,C,by rw[e];rfl,MO _ hv⟩
def GP(ea:Lv e a=0)(ev:Lv e v=0)(hd:L7 v a b=0)(hw:LR v a≠(0,0,0)):Lv e b=0:=by
 have h1:Lv e b*(LR v a).1=0:=by unfold L7 Lv LR at *;dsimp only at *;grind
 have h2:Lv e b*(LR v a).2.1=0:=by unfold L7 Lv LR at *;dsimp only at *;grind
 have h3:Lv e b*(LR v a).2.2=0:=by unfold L7 Lv LR at *;dsimp only at *;grind
 refine Decidable.byContradiction λz=>hw ?_
 have a1:=(PT.mp h1).resolve_left z;have a2:=(PT.mp h2).resolve_left z;have a3:=(PT.mp h3).resolve_left z;generalize LR v a=w at a1 a2 a3;obtain⟨x,y,t⟩:=w
 simp_all
structure Pr(p:Tr):Prop where
 pos:0<p.1
 low:PM.g3 p.1 p.2.1 p.2.2=1
def jD(hv:Pr v)(ha:Pr a)(h:LR v a=(0,0,0)):v=a:=by
 unfold LR at h;simp only[Rc]at h;obtain⟨h1,h2,h3⟩:=h;have q1:v.2.1*a.1=a.2.1*v.1:=by have:=M4 v.1 a.2.1;lia
 have q2:v.2.2*a.1=a.2.2*v.1:=by have:=M4 v.1 a.2.2;lia
 have d1:v.1∣a.1:=je (d:=v.1) (k:=a.1) (x:=v.1) (y:=v.2.1) (z:=v.2.2) (VO _ _) (by rw[M4,q1];exact VO _ _) (by rw[M4,q2];exact VO _ _) hv.low;have d2:a.1∣v.1:=je (d:=a.1) (k:=v.1) (x:=a.1) (y:=a.2.1) (z:=a.2.2) (VO _ _) (by rw[M4,<- q1];exact VO _ _) (by rw[M4,<- q2];exact VO _ _) ha.low;have pa:=ha.pos;have pv:=hv.pos;have e:v.1=a.1:=by
  have l1:=Int.le_of_dvd pa d1;have l2:=Int.le_of_dvd pv d2
  lia
 obtain⟨v1,v2,v3⟩:=v;obtain⟨a1,a2,a3⟩:=a;dsimp only at *;subst e;rw[XB (by lia) q1,XB (by lia) q2]
theorem BQ:∀(n:Nat) (l:yau),l.length<=n->Pe l->(∀p∈l,Pr p)->Xw (Sh G) l->Xw (Sh G) (Pk [] l)
 |n,l,hn,Ol,pr,cy=>by
  by_cases nd:l.Nodup
  ·rw[uc l [] nd (by simp)];exact cy
  obtain⟨A,v,C,rfl,hv⟩:=pE l nd;rw[m8 A [] v C (.inr hv)];cases n with
  |zero=>simp at hn
  |succ n =>
  have sub:(A++C).Sublist (A++v::C):=(List.Sublist.refl A).append (List.sublist_cons_self v C);refine BQ n (A++C) (by simp at hn ⊢;lia) (Ol.sub sub) (λp hp=>pr p (sub.subset hp)) ?_;obtain⟨A1,A2,rfl⟩:=WW hv;obtain⟨K,a,hK⟩:∃K a,A1++v::A2=K++[a]:=⟨_,_,(WS (by simp:A1++v::A2 ≠ [])).symm⟩;have am:a=v∨∃ A3,A2=A3++[a]:=by
   rcases List.eq_nil_or_concat A2 with rfl|⟨A3,w,rfl⟩
   ·left
    have:=congrArg List.getLast? hK;simp at this;exact this.symm
   ·right
    have e:A1++v::A3.concat w=(A1++v::A3)++[w]:=by simp
    rw[e]at hK;have:=(List.append_inj' hK rfl).2;cases this;exact⟨A3,by simp⟩
  have pv:Pr v:=pr v (by simp);have pa:Pr a:=pr a (by rw[hK];simp)
  have glue:∀b,Sh G a v->Sh G v b->(a≠v->L7 v a b=0)->Sh G a b:=λb s1 s2 hd=>by
   by_cases q:a=v
   ·rw[q];exact s2
   ·obtain⟨e,ge,ea,ev⟩:=s1;exact⟨e,ge,ea,GP ea ev (hd q) λz=>q (jD pv pa z).symm⟩
  rw[hK];rw[hK]at cy Ol;rcases C with _|⟨b,C⟩
  ·have c:=cy (K++[a]) v (by simp);intro k z ek;rw[QM]at ek ⊢;have ez:a=z:=by
    have:=congrArg List.getLast? ek;simp at this;exact this
   subst ez;have c':PJ (Sh G) ((v::K)++a::[v]):=by simpa using c
   rw[jv]at c';obtain⟨c1,c2,_⟩:=c';rcases hA:K++[a]with _|⟨b,R⟩
   ·simp at hA
   ·have c3:PJ (Sh G) (v::b::R):=by
     rw[<- hA];exact c1
    refine⟨glue b c2 c3.1 λne=>?_,c3.2⟩;obtain⟨A3,rfl⟩:=am.resolve_left ne;rcases A1 with _|⟨b',A1⟩
    ·rw[<- hK]at hA;cases hA;rw[eX]
    ·rw[<- hK]at hA;cases hA;have t1:=Ol b v a (by
      rw[<- hK];refine List.Sublist.trans ?_ (List.sublist_append_left _ _);refine List.Sublist.cons_cons b ?_;refine List.Sublist.trans ?_ (US _ _);refine List.Sublist.cons_cons v ?_;exact US _ _)
     have t2:=Ol b a v (by rw[<- hK];refine List.Sublist.cons_cons b ?_;have:[a,v]=[a]++[v]:=rfl;rw[this];refine ZX ?_ (List.Sublist.refl _);exact Uc.mpr (by simp))
     rw[bQ]at t1;rw[bQ,lR]at t2
     lia
  ·intro k z ek;have c:=cy (((K++[a])++v::b::C).dropLast) z (by
    have e2:(K++[a]++v::b::C).getLast?=some z:=by
     have h1:(K++[a]++b::C).getLast?=some z:=by rw[ek];simp
     have h2:(K++[a]++b::C).getLast?=(b::C).getLast?:=by rw[List.getLast?_append,Xz (by simp:b::C ≠ [])];rfl
     have h3:(K++[a]++v::b::C)=(K++[a]++[v])++b::C:=by simp
     rw[h3,List.getLast?_append,<- h2,h1];rfl
    have hn:K++[a]++v::b::C ≠ []:=by simp
    rw[Xz hn]at e2;have e3:=(WS hn).symm;rw[ON e2]at e3;exact e3)
   have c':PJ (Sh G) ((z::K)++a::(v::b::C)):=by simpa using c
   rw[jv]at c';obtain⟨c1,c2,c3,c4⟩:=c';have:z::(K++[a]++b::C)=(z::K)++a::(b::C):=by simp
   rw[this,jv];refine⟨c1,glue b c2 c3 λne=>?_,c4⟩;obtain⟨A3,rfl⟩:=am.resolve_left ne;have t1:=Ol v a b (by
    rw[<- hK];have:A1++v::(A3++[a])++v::b::C=(A1++(v::A3))++(a::(v::(b::C))):=by simp
    rw[this];have:[v,a,b]=[v]++[a,b]:=rfl;rw[this];refine ZX (Uc.mpr (by simp)) (List.Sublist.cons_cons a ?_);exact List.Sublist.cons _ (List.Sublist.cons_cons b (List.nil_sublist _)))
   have t2:=Ol a v b (by
    have:K++[a]++v::b::C=K++(a::v::b::C):=by simp
    rw[this];refine List.Sublist.trans ?_ (US _ _);exact List.Sublist.cons_cons a (List.Sublist.cons_cons v (List.Sublist.cons_cons b (List.nil_sublist _))))
   rw[lR]at t2
   lia
def Rz(w:Tr):Tr:=(w.1.fdiv (PM.ML w.1 w.2.1 w.2.2 w.1),w.2.1.fdiv (PM.ML w.1 w.2.1 w.2.2 w.1),w.2.2.fdiv (PM.ML w.1 w.2.1 w.2.2 w.1))
def bX(g p c:Tr):Tr:=Rz (My g p c)
def xq{w:Tr}(h:w.1≠0):Pr (Rz w):=⟨PM.oH h (PM.gn _ _ _) λz=>h z.1,PM.xx λz=>h z.1⟩
def JM{w:Tr}(hq:Pr q)(h1:w.1*q.2.1=q.1*w.2.1)(h2:w.1*q.2.2=q.1*w.2.2):∃m,w.1=m*q.1/\w.2.1=m*q.2.1/\w.2.2=m*q.2.2:=by
 obtain⟨m,hm⟩:q.1∣w.1:=je (d:=q.1) (k:=w.1) (x:=q.1) (y:=q.2.1) (z:=q.2.2) (VO _ _) (by rw[h1];exact Int.dvd_mul_right _ _) (by rw[h2];exact Int.dvd_mul_right _ _) hq.low;have p:=hq.pos;refine⟨m,by rw[hm,M4],?_,?_⟩
 ·rw[hm,U3]at h1;exact(Int.eq_of_mul_eq_mul_left (by lia) h1).symm
 ·rw[hm,U3]at h2;exact(Int.eq_of_mul_eq_mul_left (by lia) h2).symm
def xU{p c:Tr}(hp:0<p.1)(hc:0<c.1)(lt:Lv g p*Lv g c<0):(Lv g p<0/\0<Lv g c/\0<(My g p c).1)∨(0<Lv g p/\Lv g c<0/\(My g p c).1<0):=by
 rcases Int.lt_or_gt_of_ne (show Lv g p≠0 from λe=>by rw[e,QW]at lt;exact R6 _ lt)with a|a
 ·left
  have b:0<Lv g c:=O7.mp λb=>O7.mpr lt (WR (MT a) b)
  refine⟨a,b,?_⟩;show 0<Lv g c*p.1 - Lv g p*c.1;have:=O2 b hp;have:=RI a hc
  lia
 ·right
  have b:Lv g c<0:=O7.mp λb=>O7.mpr lt (M3 (MT a) b)
  refine⟨a,b,?_⟩;show Lv g c*p.1 - Lv g p*c.1<0;have:=RI b hp;have:=O2 a hc
  lia
def kP(g:Tr):SN g (bX g):=λp c hp hc lt=>by
 have k:=xU hp hc lt;have e1:=PM.bR (l:=(My g p c).1) (PM.gn (My g p c).1 (My g p c).2.1 (My g p c).2.2);have e2:=PM.bR (l:=(My g p c).1) (PM.iS (My g p c).1 (My g p c).2.1 (My g p c).2.2);have e3:=PM.bR (l:=(My g p c).1) (PM.iT (My g p c).1 (My g p c).2.1 (My g p c).2.2);have NK:(My g p c).1≠0:=by rcases k with⟨_,_,q⟩| ⟨_,_,q⟩<;>lia
 have hg:PM.g3 (My g p c).1 (My g p c).2.1 (My g p c).2.2≠0:=λz=>NK (PM.sO.mp z).1
 have C:∃m s t,Vx (bX g p c) p c m s t/\s*Lv g p+t*Lv g c=0:=by
  rcases k with⟨a,b,q⟩| ⟨a,b,q⟩
  ·have hd:PM.ML (My g p c).1 (My g p c).2.1 (My g p c).2.2 (My g p c).1=(PM.g3 (My g p c).1 (My g p c).2.1 (My g p c).2.2:Int):=by
    unfold PM.ML;rw[Lw (by lia)]
   refine⟨PM.g3 (My g p c).1 (My g p c).2.1 (My g p c).2.2,Lv g c,-Lv g p,⟨by lia,b,by lia,?_,?_,?_⟩,by rw[O3,M4];lia⟩
   ·show _*((My g p c).1.fdiv _)=_;rw[<- hd,M4,e1,O3];rfl
   ·show _*((My g p c).2.1.fdiv _)=_;rw[<- hd,M4,e2,O3];rfl
   ·show _*((My g p c).2.2.fdiv _)=_;rw[<- hd,M4,e3,O3];rfl
  ·have hd:-PM.ML (My g p c).1 (My g p c).2.1 (My g p c).2.2 (My g p c).1=(PM.g3 (My g p c).1 (My g p c).2.1 (My g p c).2.2:Int):=by
    unfold PM.ML;rw[Lx (by lia),VU]
   refine⟨PM.g3 (My g p c).1 (My g p c).2.1 (My g p c).2.2,-Lv g c,Lv g p,⟨by lia,by lia,a,?_,?_,?_⟩,by rw[O3,M4];lia⟩
   ·show _*((My g p c).1.fdiv _)=_;rw[<- hd,O3,M4,e1,O3];show -(Lv g c*p.1 - Lv g p*c.1)=_
    lia
   ·show _*((My g p c).2.1.fdiv _)=_;rw[<- hd,O3,M4,e2,O3];show -(Lv g c*p.2.1 - Lv g p*c.2.1)=_
    lia
   ·show _*((My g p c).2.2.fdiv _)=_;rw[<- hd,O3,M4,e3,O3];show -(Lv g c*p.2.2 - Lv g p*c.2.2)=_
    lia
 obtain⟨m,s,t,C,z⟩:=C;refine⟨⟨m,s,t,C⟩,?_⟩;have:=C.gv g;rw[z]at this;exact(PT.mp this).resolve_left (by have:=C.m0;lia)
def Bw{p c:Tr}(hp:0<p.1)(hc:0<c.1)(lt:Lv g p*Lv g c<0):Pr (bX g p c):=xq (by rcases xU hp hc lt with⟨_,_,q⟩| ⟨_,_,q⟩<;>omega)
def BI{e:Tr}(he:e≠(0,0,0))(ep:Lv e p=0)(gp:Lv g p≠0):LR e g≠(0,0,0):=λz=>he (by
 unfold LR at z;simp only[Rc]at z;obtain⟨z1,z2,z3⟩:=z;have h1:e.1*Lv g p=0:=by unfold Lv at *;grind
 have h2:e.2.1*Lv g p=0:=by unfold Lv at *;grind
 have h3:e.2.2*Lv g p=0:=by unfold Lv at *;grind
 have a1:=(PT.mp h1).resolve_right gp;have a2:=(PT.mp h2).resolve_right gp;have a3:=(PT.mp h3).resolve_right gp;obtain⟨x,y,t⟩:=e
 simp_all)
def CN(hq:Pr q)(e1:Lv e q=0)(e2:Lv g q=0)(hw:LR e g≠(0,0,0)):∃m,m≠0/\(LR e g).1=m*q.1/\(LR e g).2.1=m*q.2.1/\(LR e g).2.2=m*q.2.2:=by obtain⟨m,h1,h2,h3⟩:=JM (w:=LR e g) hq (by unfold Lv at *;unfold LR;grind) (by unfold Lv at *;unfold LR;grind);refine⟨m,λz=>hw ?_,h1,h2,h3⟩;rw[z,QW]at h1 h2 h3;exact N2 h1 (N2 h2 h3)
def nF(hq:Pr q)(e1:Lv e q=0)(e2:Lv g q=0)(hw:LR e g≠(0,0,0)):q=Rz (LR e g):=by
 obtain⟨m,m0,h1,h2,h3⟩:=CN hq e1 e2 hw;have w0:(LR e g).1≠0:=by rw[h1];exact U0 m0 (by have:=hq.pos;lia)
 have hp:=xq w0;have r1:=PM.bR (l:=(LR e g).1) (PM.gn (LR e g).1 (LR e g).2.1 (LR e g).2.2);have r2:=PM.bR (l:=(LR e g).1) (PM.iS (LR e g).1 (LR e g).2.1 (LR e g).2.2);have r3:=PM.bR (l:=(LR e g).1) (PM.iT (LR e g).1 (LR e g).2.1 (LR e g).2.2);have dn:PM.ML (LR e g).1 (LR e g).2.1 (LR e g).2.2 (LR e g).1≠0:=PM.cX λz=>w0 z.1
 apply jD hq hp;have r1':(Rz (LR e g)).1*PM.ML (LR e g).1 (LR e g).2.1 (LR e g).2.2 (LR e g).1=m*q.1:=by rw[<- h1];exact r1
 have r2':(Rz (LR e g)).2.1*PM.ML (LR e g).1 (LR e g).2.1 (LR e g).2.2 (LR e g).1=m*q.2.1:=by rw[<- h2];exact r2
 have r3':(Rz (LR e g)).2.2*PM.ML (LR e g).1 (LR e g).2.1 (LR e g).2.2 (LR e g).1=m*q.2.2:=by rw[<- h3];exact r3
 generalize PM.ML (LR e g).1 (LR e g).2.1 (LR e g).2.2 (LR e g).1=d at *;generalize Rz (LR e g)=p at *;unfold LR;have k:∀a b a' b':Int,a*d=m*a'->b*d=m*b'->a'*b - b'*a=0:=λa b a' b' h h'=>by
  have:m*d*(a'*b - b'*a)=0:=by grind
  exact(PT.mp this).resolve_left (U0 m0 dn)
 rw[k _ _ _ _ r2' r3',k _ _ _ _ r3' r1',k _ _ _ _ r1' r2']
def cD(g:Tr)(l:yau):yau:=match l.getLast? with
 |none=>[]
 |some z=>Pk [] (aH g (bX g) z l)
structure Sm(n:Nat)(e:Tr):Prop where
 ne:e≠(0,0,0)
 c:Bd (2*n+2) e.1
 a:Bd (n+1) e.2.1
 b:Bd (n+1) e.2.2
structure CB(n:Nat)(p:Tr):Prop where
 b:Bd (2*n+3) p.1
 x:Bd (3*n+4) p.2.1
 y:Bd (3*n+4) p.2.2
structure WI(n:Nat)(Gs Z l:yau):Prop where
 Ol:Pe l
 pr:∀p∈l,Pr p
 cb:∀p∈l,CB n p
 cyc:Xw (Sh (·∈Gs)) l
 mem:∀p∈l,p∈Z
 len:l.length<=Z.length
def Ka{k:Nat}(ha:Bd n a)(hb:Bd m b)(hc:Bd m c)(hd:Bd n d)(hk:n+m+1=k):Bd k (a*b - c*d):=by subst hk;have h1:=ha.mul hb;have h2:=hc.mul hd;rw[Nat.add_comm m n]at h2;exact h1.sub h2
def kS{m q w:Int}(hm:m≠0)(e:w=m*q)(h:Bd n w):Bd n q:=by
 unfold Bd at *;rw[e,Int.natAbs_mul]at h;have:q.natAbs<=m.natAbs*q.natAbs:=Nat.le_mul_of_pos_left _ (by lia)
 lia
theorem mL:∀(l:yau) (p:Tr) {y:Tr},y∈aH g (bX g) p l->y∈l∨∃ a b,a∈p::l/\b∈l/\List.Sublist [a,b] (p::l)/\Lv g a*Lv g b<0/\y=bX g a b/\∀R:Tr->Tr->Prop,PJ R (p::l)->R a b
 |[],_,_,h=>by cases h
 |c::r,p,y,h=>by
  unfold aH at h;rcases MC.mp h with q|q
  ·split at q
   ·rename_i lt;exact .inr ⟨p,c,by simp,by simp,List.Sublist.cons_cons p (List.Sublist.cons_cons c (List.nil_sublist _)),lt,NI.mp q,λR hR=>hR.1⟩
   ·cases q
  ·rcases MC.mp q with q|q
   ·split at q
    ·rw[NI.mp q];exact .inl (by simp)
    ·cases q
   ·rcases mL r c q with q|⟨a,b,h1,h2,h3,h4,h5,h6⟩
    ·exact .inl (MO _ q)
    ·exact .inr ⟨a,b,MO _ h1,MO _ h2,h3.cons p,h4,h5,λR hR=>h6 R hR.2⟩
theorem qN:∀(l seen:yau),(Pk seen l).Nodup/\∀x∈Pk seen l,x∉seen
 |[],_=>⟨List.nodup_nil,λ_ h=>(by cases h)⟩
 |x::r,seen=>by
  unfold Pk;split
  ·exact qN r seen
  ·rename_i q;obtain⟨a,b⟩:=qN r (seen++[x]);refine⟨SY.mpr ⟨λh=>b x h (by simp),a⟩,λy hy=>?_⟩;rcases L9.mp hy with rfl|hy
   ·exact q
   ·exact λz=>b y hy (Qj _ z)
def pS{l:yau}{z:Tr}(h:l.getLast?=some z):l=l.dropLast++[z]:=by
 have hn:l ≠ []:=λe=>by rw[e]at h;cases h
 rw[Xz hn]at h;have:=(WS hn).symm;rw[ON h]at this;exact this
theorem pY:∀{l Z:yau},l.Nodup->(∀x∈l,x∈Z)->l.length<=Z.length
 |[],_,_,_=>OE _
 |x::r,Z,h,hm=>by
  obtain⟨a,b⟩:=SY.mp h;obtain⟨A,C,rfl⟩:=WW (hm x (by simp));have:=pY (l:=r) (Z:=A++C) b λy hy=>by
   have:=hm y (MO _ hy);simp only[MC,L9]at this ⊢;rcases this with q|q|q
   ·exact .inl q
   ·rw[q]at hy;exact absurd hy a
   ·exact .inr q
  simp at this ⊢
  lia
def wg{Gs Z:yau}{g:Tr}(hG:∀e∈Gs,Sm n e)(hg:g∈Gs)(hZ:∀e∈Gs,Rz (LR e g)∈Z)(C:WI n Gs Z l):WI n Gs Z (cD g l):=by
 unfold cD;cases hl:l.getLast? with
 |none=>exact⟨λ_ _ _ s=>(by cases s),λ_ h=>(by cases h),λ_ h=>(by cases h),λk z e=>(by simp at e),λ_ h=>(by cases h),OE _⟩
 |some z =>
  have hz:=pS hl;have pos:∀x∈l,0<x.1:=λx hx=>(C.pr x hx).pos
  have zl:z∈l:=by rw[hz];simp
  have pos':∀x∈z::l,0<x.1:=λx hx=>by
   rcases L9.mp hx with rfl|hx
   ·exact pos x zl
   ·exact pos x hx
  have B:=kP g;have tri0:Pe (z::l):=by have:=uC (l:=l.dropLast) (a:=z) (by rw[<- hz];exact C.Ol);rw[<- hz]at this;exact this
  have Zs:Pe (aH g (bX g) z l):=jB.t (xT B l z pos' tri0.p).2;have cy:=E9 B (G:=(·∈Gs)) hg hz pos C.cyc;have UK:∀y∈aH g (bX g) z l,Pr y/\CB n y/\y∈Z:=λy hy=>by
   rcases mL l z hy with q|⟨a,b,ha,hb,_,lt,rfl,hR⟩
   ·exact⟨C.pr y q,C.cb y q,C.mem y q⟩
   ·have pa:=pos' a ha;have pb:=pos b hb;have pq:=Bw pa pb lt;obtain⟨e,he,ea,eb⟩:=hR _ (C.cyc _ z hz);obtain⟨⟨m,s,t,K⟩,gq⟩:=B a b pa pb lt;have eq:=K.zero ea eb;have hw:=BI (hG e he).ne ea (show Lv g a≠0 from λz=>by rw[z,QW]at lt;exact R6 _ lt);refine⟨pq,?_,?_⟩
    ·obtain⟨m,m0,h1,h2,h3⟩:=CN pq eq gq hw;have E:=hG e he;have H:=hG g hg;exact⟨kS m0 h1 (Ka (k:=2*n+3) E.a H.b E.b H.a (by lia)),kS m0 h2 (Bd.mono ((E.b.mul H.c).sub (Nat.add_comm _ _ ▸ E.c.mul H.b)) (by lia)),kS m0 h3 (Bd.mono ((E.c.mul H.a).sub (Nat.add_comm _ _ ▸ E.a.mul H.c)) (by lia))⟩
    ·rw[nF pq eq gq hw];exact hZ e he
  have sub:=kQ (aH g (bX g) z l) [];exact⟨Zs.sub sub,λp hp=>(UK p (sub.subset hp)).1,λp hp=>(UK p (sub.subset hp)).2.1,BQ _ _ (Mw _) Zs (λp hp=>(UK p hp).1) cy,λp hp=>(UK p (sub.subset hp)).2.2,pY (qN _ _).1 λp hp=>(UK p (sub.subset hp)).2.2⟩
def qI(Ol:Pe l)(pr:∀p∈l,Pr p):(∀X,QF l X->0<=Lv g X->QF (cD g l) X)/\(∀y∈cD g l,0<=Lv g y)/\∀d,(∀p∈l,0<=Lv d p)->∀y∈cD g l,0<=Lv d y:=by
 unfold cD;cases hl:l.getLast? with
 |none =>
  have e:=ZM.mp hl;subst e;exact⟨λX h _=>h,λ_ h=>(by cases h),λ_ _ _ h=>by cases h⟩
 |some z =>
  have hz:=pS hl;have pos:∀x∈l,0<x.1:=λx hx=>(pr x hx).pos
  have zl:z∈l:=by rw[hz];simp
  have pos':∀x∈z::l,0<x.1:=λx hx=>by
   rcases L9.mp hx with rfl|hx
   ·exact pos x zl
   ·exact pos x hx
  have B:=kP g;have sub:=kQ (aH g (bX g) z l) [];refine⟨λX hX gX h hh=>Fb B hz Ol pos hX gX h λp hp=>?_,λy hy=>nY B l z pos' y (sub.subset hy),λd hd y hy=>mK B l z pos' (λx hx=>?_) y (sub.subset hy)⟩
  ·exact hh p ((sG _ [] hp).resolve_left (by simp))
  ·rcases L9.mp hx with rfl|hx
   ·exact hd x zl
   ·exact hd x hx
def bB(gs l:yau):yau:=gs.foldl (λl g=>cD g l) l
def Cg(h:QF l X)(hX:0<X.1):l ≠ []:=λe=>by
 subst e;have:=h (-1,0,0) (λ_ q=>by cases q);unfold Lv at this;dsimp only at this
 lia
def sT(p:Sp):Tr:=(1,p.1,p.2)
def IL(a b c:Sp):L7 (sT a) (sT b) (sT c)=cr a b c:=by rw[bI];unfold L7 sT Lv LR;grind
def vC{A B:Int}{x y z:Sp}(hy:0<A*y.1+B*y.2)(hx:0<=A*x.1+B*x.2)(hz:0<=A*z.1+B*z.2)(h1:0<=tn x y)(h2:0<=tn y z):0<=tn x z:=by
 have e:(A*y.1+B*y.2)*tn x z=(A*z.1+B*z.2)*tn x y+(A*x.1+B*x.2)*tn y z:=by unfold tn;grind
 have a1:=M3 hz h1;have a2:=M3 hx h2;exact Sq (a:=A*y.1+B*y.2) (by rw[e];omega) hy
def sb(a b:Sp):Sp:=(a.1 - b.1,a.2 - b.2)
def gf(a b c:Sp):cr a b c=tn (sb b a) (sb c a):=by rw[bI];unfold tn sb;grind
def fD(A B:Int)(a b:Sp):A*(sb a b).1+B*(sb a b).2=fA A B a - fA A B b:=by unfold sb fA;grind
def oP(L:Way A B ps n l){i j k:Nat}(NO:i<j)(SO:j<k)(hk:k<n):0<=cr (l i) (l j) (l k):=by
 have e1:=L.Nt j (by lia) (l i) (L.mem i (by lia));have e2:=L.Nt j (by lia) (l k) (L.mem k hk);have r1:=L.rise i j NO (by lia);have r2:=L.rise j (j+1) (by lia) (by lia);have r3:=L.rise j k SO hk;have:=vC (A:=A) (B:=B) (x:=sb (l j) (l i)) (y:=sb (l (j+1)) (l j)) (z:=sb (l k) (l j)) (by rw[fD];lia) (by rw[fD];lia) (by rw[fD];lia) (by
  rw[bI]at e1;unfold tn sb;dsimp only;have:(l j).1*1=(l j).1:=by lia
  grind) (by rw[<- gf];exact e2)
 rw[gf];have e:tn (sb (l j) (l i)) (sb (l k) (l i))=tn (sb (l j) (l i)) (sb (l k) (l j)):=by unfold tn sb;grind
 rw[e];exact this
def zT{m:Nat}(L:Way A B ps n l)(U:Way (-A) (-B) ps (m+2) u)(e0:u (m+1)=l 0){i j k:Nat}(NO:i<j)(hj:j<n)(hk:k<m+2):0<=cr (l i) (l j) (u k):=by
 have up:=U.mem k hk;have rij:=L.rise i j NO hj;by_cases c1:fA A B (u k)<=fA A B (l i)
 ·have e1:=L.Nt i (by lia) (u k) up;have e2:=L.Nt i (by lia) (l j) (L.mem j hj);have r:=L.rise i (i+1) (by lia) (by lia);have:=vC (A:=A) (B:=B) (x:=sb (l i) (u k)) (y:=sb (l (i+1)) (l i)) (z:=sb (l j) (l i)) (by rw[fD];lia) (by rw[fD];lia) (by rw[fD];lia) (by
   rw[gf]at e1;have:tn (sb (l i) (u k)) (sb (l (i+1)) (l i))=tn (sb (l (i+1)) (l i)) (sb (u k) (l i)):=by unfold tn sb;grind
   rw[this];exact e1) (by rw[<- gf];exact e2)
  rw[gf];have e:tn (sb (l j) (l i)) (sb (u k) (l i))=tn (sb (l i) (u k)) (sb (l j) (l i)):=by unfold tn sb;grind
  rw[e];exact this
 ·by_cases c2:fA A B (l j)<=fA A B (u k)
  ·obtain⟨j',rfl⟩:∃j',j=j'+1:=⟨j - 1,by lia⟩;have e1:=L.Nt j' hj (u k) up;have e2:=L.Nt j' hj (l i) (L.mem i (by lia));have r:=L.rise j' (j'+1) (by lia) hj;have:=vC (A:=A) (B:=B) (x:=sb (l (j'+1)) (l i)) (y:=sb (l (j'+1)) (l j')) (z:=sb (u k) (l (j'+1))) (by rw[fD];lia) (by rw[fD];lia) (by rw[fD];lia) (by
    rw[gf]at e2;have:tn (sb (l (j'+1)) (l i)) (sb (l (j'+1)) (l j'))=tn (sb (l (j'+1)) (l j')) (sb (l i) (l j')):=by unfold tn sb;grind
    rw[this];exact e2) (by
    rw[gf]at e1;have:tn (sb (l (j'+1)) (l j')) (sb (u k) (l (j'+1)))=tn (sb (l (j'+1)) (l j')) (sb (u k) (l j')):=by unfold tn sb;grind
    rw[this];exact e1)
   rw[gf];have e:tn (sb (l (j'+1)) (l i)) (sb (u k) (l i))=tn (sb (l (j'+1)) (l i)) (sb (u k) (l (j'+1))):=by unfold tn sb;grind
   rw[e];exact this
  ·have km:k<m+1:=by
    rcases XR (XS hk)with q|q
    ·exact q
    ·exfalso;rw[q,e0]at c1;exact c1 (L.lo _ (L.mem i (by lia)))
   have e1:=U.Nt k (by lia) (l i) (L.mem i (by lia));have e2:=U.Nt k (by lia) (l j) (L.mem j hj);have r:=U.rise k (k+1) (by lia) (by lia);rw[b8,b8]at r;have:=vC (A:=A) (B:=B) (x:=sb (l j) (u k)) (y:=sb (u k) (u (k+1))) (z:=sb (u k) (l i)) (by rw[fD];lia) (by rw[fD];lia) (by rw[fD];lia) (by
    rw[gf]at e2;have:tn (sb (l j) (u k)) (sb (u k) (u (k+1)))=tn (sb (u (k+1)) (u k)) (sb (l j) (u k)):=by unfold tn sb;grind
    rw[this];exact e2) (by
    rw[gf]at e1;have:tn (sb (u k) (u (k+1))) (sb (u k) (l i))=tn (sb (u (k+1)) (u k)) (sb (l i) (u k)):=by unfold tn sb;grind
    rw[this];exact e1)
   rw[gf];have e:tn (sb (l j) (l i)) (sb (u k) (l i))=tn (sb (l j) (u k)) (sb (u k) (l i)):=by unfold tn sb;grind
   rw[e];exact this
def Ig(a b c:Sp):cr a b c=cr b c a:=by rw[bI,bI];grind
def EO{n m:Nat}{h:Nat->Sp}(L:Way A B ps (n+2) l)(U:Way (-A) (-B) ps (m+2) u)(eM:l (n+1)=u 0)(e0:u (m+1)=l 0)
  (hl:∀k,k<n+2->h k=l k) (hu:∀j,j<m+1->h (n+1+j)=u j) {i j k:Nat} (NO:i<j) (SO:j<k) (hk:k<n+m+2):0<=cr (h i) (h j) (h k):=by
 have U2:Way A B ps (n+2) l:=L;have L':Way (-(-A)) (-(-B)) ps (n+2) l:=by rw[VU,VU];exact L
 have SF:∀k,n+1<=k->k<n+m+2->h k=u (k - (n+1)):=λk h1 h2=>by
  have:=hu (k - (n+1)) (by lia);rw[<- this];congr 1
  lia
 by_cases ci:i<n+2
 ·by_cases cj:j<n+2
  ·by_cases ck:k<n+2
   ·rw[hl i ci,hl j cj,hl k ck];exact oP L NO SO ck
   ·rw[hl i ci,hl j cj,SF k (by lia) hk];exact zT L U e0 NO cj (by lia)
  ·rw[hl i ci,SF j (by lia) (by lia),SF k (by lia) hk,Ig];exact zT U L' eM (by lia) (by lia) ci
 ·rw[SF i (by lia) (by lia),SF j (by lia) (by lia),SF k (by lia) hk];exact oP U (by lia) (by lia) (by lia)
theorem zR:∀{l:yau},(∀i j k (NO:i<j) (SO:j<k) (hk:k<l.length),0<=L7 (l[i]'(by lia)) (l[j]'(by lia)) (l[k]'hk))->jB l
 |[],_=>True.intro
 |p::r,h=>⟨RJ.mpr λi j hi hj q=>h 0 (i+1) (j+1) (by lia) (by lia) (by simp;lia),zR λi j k NO SO hk=>h (i+1) (j+1) (k+1) (by lia) (by lia) (by simp;lia)⟩
def pQ(h:cF ys ps):Pe ((aS ys).map sT)/\(1<(aS ys).length->∀k,k<(aS ys).length->cK (aS ys) k≠(aS ys).getD k (0,0)):=by
 have yl:=l5 h;obtain⟨o,hm⟩:=h;unfold aS;by_cases c:ys.length<2
 ·rw[Lx c];refine⟨λx y z s=>?_,λq=>absurd q (by lia)⟩;have:=s.length_le;simp at this
  lia
 rw[Lw c];obtain⟨A,n,m,ll,lu,inj,nl,hn,hm,L,U,eM,e0,gu,gl,hl⟩:=pR o hm c;generalize aC ys=l at *;generalize aC ys.reverse=u at *;have memD:∀{w:yat} {x:Sp},x∈w.dropLast->x∈w:=fun {w x} hx=>(ZQ w).subset hx
 have gm:∀{w:yat} {i:Nat} (hi:i<w.length),w.getD i (0,0)=w[i]:=fun {w i} hi=>by rw[OZ,MZ hi];rfl
 constructor
 rotate_left
 ·intro _ k hk e;rw[hl]at hk;unfold cK at e;rw[hl]at e;have gu':∀k,n+1<=k->k<n+m+2->(l.dropLast++u.dropLast).getD k (0,0)=u.getD (k - (n+1)) (0,0):=λk h1 h2=>by
   have:=gu (k - (n+1)) (by lia);rw[<- this];congr 1
   lia
  cases k with
  |zero =>
   have e1:(0+(n+m+2) - 1) % (n+m+2)=n+m+1:=by rw[Pf (by lia)];lia
   rw[e1,gu' _ (by lia) (by lia),gl 0 (by lia),<- e0]at e;have:=U.rise (n+m+1 - (n+1)) (m+1) (by lia) (by lia);rw[e]at this;exact R6 _ this
  |succ k =>
   have e1:(k+1+(n+m+2) - 1) % (n+m+2)=k:=by
    have:k+1+(n+m+2) - 1=k+(n+m+2):=by lia
    rw[this,VN,Pf (by lia)]
   rw[e1]at e;by_cases q:k+1<n+2
   ·rw[gl k (by lia),gl (k+1) q]at e;have:=L.rise k (k+1) (by lia) q;rw[e]at this;exact R6 _ this
   ·rw[gu' k (by lia) (by lia),gu' (k+1) (by lia) hk]at e;have:=U.rise (k - (n+1)) (k+1 - (n+1)) (by lia) (by lia);rw[e]at this;exact R6 _ this
 apply jB.t;apply zR;intro i j k NO SO hk;rw[LJ,hl]at hk;have R:=EO L U eM e0 gl gu NO SO hk;rw[gm (by rw[hl];lia),gm (by rw[hl];lia),gm (by rw[hl];lia)]at R;rw[Rl,Rl,Rl,IL];exact R
def FD(p:Sp):Pr (sT p):=⟨by show(0:Int)<1;decide,by show PM.g3 1 p.1 p.2=1;unfold PM.g3;rw[Int.one_gcd];exact Int.one_gcd⟩
def kY(g:zW hs ps)(hn:ps ≠ []):hs ≠ []:=by obtain⟨a,r,e,_⟩:=g.Vw hn;rw[e];simp
def lN(a b:Sp):Lv (bS a b) (sT a)=0/\Lv (bS a b) (sT b)=0:=by constructor<;>(unfold Lv bS sT;grind)
def oo(a w:Sp):Lv (aW a w) (sT a)=0:=by unfold Lv aW sT;grind
theorem we{R:Tr->Tr->Prop}:∀{l:yau},(∀i (h:i+1<l.length),R (l[i]'(by lia)) l[i+1])->PJ R l
 |[],_=>True.intro
 |[_],_=>True.intro
 |a::b::r,h=>⟨h 0 (by simp),we λi hi=>h (i+1) (by simp at hi ⊢;lia)⟩
def Ea{hs:yat}{Gs:yau}(hn:hs ≠ [])(hG:∀b∈br hs,b∈Gs):Xw (Sh (·∈Gs)) (hs.map sT):=λk z ek=>by
 by_cases c:hs.length<3
 ·have eb:br hs=bJ (hs.getD 0 (0,0)) (hs.getD (hs.length - 1) (0,0)):=by unfold br;rw[Lx c]
  have am:∃e∈Gs,∀p∈hs,Lv e (sT p)=0:=by
   refine⟨aW (hs.getD 0 (0,0)) (ME (cn (hs.getD 0 (0,0)) (hs.getD (hs.length - 1) (0,0)))),hG _ (by rw[eb];unfold bJ;simp),λp hp=>?_⟩;rcases hs with _|⟨a,_|⟨b,_|⟨d,r⟩⟩⟩
   ·exact absurd rfl hn
   ·rw[NI.mp hp];exact oo _ _
   ·simp only[L9,QV,or_false]at hp;rcases hp with rfl|rfl
    ·exact oo _ _
    ·show Lv (aW a (ME (cn a p))) (sT p)=0;unfold cn;split
     ·rename_i e;rw[<- e];exact oo _ _
     ·unfold Lv aW sT ME;grind
   ·simp at c;lia
  obtain⟨e,he,hp⟩:=am;have all:∀x∈hs.map sT,Lv e x=0:=λx hx=>by obtain⟨p,pm,rfl⟩:=Ms.mp hx;exact hp p pm
  have zm:z∈hs.map sT:=by rw[ek];simp
  have Zt:∀x∈z::hs.map sT,Lv e x=0:=λx hx=>by
   rcases L9.mp hx with rfl|hx
   ·exact all x zm
   ·exact all x hx
  exact we λi hi=>⟨e,he,Zt _ (Qw _),Zt _ (Qw _)⟩
 ·have eb:br hs=(List.range' 0 hs.length).map λk=>bS (cK hs k) (hs.getD k (0,0)):=by unfold br;rw[Lw c]
  have gm:∀{i:Nat} (hi:i<hs.length),hs.getD i (0,0)=hs[i]:=fun {i} hi=>by rw[OZ,MZ hi];rfl
  have on:∀i (hi:i<hs.length),Sh (·∈Gs) (sT (cK hs i)) (sT hs[i]):=λi hi=>by obtain⟨o1,o2⟩:=lN (cK hs i) (hs.getD i (0,0));refine⟨_,hG (bS (cK hs i) (hs.getD i (0,0))) (by rw[eb];exact Ms.mpr ⟨i,by simp[hi],rfl⟩),o1,?_⟩;rw[<- gm hi];exact o2
  have ez:z=sT (cK hs 0):=by
   have e1:(hs.map sT).getLast?=some z:=by rw[ek];simp
   rw[List.getLast?_map,zDS]at e1;unfold cK;have:(0+hs.length - 1) % hs.length=hs.length - 1:=by rw[QX];exact Pf (by lia)
   rw[this,gm (by lia)];rw[MZ (by lia)]at e1;exact(ON e1).symm
  refine we λi hi=>?_
  cases i with
  |zero =>
   show Sh _ z ((hs.map sT)[0]'_);rw[ez,Rl];exact on 0 (by lia)
  |succ i =>
   show Sh _ ((hs.map sT)[i]'_) ((hs.map sT)[i+1]'_);rw[Rl,Rl];simp at hi;have:=on (i+1) (by lia);unfold cK at this;have e:(i+1+hs.length - 1) % hs.length=i:=by
    have:i+1+hs.length - 1=i+hs.length:=by lia
    rw[this,VN];exact Pf (by lia)
   rw[e,gm (by lia)]at this;exact this
def DB(ha:WB n a)(hb:WB n b):WB (n+1) (cn a b)/\cn a b≠(0,0):=by
 unfold cn;split
 ·exact⟨⟨by unfold Bd;have:=XM (n:=2) (by decide) (show 1<=n+1 by lia);lia,by unfold Bd;exact Nat.pow_pos (by decide)⟩,by simp⟩
 ·rename_i ne;refine⟨⟨?_,?_⟩,λz=>ne ?_⟩
  ·show Bd _ (1*b.1 - 1*a.1);rw[RM,RM];exact hb.x.sub ha.x
  ·show Bd _ (1*b.2 - 1*a.2);rw[RM,RM];exact hb.y.sub ha.y
  ·simp only[Rc]at z;exact N2 (by lia) (by lia)
def om(ha:WB n a)(hw:WB (n+1) w)(h0:w≠(0,0)):Sm n (aW a w):=by
 unfold aW;refine⟨λz=>h0 ?_,?_,?_,?_⟩
 ·simp only[Rc]at z;exact N2 (by lia) (by lia)
 ·exact Bd.mono (Bd.neg ((hw.x.mul ha.x).add (hw.y.mul ha.y))) (by lia)
 ·show Bd _ (w.1*1);rw[Int.mul_one];exact hw.x
 ·show Bd _ (w.2*1);rw[Int.mul_one];exact hw.y
def EJ{hs:yat}(hn:hs ≠ [])(k:Nat):cK hs k∈hs:=by unfold cK;have:(k+hs.length - 1) % hs.length<hs.length:=P9 _ (List.length_pos_iff.mpr hn);rw[OZ,MZ this];exact Qw _
def getD_mem{hs:yat}{k:Nat}(h:k<hs.length):hs.getD k (0,0)∈hs:=by rw[OZ,MZ h];exact Qw _
def Bu{hs:yat}(hn:hs ≠ [])(nd:1<hs.length->∀k,k<hs.length->cK hs k≠hs.getD k (0,0))(hb:∀p∈hs,WB n p):∀b∈br hs,Sm n b:=λb Xx=>by
 unfold br at Xx;split at Xx
 ·rename_i c;have l0:0<hs.length:=List.length_pos_iff.mpr hn;have wa:=hb _ (getD_mem (hs:=hs) (k:=0) l0);have wb:=hb _ (getD_mem (hs:=hs) (k:=hs.length - 1) (by lia));obtain⟨w1,w2⟩:=DB wa wb;generalize hs.getD 0 (0,0)=a at *;generalize hs.getD (hs.length - 1) (0,0)=d at *;unfold bJ at Xx;simp only[L9,QV,or_false]at Xx;generalize cn a d=w at *;have bk:WB (n+1) (MB w)/\MB w≠(0,0):=⟨⟨w1.x.neg,w1.y.neg⟩,λz=>w2 (by
   unfold MB at z;simp only[Rc]at z;exact N2 (by lia) (by lia))⟩
  have lf:WB (n+1) (ME w)/\ME w≠(0,0):=⟨⟨w1.y.neg,w1.x⟩,λz=>w2 (by unfold ME at z;simp only[Rc]at z;exact N2 (by lia) (by lia))⟩
  have bl:WB (n+1) (MB (ME w))/\MB (ME w)≠(0,0):=⟨⟨lf.1.x.neg,lf.1.y.neg⟩,λz=>lf.2 (by generalize ME w=v at *;unfold MB at z;simp only[Rc]at z;exact N2 (by lia) (by lia))⟩
  rcases Xx with rfl|rfl|rfl|rfl
  ·exact om wa w1 w2
  ·exact om wb bk.1 bk.2
  ·exact om wa lf.1 lf.2
  ·exact om wa bl.1 bl.2
 ·rename_i c;obtain⟨k,hk,rfl⟩:=Ms.mp Xx;have SM:k<hs.length:=by simp at hk;exact hk
  have ne:=nd (by lia) k SM;have wa:=hb _ (EJ hn k);have wb:=hb _ (getD_mem SM);generalize cK hs k=a at *;generalize hs.getD k (0,0)=d at *;unfold bS;refine⟨λz=>ne ?_,?_,?_,?_⟩
  ·simp only[Rc]at z;exact N2 (by lia) (by lia)
  ·exact Bd.mono ((wa.x.mul wb.y).sub (wb.x.mul wa.y)) (by lia)
  ·show Bd _ (a.2*1 - d.2*1);rw[Int.mul_one,Int.mul_one];exact wa.y.sub wb.y
  ·show Bd _ (1*d.1 - 1*a.1);rw[RM,RM];exact wb.x.sub wa.x
def D9{Gs Z:yau}(h:cF ys ps)(hn:ps ≠ [])(hb:∀p∈ps,WB n p)(hG:∀b∈br (aS ys),b∈Gs)(hZ:∀p∈aS ys,sT p∈Z)(hL:(aS ys).length<=Z.length):WI n Gs Z ((aS ys).map sT):=by
 have g:=nr h;have w:∀p∈aS ys,WB n p:=λp hp=>hb p (g.mem p hp)
 refine⟨(pQ h).1,λp hp=>?_,λp hp=>?_,Ea (kY g hn) hG,λp hp=>?_,by rw[LJ];exact hL⟩
 ·obtain⟨q,_,rfl⟩:=Ms.mp hp;exact FD q
 ·obtain⟨q,qm,rfl⟩:=Ms.mp hp;refine⟨?_,(w q qm).x.mono (by lia),(w q qm).y.mono (by lia)⟩;show Bd _ 1;unfold Bd;exact OM (show 1<2 ^ 1 by decide) (XM (by decide) (by lia))
 ·obtain⟨q,qm,rfl⟩:=Ms.mp hp;exact hZ q qm
def Dr(g:Tr)(qf:Tr->Tr->Tr)(z:Tr)(l:yau)(c:Tr):aH g qf z (l++[c])=aH g qf z l++((if Lv g (l.getLastD z)*Lv g c<0 then[qf (l.getLastD z) c]else[])++(if 0<=Lv g c then[c]else[])):=by
 rcases List.eq_nil_or_concat l with rfl|⟨k,p,rfl⟩
 ·simp only[PR,aH,QM,List.getLastD_nil];rfl
 ·rw[List.concat_eq_append,Pn];show aH g qf z (k++p::[c])=_;rw[iu];congr 1;simp only[aH,QM];rw[List.getLastD_concat]
theorem qt(g:Tr)(qf:Tr->Tr->Tr):∀(l:yau) (z:Tr),(aH g qf z l).length<=2*l.length
 |[],_=>Mw _
 |c::r,z=>by unfold aH;have:=qt g qf r c;rw[Nz,Nz,Qx];split<;>split<;>simp<;>lia
theorem m7:∀(l s s':yau),(∀x,x∈s↔x∈s')->Pk s l=Pk s' l
 |[],_,_,_=>rfl
 |x::r,s,s',h=>by
  unfold Pk;by_cases q:x∈s
  ·rw[Lx q,Lx ((h x).mp q)];exact m7 r s s' h
  ·rw[Lw q,Lw λz=>q ((h x).mpr z)];congr 1;exact m7 r _ _ λy=>by simp[h y]
theorem wC(z:Tr):∀(l pre:yau),((List.range' pre.length l.length).filter λk=>!((pre++l).take k).any λy=>decide (y=(pre++l).getD k z)).map (λk=>(pre++l).getD k z)=Pk pre l
 |[],pre=>rfl
 |x::r,pre=>by
  have ih:=wC z r (pre++[x]);have e:pre++[x]++r=pre++x::r:=by simp
  rw[e]at ih;have hx:(pre++x::r).getD pre.length z=x:=by simp[OZ]
  have ht:(pre++x::r).take pre.length=pre:=by simp
  rw[Qx,List.range'_succ,List.filter_cons,hx,ht];have ha:(pre.any λy=>decide (y=x))=decide (x∈pre):=by rw[Uh];simp
  rw[ha];have hl:(pre++[x]).length=pre.length+1:=by simp
  rw[hl]at ih;unfold Pk;by_cases q:x∈pre
  ·rw[Lx q,Lw (by simp[q]),ih];exact m7 r _ _ λy=>by simp only[MC,NI];exact⟨λh=>h.elim id λe=>e ▸ q,.inl⟩
  ·rw[Lw q,Lx (by simp[q]),MR,hx,ih]
def JT(a b:Int):(sg a*sg b<0)↔a*b<0:=by
 unfold sg;rcases UY a 0 with ha|ha|ha
 ·rw[Lw (by lia),Lx ha];rcases UY b 0 with hb|hb|hb
  ·rw[Lw (by lia),Lx hb];have:=Ua ha hb;constructor<;>intro<;>lia
  ·subst hb;simp
  ·rw[Lx hb];have:=RI ha hb;constructor<;>intro<;>lia
 ·subst ha;simp
 ·rw[Lx ha];rcases UY b 0 with hb|hb|hb
  ·rw[Lw (by lia),Lx hb];have:=QK ha hb;constructor<;>intro<;>lia
  ·subst hb;simp
  ·rw[Lx hb];have:=O2 ha hb;constructor<;>intro<;>lia
def JU(a:Int):(0<=sg a)↔0<=a:=by
 unfold sg;split
 ·constructor<;>intro<;>lia
 ·split<;>(constructor<;>intro<;>lia)
def B5(p q:Tr):eqD (LL p) (LL q)=decide (p=q):=by unfold LL;rw[B4];obtain⟨a,b,c⟩:=p;obtain⟨d,e,f⟩:=q;rw[Uh];simp
def k8(p:Tr):Pj 1 (LL p):=Pj.tup (.cons (.int _ _) (.cons (.int _ _) (.cons (.int _ _) (.nil _))))
def plk(a b c d:Sp):tn a b*tn c d=tn a c*tn b d - tn a d*tn b c:=by unfold tn;grind
theorem lS(t:Sp):∀V:yat,(∃v∈V,0<tn t v)->∃v∈V,0<tn t v/\∀w∈V,0<tn t w->0<=tn v w
 |[],h=>by obtain⟨v,hv,_⟩:=h;cases hv
 |x::V,h=>by
  by_cases hV:∃v∈V,0<tn t v
  ·obtain⟨v,vm,hv,hw⟩:=lS t V hV;by_cases hx:0<tn t x/\tn v x<0
   ·refine⟨x,O0,hx.1,λw Zu ht=>?_⟩;rcases L9.mp Zu with e|wm
    ·rw[e,lH];exact Np _
    ·have k:=plk t v x w;have a1:=M3 (MT hx.1) (hw w wm ht);have a2:=O2 ht (show 0 < - tn v x by lia);rw[Int.mul_neg]at a2;exact Sq (by rw[k];lia) hv
   ·refine⟨v,MO _ vm,hv,λw Zu ht=>?_⟩;rcases L9.mp Zu with e|wm
    ·subst e;exact QZ.mp λz=>hx ⟨ht,z⟩
    ·exact hw w wm ht
  ·obtain⟨v,vm,hv⟩:=h;rcases L9.mp vm with e|vm
   ·subst e;refine⟨v,O0,hv,λw Zu ht=>?_⟩;rcases L9.mp Zu with e|wm
    ·rw[e,lH];exact Np _
    ·exact absurd ⟨w,wm,ht⟩ hV
   ·exact absurd ⟨v,vm,hv⟩ hV
theorem A8{α:Type}(f:α->Int):∀V:List α,∃M:Int,0<M/\∀v∈V,f v<=M
 |[]=>⟨1,by decide,λv hv=>by cases hv⟩
 |x::V=>by
  obtain⟨M,h0,hM⟩:=A8 f V;refine⟨M+(f x).toNat,by lia,λv hv=>?_⟩;rcases L9.mp hv with e|vm
  ·subst e;lia
  ·have:=hM v vm;lia
def sq_pos{t:Sp}(ht:t≠(0,0)):0<LB t t:=by
 obtain⟨a,b⟩:=t;show 0<a*a+b*b;have h1:0<=a*a:=by rcases Int.le_total 0 a with h|h;exact M3 h h;exact WR h h
 have h2:0<=b*b:=by rcases Int.le_total 0 b with h|h;exact M3 h h;exact WR h h
 by_cases ha:a=0
 ·have hb:b≠0:=λe=>ht (by rw[ha,e])
  have:=U0 hb hb;omega
 ·have:=U0 ha ha;omega
def IW{t:Sp}(ht:t≠(0,0))(V:yat)(hV:∀d:Sp,(∀v∈V,0<=LB v d)->0<=LB t d):(∃v∈V,tn t v=0/\0<LB t v)∨∃ v∈V,∃w∈V,tn t v<0/\0<tn t w/\0<tn v w:=by
 refine XC λno=>?_
 have n1:∀v∈V,tn t v=0->LB t v<=0:=λv hv h=>QZ.mp λz=>no (.inl ⟨v,hv,h,z⟩)
 have sq:=sq_pos ht;by_cases L:∃v∈V,0<tn t v
 ·obtain⟨w,wm,hw,ext⟩:=lS t V L;have a:=hV (-w.2,w.1) λv hv=>by
   have e:LB v (-w.2,w.1)=tn w v:=by unfold LB tn;grind
   rw[e];rcases UY (tn t v) 0 with c|c|c
   ·refine QZ.mp λz=>no (.inr ⟨v,hv,w,wm,c,hw,?_⟩)
    rw[cg];lia
   ·have k:LB t t*tn w v=LB t v*tn w t+tn t v*LB w t:=by unfold LB tn;grind
    rw[c,QW,O1]at k;have q:=WR (n1 v hv c) (show tn w t<=0 by rw[cg];lia);rw[<- k]at q;exact Sq q sq
   ·exact ext v hv c
  have e:LB t (-w.2,w.1)=tn w t:=by unfold LB tn;grind
  rw[e,cg]at a
  lia
 ·obtain⟨M,M0,hM⟩:=A8 (λv=>LB v t) V;have a:=hV (M*t.2 - t.1,- (M*t.1) - t.2) λv hv=>by
   have e:LB v (M*t.2 - t.1,- (M*t.1) - t.2)=M*(- tn t v) - LB v t:=by unfold LB tn;grind
   rw[e];have h:=QZ.mp λz=>L ⟨v,hv,z⟩
   by_cases c:tn t v=0
   ·have:=n1 v hv c;rw[wJ]at this;rw[c];lia
   ·have b:M*1<=M*(- tn t v):=zC6 (by lia) (MT M0);have:=hM v hv
    lia
  have e:LB t (M*t.2 - t.1,- (M*t.1) - t.2)=- LB t t:=by unfold LB;grind
  lia
def vc(g:Tr):Sp:=(g.2.1,g.2.2)
def Ki(g:Tr)(N d1 d2:Int)(p:Tr):Lv g (N*p.1,N*p.2.1+d1,N*p.2.2+d2)=N*Lv g p+LB (vc g) (d1,d2):=by unfold Lv LB vc;grind
def HW{gs C:yau}(hC:C ≠ [])(pos:∀p∈C,0<p.1)(hg:∀p∈C,Lv g p<0)(ov:∀h∈gs,∀p∈C,0<=Lv h p)
  (sp:∀X:Tr,0<X.1->(∀h∈gs,0<=Lv h X)->QF C X) (gv:vc g≠(0,0)) :
  ∃ p:Tr,0<p.1/\Lv g p<0/\((∃h∈gs,Lv h p=0/\KO (vc h) (vc g))∨∃ h∈gs,∃k∈gs,Lv h p=0/\Lv k p=0/\KP (vc h) (vc k) (vc g)):=by
 obtain⟨c0,hc0⟩:=List.exists_mem_of_ne_nil C hC;have h0:∀p:Tr,Lv (-1,0,0) p=- p.1:=λp=>by unfold Lv;grind
 obtain⟨p,pm,gp,_,best⟩:=pV g (-1,0,0) C ⟨c0,hc0,hg c0 hc0,by rw[h0];have:=pos c0 hc0;lia⟩;have pp:=pos p pm;refine⟨p,pp,gp,?_⟩;have ht:(- g.2.1,- g.2.2)≠((0,0):Sp):=λe=>gv (by have e1:=congrArg Prod.fst e;have e2:=congrArg Prod.snd e;dsimp only at e1 e2;unfold vc;rw[show g.2.1=0 by lia,show g.2.2=0 by lia])
 have key:=IW ht ((gs.filter λh=>decide (Lv h p=0)).map vc) λd hd=>by
  obtain⟨N,N0,hN⟩:=A8 (λh=>- LB (vc h) d) gs;have hX:∀h∈gs,0<=Lv h (N*p.1,N*p.2.1+d.1,N*p.2.2+d.2):=λh hm=>by
   rw[Ki];by_cases c:Lv h p=0
   ·rw[c,Pg,Xc];exact hd _ (Ms.mpr ⟨h,Rb.mpr ⟨hm,NL c⟩,rfl⟩)
   ·have b:N*1<=N*Lv h p:=zC6 (by have:=ov h hm p pm;lia) (MT N0);have:=hN h hm;show 0<=N*Lv h p+LB (vc h) d
    lia
  have I:=sp _ (O2 N0 pp) hX (Lv g p - p.1*g.1,- (p.1*g.2.1),- (p.1*g.2.2)) λy hy=>by
   have b:=best y hy (hg y hy);rw[h0,h0]at b;have e:Lv (Lv g p - p.1*g.1,- (p.1*g.2.1),- (p.1*g.2.2)) y=Lv g p*y.1 - p.1*Lv g y:=by unfold Lv;grind
   rw[e];rw[Int.mul_neg,O3]at b
   lia
  have e:Lv (Lv g p - p.1*g.1,- (p.1*g.2.1),- (p.1*g.2.2)) (N*p.1,N*p.2.1+d.1,N*p.2.2+d.2)=p.1*LB (- g.2.1,- g.2.2) d:=by unfold Lv LB;grind
  rw[e]at I;exact Sq I pp
 have mem:∀v∈(gs.filter λh=>decide (Lv h p=0)).map vc,∃h∈gs,Lv h p=0/\vc h=v:=λv hv=>by obtain⟨h,hm,e⟩:=Ms.mp hv;obtain⟨a,b⟩:=Rb.mp hm;exact⟨h,a,OP b,e⟩
 have t1:∀v:Sp,tn (- g.2.1,- g.2.2) v=- tn (vc g) v:=λv=>by unfold tn vc;grind
 have t2:∀v:Sp,LB (- g.2.1,- g.2.2) v=- LB (vc g) v:=λv=>by unfold LB vc;grind
 rcases key with⟨v,vm,a,b⟩| ⟨v,vm,w,wm,a,b,c⟩
 ·obtain⟨h,hm,hp,rfl⟩:=mem v vm;rw[t1]at a;rw[t2]at b;exact .inl ⟨h,hm,hp,by rw[cg];lia,by rw[wJ];lia⟩
 ·obtain⟨h,hm,hp,rfl⟩:=mem v vm;obtain⟨k,km,kp,rfl⟩:=mem w wm;rw[t1]at a b;refine .inr ⟨h,hm,k,km,hp,kp,.inl ⟨?_,?_,c⟩⟩
  ·rw[cg];exact b
  ·lia
theorem wk{Gs Z:yau}(hG:∀e∈Gs,Sm n e)(hZ:∀e∈Gs,∀g∈Gs,Rz (LR e g)∈Z):∀(gs l:yau),(∀g∈gs,g∈Gs)->WI n Gs Z l →
  WI n Gs Z (bB gs l)/\(∀X,QF l X->(∀g∈gs,0<=Lv g X)->QF (bB gs l) X)/\(∀g∈gs,∀y∈bB gs l,0<=Lv g y)/\∀d,(∀p∈l,0<=Lv d p)->∀y∈bB gs l,0<=Lv d y
 |[],l,_,C=>⟨C,λ_ I _=>I,λ_ h=>(by cases h),λ_ h=>h⟩
 |g::gs,l,h,C=>by
  obtain⟨f1,f2,f3⟩:=qI (g:=g) C.Ol C.pr;obtain⟨a,b,c,d⟩:=wk hG hZ gs (cD g l) (λx hx=>h x (MO _ hx)) (wg hG (h g (by simp)) (λe he=>hZ e he g (h g (by simp))) C);refine⟨a,λX I hX=>b X (f1 X I (hX g (by simp))) λx hx=>hX x (MO _ hx),λx hx y hy=>?_,λe he=>d e (f3 e he)⟩;rcases L9.mp hx with rfl|hx
  ·exact d x f2 y hy
  ·exact c x hx y hy
def Bv{hs:yat}(hn:hs ≠ []){b:Tr}(hb:b∈br hs):∃p:Sp,Lv b (sT p)=0:=by
 unfold br at hb;split at hb
 ·unfold bJ at hb;simp only[L9,QV,or_false]at hb;rcases hb with e|e|e|e<;>(rw[e];exact⟨_,oo _ _⟩)
 ·obtain⟨k,_,e⟩:=Ms.mp hb;rw[<- e];exact⟨_,(lN _ _).1⟩
def KJ(h:Sm n b)(e:Lv b (sT p)=0):vc b≠(0,0):=λz=>h.ne (by have z1:b.2.1=0:=congrArg Prod.fst z;have z2:b.2.2=0:=congrArg Prod.snd z;unfold Lv sT at e;rw[z1,z2]at e;obtain⟨b0,b1,b2⟩:=b;dsimp only at e z1 z2;rw[z1,z2,show b0=0 by lia])
theorem yX:∀gs:yau,bB gs []=[]
 |[]=>rfl
 |g::gs=>yX gs
def yV(a b l:yau):bB (a++b) l=bB b (bB a l):=List.foldl_append
def DN{G:yau}{j:Nat}(h:bB (G.take i) F=[])(NO:i<=j):bB (G.take j) F=[]:=by
 have e:G.take j=G.take i++(G.drop i).take (j - i):=by rw[<- List.take_add,Nat.add_sub_cancel' NO]
 rw[e,yV,h,yX]
theorem wo{G F:yau}(hF:F ≠ []):∀n,bB (G.take n) F=[]->∃last,last<n/\(∀j,j<=last->bB (G.take j) F ≠ [])/\bB (G.take (last+1)) F=[]
 |0,h=>absurd h hF
 |n+1,h=>by
  by_cases c:bB (G.take n) F=[]
  ·obtain⟨k,hk,a,b⟩:=wo hF n c;exact⟨k,by lia,a,b⟩
  ·exact⟨n,by lia,λj hj z=>c (DN z hj),h⟩
def DL{G:yau}{k:Nat}{g:Tr}(h:G[k]?=some g):bB (G.take (k+1)) F=cD g (bB (G.take k) F):=by rw[List.take_add_one,h,yV];rfl
abbrev Dt:=Int×Int×Int×Int
def LS(p:Dt):D:=.tup [.int p.1,.int p.2.1,.int p.2.2.1,.int p.2.2.2]
def zd(h:LS p=LS q):p=q:=by unfold LS at h;simp only[D.tup.injEq,PQ,D.int.injEq,and_true]at h;obtain⟨h1,h2,h3,h4⟩:=h;exact N2 h1 (N2 h2 (N2 h3 h4))
theorem map_inj{α:Type}{f:α->D}(hf:∀{p q},f p=f q->p=q):∀{ps qs:List α},ps.map f=qs.map f->ps=qs
 |[],[],_=>rfl
 |[],_::_,h=>by simp at h
 |_::_,[],h=>by simp at h
 |p::ps,q::qs,h=>by simp only[MR,PQ]at h;rw[hf h.1,map_inj hf h.2]
def Gd{ps qs:List Dt}(h:ps.map LS=qs.map LS):ps=qs:=map_inj zd h
def uD(p:Dt):aX (LS p)=LS p:=by unfold LS;simp only[eQ,cP,dO,cN]
def yP(ps:List Dt):bq (ps.map LS)=ps.map LS:=dN LS uD ps
structure GD(p:Dt):Prop where
 x:Bd 60 p.1
 y:Bd 60 p.2.1
 c0:0<=p.2.2.1
 c2:p.2.2.1<=2
def qw(col:D)(cs:Int->Bool):Prop:=(col=.Mj/\cs=λ_=>true)∨∃ k:Int,col=.int k/\cs=λc=>decide (c=k)
def qw.unt(h:qw col cs):aX col=col:=by
 rcases h with⟨rfl,_⟩| ⟨k,rfl,_⟩
 ·exact uE
 ·exact cN _
noncomputable def gv(g0 g1 g2:Int)(p:Dt):Int:=g0+g1*p.1+g2*p.2.1
def w3(g0 g1 g2 s:Int)(ps:List Dt):Int:=(ps.map λp=>if sg (gv g0 g1 g2 p)=s then p.2.2.2 else 0).sum
def wt(cs:Int->Bool)(g0 g1 g2 s:Int)(ps:List Dt):Int:=w3 g0 g1 g2 s (ps.filter λp=>cs p.2.2.1)
noncomputable def RV(cs:Int->Bool)(ps:List Dt):Int:=((ps.filter λp=>cs p.2.2.1).map λp=>p.2.2.2).sum
def HG(g0 g1 g2 s:Int)(ps:List Dt)(p:Dt):w3 g0 g1 g2 s (ps++[p])=w3 g0 g1 g2 s ps+if sg (gv g0 g1 g2 p)=s then p.2.2.2 else 0:=by unfold w3;rw[OQ,List.sum_append];simp
def WG(n:Int):sg n=-1∨sg n=0∨sg n=1:=by
 unfold sg;split
 ·exact .inr (.inr rfl)
 ·split
  ·exact .inl rfl
  ·exact .inr (.inl rfl)
def wy{α:Type}(xs:List α)(lo hi:yaq):List α:=(xs.drop (HT.Oj xs.length 0 lo)).take (HT.Oj xs.length xs.length hi - HT.Oj xs.length 0 lo)
def DR{α:Type}(f:α->D)(xs:List α)(lo hi:yaq):PD.cutD (xs.map f) lo hi=(wy xs lo hi).map f:=by unfold PD.cutD wy;rw[LJ,List.map_take,List.map_drop]
theorem Ku(a b c x:D):putD (κ:=Key) [(.inl (-1),a),(.inl 0,b),(.inl 1,c)] (.inl (-1)) x=[(.inl (-1),x),(.inl 0,b),(.inl 1,c)]:=rfl
theorem Kv(a b c x:D):putD (κ:=Key) [(.inl (-1),a),(.inl 0,b),(.inl 1,c)] (.inl 0) x=[(.inl (-1),a),(.inl 0,x),(.inl 1,c)]:=rfl
theorem Kw(a b c x:D):putD (κ:=Key) [(.inl (-1),a),(.inl 0,b),(.inl 1,c)] (.inl 1) x=[(.inl (-1),a),(.inl 0,b),(.inl 1,x)]:=rfl
def p30:((10:Int) ^ (30:Int).toNat)=1000000000000000000000000000000:=by decide
def Ai:vD 10 30:=⟨by decide,by decide,by decide⟩
def Bt{x y z:Int}(h:¬(x=0/\y=0/\z=0))(hx:Bd n x)(hy:Bd n y)(hz:Bd n z):Bd n (PM.ML x y z l):=by
 unfold Bd at *;rw[PM.sN];have d1:=UT.mpr (PM.gn x y z);have d2:=UT.mpr (PM.iS x y z);have d3:=UT.mpr (PM.iT x y z);simp only[Int.natAbs_natCast]at d1 d2 d3;by_cases h1:x=0
 ·by_cases h2:y=0
  ·have h3:z≠0:=λe=>h ⟨h1,h2,e⟩
   have:=U4 (by lia) d3
   lia
  ·have:=U4 (by lia) d2
   lia
 ·have:=U4 (by lia) d1
  lia
def fQ(ha:Bd 200 a)(hb:Bd 200 b)(hc:Bd 200 c)(hd:Bd 200 d):Bd 1000 (a*b - c*d):=((ha.mul hb).sub (hc.mul hd)).mono (by decide)
def wq(f:Dt->Bool):List Dt->Int
 |[]=>0
 |p::r=>(if f p=true then p.2.2.2 else 0)+wq f r
def Pos(qs:List Dt):Prop:=∀p∈qs,0<p.2.2.2
theorem qv{f g:Dt->Bool}:∀{qs:List Dt},(∀p∈qs,f p=g p)->wq f qs=wq g qs
 |[],_=>rfl
 |p::r,h=>by unfold wq;rw[h p O0,qv λq hq=>h q (MO _ hq)]
structure Or(lt:Dt->Dt->Bool):Prop where
 ir:∀p,lt p p=false
 tr:∀p q r,lt p q=true->lt q r=true->lt p r=true
 nt:∀p q r,lt p q=true->lt r q=false->lt p r=true
abbrev Vc:=Int×Int
def hh(d:Vc)(z:Dt):Int:=d.1*z.2.1 - d.2*z.1
def tq(p q z:Dt):Int:=(q.1 - p.1)*(z.2.1 - p.2.1) - (q.2.1 - p.2.1)*(z.1 - p.1)
def NB(p:Dt):Int×Int:=(p.1,p.2.1)
noncomputable def T9(n:Nat):List (Nat×Nat):=(List.range' 0 n).flatMap λi=>(List.range' (i+1) (n - (i+1))).map λk=>(i,k)
def QG(ij:Nat×Nat):D:=.tup [.int ij.1,.int ij.2]
def Hf(h:QG a=QG b):a=b:=by unfold QG at h;simp only[D.tup.injEq,PQ,D.int.injEq,and_true]at h;obtain⟨h1,h2⟩:=h;exact N2 (by lia) (by lia)
def E7(a:Nat×Nat):aX (QG a)=QG a:=by unfold QG;simp only[eQ,cP,dO,cN]
def Ek(n:Nat):Qr n 2=(T9 n).map λij=>[ij.1,ij.2]:=by
 have e1:Qr n 1=(List.range' 0 n).map λi=>[i]:=by simp[Qr,PY,gk]
 have e2:Qr n 2=(Qr n 1).flatMap (PY n):=rfl;rw[e2,e1,List.flatMap_map,T9,List.map_flatMap];congr 1
 funext i
 rw[OH];rfl
def zB{i j:Nat}:(i,j)∈T9 n↔i<j/\j<n:=by
 unfold T9;simp only[Ug,Ms,UZ,Rc];constructor
 ·rintro⟨a,ha,k,hk,rfl,rfl⟩;omega
 ·intro h;exact⟨i,by omega,j,by omega,rfl,rfl⟩
def gp(ps:List Dt)(i:Nat):Dt:=ps.getD i (0,0,0,0)
def qW{ps:List Dt}{i:Nat}(h:i<ps.length):ps[i]?=some (gp ps i):=by unfold gp;simp[h]
def kT{ps:List Dt}{i:Nat}(h:i<ps.length):gp ps i∈ps:=OL (qW h)
def vg{ps:List Dt}{i:Nat}(h:i<ps.length){Q:D->Prop}(q:Q (LS (gp ps i))):∃d,NY (ps.map LS) (i:Int)=some d/\Q d:=by refine⟨_,?_,q⟩;unfold NY ixN;rw[LJ,Lx (by lia),Lx (by lia)];simp[qW h]
def inc(a b:Int)(p:Dt):Bool:=decide (p.2.2.1=a) || decide (p.2.2.1=b)
def kp(p:Dt):List Key:=[.inl p.1,.inl p.2.1]
def IS(a b c d:Int):eqD (.tup [.int a,.int b]) (.tup [.int c,.int d])=decide (a=c/\b=d):=by rw[zf,nj,nj,wM,oh,oh];by_cases h:a=c<;>by_cases h':b=d<;>simp[h,h']
def CJ(a b:Int):Pj 1 (.tup [.int a,.int b]):=Pj.tup (.cons (.int _ _) (.cons (.int _ _) (.nil _)))
def Ju(p q:Dt):(!eqD (.tup [.int p.1,.int p.2.1]) (.tup [.int q.1,.int q.2.1]))=decide (NB p≠NB q):=by rw[IS];unfold NB;by_cases h:p.1=q.1<;>by_cases h':p.2.1=q.2.1<;>simp[h,h']
def hv(p:Dt):Dt:=(p.1,p.2.1,p.2.2.1,9*p.2.2.2)
def qf(f h:Dt->Int)(a b:Int)(ps:List Dt):Int:=wq (λz=>decide (sg (f z)=a) && decide (sg (h z)=b)) ps
def Vy(ps:List Dt):List (Nat×Nat):=(T9 ps.length).filter λij=>decide (NB (gp ps ij.1)≠NB (gp ps ij.2))
def k7{ij:Nat×Nat}:ij∈Vy ps↔ij.1<ij.2/\ij.2<ps.length/\NB (gp ps ij.1)≠NB (gp ps ij.2):=by
 unfold Vy;rw[Rb,decide_eq_true_eq];have:=zB (n:=ps.length) (i:=ij.1) (j:=ij.2);constructor
 ·rintro⟨a,b⟩;exact⟨(this.mp a).1,(this.mp a).2,b⟩
 ·rintro⟨a,b,c⟩;exact⟨this.mpr ⟨a,b⟩,c⟩
def D7(g1 g2 g3:DG)(a b c:D)(ρ:Ro)(Q:Ro->Prop):oz 3 (cY g1 (cY g2 (cY g3 ow))) (.tup [a,b,c]) ρ Q=g1 a ρ λPh=>g2 b Ph λNP=>g3 c NP Q:=by rw[As 3 _ _ rfl];simp only[gdc,gdn]
def ld(c1 c2:Int):Int:=if c1=0 then c2 else c1
def AS(x y z:Int):Tr:=(x.fdiv (PM.ML x y z (ld y z)),y.fdiv (PM.ML x y z (ld y z)),z.fdiv (PM.ML x y z (ld y z)))
def SQ(p q:Dt):Tr:=AS (p.1*q.2.1 - q.1*p.2.1) (p.2.1*1 - q.2.1*1) (1*q.1 - 1*p.1)
structure NF(g:Tr):Prop where
 sgn:0<g.2.1∨(g.2.1=0/\0<g.2.2)
 one:PM.g3 g.1 g.2.1 g.2.2=1
structure LF(g:Tr)(p q:Dt):Prop where
 b0:Bd 1000 g.1
 b1:Bd 1000 g.2.1
 b2:Bd 1000 g.2.2
 nf:NF g
 ex:∃m:Int,m≠0/\∀z,gv g.1 g.2.1 g.2.2 z*m=tq p q z
def Kg(g:Int):Int.fdiv 0 g=0:=by simp
def vj(hp:GD p)(hq:GD q)(ne:NB p≠NB q):LF (SQ p q) p q:=by
 have hz:¬(p.2.1*1 - q.2.1*1=0/\1*q.1 - 1*p.1=0):=λMP=>(by obtain⟨e1,e2⟩:=MP;exact ne (by unfold NB;rw[Rc];lia))
 have one:Bd 200 1:=Bd.mono (m:=2) (by unfold Bd;decide) (by decide);have B0:=fQ (hp.x.mono (show 60<=200 by decide)) (hq.y.mono (show 60<=200 by decide)) (hq.x.mono (show 60<=200 by decide)) (hp.y.mono (show 60<=200 by decide));have B1:=fQ (hp.y.mono (show 60<=200 by decide)) one (hq.y.mono (show 60<=200 by decide)) one;have B2:=fQ one (hq.x.mono (show 60<=200 by decide)) one (hp.x.mono (show 60<=200 by decide));have hex:∀z:Dt,(p.1*q.2.1 - q.1*p.2.1)+(p.2.1*1 - q.2.1*1)*z.1+(1*q.1 - 1*p.1)*z.2.1=tq p q z:=λz=>by unfold tq;grind
 unfold SQ AS;generalize p.1*q.2.1 - q.1*p.2.1=x at *;generalize p.2.1*1 - q.2.1*1=y at *;generalize 1*q.1 - 1*p.1=w at *;have Qp:¬(x=0/\y=0/\w=0):=λz=>hz z.2
 have dn:∀l,PM.ML x y w l≠0:=λl=>PM.cX Qp
 refine⟨dW (dn _) (PM.cW (PM.gn _ _ _)) B0,dW (dn _) (PM.cW (PM.iS _ _ _)) B1,dW (dn _) (PM.cW (PM.iT _ _ _)) B2,⟨?_,PM.xx Qp⟩,PM.ML x y w (ld y w),dn _,λz=>?_⟩
 ·by_cases hy:y=0
  ·have hzz:w≠0:=λe=>hz ⟨hy,e⟩
   right
   unfold ld;rw[Lx hy];exact⟨by show y.fdiv _=0;rw[hy];exact Kg _,PM.oH hzz (PM.iT _ _ _) Qp⟩
  ·left
   unfold ld;rw[Lw hy];exact PM.oH hy (PM.iS _ _ _) Qp
 ·have e1:=PM.bR (l:=ld y w) (PM.gn x y w);have e2:=PM.bR (l:=ld y w) (PM.iS x y w);have e3:=PM.bR (l:=ld y w) (PM.iT x y w);rw[<- hex z];unfold gv;dsimp only;rw[Int.add_mul,Int.add_mul,e1,Int.mul_right_comm,e2,Int.mul_right_comm,e3]
structure Mp where
 (a b c d e f:Int)
def sW(ps:List Dt):yau:=(Vy ps).map λij=>SQ (gp ps ij.1) (gp ps ij.2)
def wl(ps:List Dt)(g:Tr)(s:Int):Int:=wt (λ_=>true) g.1 g.2.1 g.2.2 s ps
def sS(p q:Tr):Prop:=p.1<q.1∨(p.1=q.1/\(p.2.1<q.2.1∨(p.2.1=q.2.1/\p.2.2<q.2.2)))
def cG(ys ls:yau):Prop:=ys.Pairwise sS/\∀g,g∈ys↔g∈ls
def cG.nd(h:cG ys ls):ys.Nodup:=h.1.imp fun {p q} r e=>by subst e;unfold sS at r;lia
def Sn(g:Tr):yaf:=[g.1,g.2.1,g.2.2]
def FK(ls:yau):(ls.map Sn).map PD.tupI=ls.map LL:=by rw[OH];rfl
def xB(ps:List Dt)(g:Tr):D:=.tup [LL g,.int (wl ps g (-1)),.int (wl ps g 0),.int (wl ps g 1)]
def GO(e:SW.lexLt (Sn g) (Sn h)=true):sS g h:=by
 unfold Sn SW.lexLt at e;unfold sS;split at e
 ·rename_i e1;unfold SW.lexLt at e;split at e
  ·rename_i e2;unfold SW.lexLt at e;split at e
   ·cases e
   ·exact .inr ⟨e1,.inr ⟨e2,by simpa using e⟩⟩
  ·exact .inr ⟨e1,.inl (by simpa using e)⟩
 ·exact .inl (by simpa using e)
def zQ(e:Sn g=Sn h):g=h:=by unfold Sn at e;simp only[PQ,and_true]at e;exact N2 e.1 (N2 e.2.1 e.2.2)
theorem CI:∀{zs:List (yaf)},(∀z∈zs,∃g:Tr,z=Sn g)->∃ys:yau,zs=ys.map Sn
 |[],_=>⟨[],rfl⟩
 |z::zs,h=>by
  obtain⟨g,e⟩:=h z O0;obtain⟨ys,e2⟩:=CI λz hz=>h z (MO _ hz)
  exact⟨g::ys,by rw[e,e2];rfl⟩
def C2{ls:yau}(h:PD.vM zs (ls.map Sn)):∃ys:yau,zs=ys.map Sn/\cG ys ls:=by
 obtain⟨h1,h2⟩:=h;obtain⟨ys,rfl⟩:=CI λz hz=>by obtain⟨p,_,e⟩:=Ms.mp ((h2 z).mp hz);exact⟨p,e.symm⟩
 refine⟨ys,rfl,(VJ.mp h1).imp fun {p q} e=>GO e,λg=>?_⟩;have:=h2 (Sn g);constructor
 ·intro hg;obtain⟨x,hx,e⟩:=Ms.mp (this.mp (Ms.mpr ⟨g,hg,rfl⟩));rw[<- zQ e];exact hx
 ·intro hg;obtain⟨x,hx,e⟩:=Ms.mp (this.mpr (Ms.mpr ⟨g,hg,rfl⟩));rw[<- zQ e];exact hx
def j7(h:cG ys ls):ys.length<=ls.length:=by have nd:=h.nd;exact pY nd λg hg=>(h.2 g).mp hg
def zv(ps:List Dt):(sW ps).length<=ps.length*ps.length:=by unfold sW Vy;rw[LJ];refine NM (ZR _ _) ?_;have e:=oD ps.length 2;rw[Ek,LJ]at e;rw[Nat.pow_two]at e;exact e
abbrev Wy:=Int×Int
def KH(a b:Wy):tn a (MB b)=- tn a b:=by unfold tn MB;grind
def jY(a b:Wy):tn (MB a) b=- tn a b:=by unfold tn MB;grind
def Df(a b c:Wy):tn (a.1+b.1,a.2+b.2) c=tn a c+tn b c:=by unfold tn;grind
def zO(w p n o:Wy):tn w n*tn p o=tn w p*tn n o+tn w o*tn p n:=by unfold tn;grind
def FJ{w:Wy}(h:w≠(0,0)):0<tn w (ME w):=by
 unfold tn ME;obtain⟨a,b⟩:=w;dsimp only;have e:a*a - -b*b=a*a+b*b:=by grind
 rw[e];have h1:=T8 a;have h2:=T8 b;by_cases ha:a=0
 ·by_cases hb:b=0
  ·subst ha hb;exact absurd rfl h
  ·have:b*b≠0:=U0 hb hb;omega
 ·have:a*a≠0:=U0 ha ha;omega
def jI(w n o:Wy):Wy:=if 0<tn w o/\0<tn o n then o else n
def TG(w:Wy)(ws:List Wy):Wy:=ws.foldl (jI w) (ME w)
theorem Fz:∀(ws done:List Wy) (n:Wy),0<tn w n->(∀o∈done,0<tn w o->tn o n<=0)->0<tn w (ws.foldl (jI w) n)/\∀o∈done++ws,0<tn w o->tn o (ws.foldl (jI w) n)<=0
 |[],done,n,h1,h2=>⟨h1,λo ho=>h2 o (by rw[QM]at ho;exact ho)⟩
 |o::ws,done,n,h1,h2=>by
  have key:0<tn w (jI w n o)/\∀p∈done++[o],0<tn w p->tn p (jI w n o)<=0:=by
   unfold jI;by_cases c:0<tn w o/\0<tn o n
   ·rw[Lx c];refine⟨c.1,λp hp hw=>?_⟩;rcases MC.mp hp with hp|hp
    ·have a1:=h2 p hp hw;have a2:=zO w p n o;have a3:tn n o<0:=by have:=cg n o;lia
     have a4:tn w p*tn n o<0:=QK hw a3;have a5:tn w o*tn p n<=0:=ZJ (MT c.1) a1;by_cases z:tn p o<=0
     ·exact z
     ·have:=O2 h1 (show 0<tn p o by lia)
      lia
    ·rw[NI]at hp;subst hp;rw[lH];exact Np _
   ·rw[Lw c];refine⟨h1,λp hp hw=>?_⟩;rcases MC.mp hp with hp|hp
    ·exact h2 p hp hw
    ·rw[NI]at hp;subst hp;by_cases z:tn p n<=0
     ·exact z
     ·exact absurd ⟨hw,by lia⟩ c
  have:=Fz ws (done++[o]) (jI w n o) key.1 key.2;rw[Pn]at this;exact this
def AA{w:Wy}(h:w≠(0,0)):0<tn w (TG w ws)/\∀o∈ws,0<tn w o->tn o (TG w ws)<=0:=by exact Fz ws [] (ME w) (FJ h) (by simp)
def QR(w:Wy)(ws:List Wy):Wy:=(w.1+(TG w ws).1,w.2+(TG w ws).2)
noncomputable def L5(h:Tr)(p:Dt):Wy:=(h.1*p.1 - h.2.1,h.1*p.2.1 - h.2.2)
def RW(h:Tr)(ps:List Dt):List Wy:=(ps.map (L5 h)).filter λw=>decide (w≠(0,0))
def M5(h:Tr)(ps:List Dt):List Wy:=RW h ps++(RW h ps).map MB
def se{w:Wy}(hw:w∈RW h ps):w≠(0,0):=by have:=(Rb.mp hw).2;exact OP this
def HZ{w:Wy}(h:w≠(0,0)):MB w≠(0,0):=λe=>h (by
 unfold MB at e;obtain⟨a,b⟩:=w;simp only[Rc]at e ⊢
 lia)
def eR{w:Wy}(hw:w∈M5 h ps):w≠(0,0):=by
 rcases MC.mp hw with z|z
 ·exact se z
 ·obtain⟨v,hv,rfl⟩:=Ms.mp z;exact HZ (se hv)
def HY(w:Wy):MB (MB w)=w:=by unfold MB;obtain⟨a,b⟩:=w;simp
def lJ{ps:List Dt}{p:Dt}(hp:p∈ps)(hw:L5 h p≠(0,0)):L5 h p∈M5 h ps/\MB (L5 h p)∈M5 h ps:=by have:L5 h p∈RW h ps:=Rb.mpr ⟨Ms.mpr ⟨p,hp,rfl⟩,NL hw⟩;exact⟨Qj _ this,Oq _ (Ms.mpr ⟨_,this,rfl⟩)⟩
def Gn{w:Wy}{p:Dt}(hw:w∈M5 h ps)(hp:p∈ps)(hf:0<=tn (QR w (M5 h ps)) (L5 h p)):0<=tn w (L5 h p):=by
 obtain⟨n1,n2⟩:=AA (ws:=M5 h ps) (eR hw);unfold QR at hf;rw[Df]at hf;by_cases z:0<=tn w (L5 h p)
 ·exact z
 ·exfalso;have ne:L5 h p≠(0,0):=λe=>by rw[e]at z;unfold tn at z;simp at z
  have b1:=(lJ hp ne).2;have b2:=n2 _ b1 (by rw[KH];lia);rw[jY]at b2;have:=cg (TG w (M5 h ps)) (L5 h p)
  lia
def Om(g:Tr)(ps:List Dt):Int:=(ps.map λp=>if 0<=gv g.1 g.2.1 g.2.2 p then p.2.2.2 else 0).sum
def RA(h:Tr)(f:Wy):Tr:=(-((ME f).1*h.2.1+(ME f).2*h.2.2),(ME f).1*h.1,(ME f).2*h.1)
def Fy(h:Tr)(f:Wy)(p:Dt):gv (RA h f).1 (RA h f).2.1 (RA h f).2.2 p=tn f (L5 h p):=by unfold gv RA ME tn L5;dsimp only;grind
def AR{ps:List Dt} [DecidablePred P] [DecidablePred Q]:(∀p∈ps,0<=p.2.2.2)->(∀p∈ps,P p->Q p)->(ps.map λp=>if P p then p.2.2.2 else 0).sum<=(ps.map λp=>if Q p then p.2.2.2 else 0).sum:=by
 induction ps with
 |nil=>intro _ _;simp
 |cons p ps ih =>
  intro h1 h2;rw[MR,MR,S1,S1];have i:=ih (λq hq=>h1 q (by simp[hq])) λq hq=>h2 q (by simp[hq])
  have a:=h1 p (by simp);have b:=h2 p (by simp);by_cases c:P p
  ·rw[Lx c,Lx (b c)];lia
  ·rw[Lw c];split<;>lia
def IsL(h:Tr)(ps:List Dt)(g:Tr):Prop:=(M5 h ps=[]/\g=(-(1*h.2.1+0*h.2.2),1*h.1,0*h.1)) ∨
 ∃ (i:Nat) (w:Wy),(M5 h ps)[i]?=some w/\g=RA h (QR w (M5 h ps))/\∀(j:Nat) (v:Wy),(M5 h ps)[j]?=some v->Om g ps<=Om (RA h (QR v (M5 h ps))) ps/\(j<i->Om g ps<Om (RA h (QR v (M5 h ps))) ps)
def IsL.on(a:IsL h ps g):g.1*h.1+g.2.1*h.2.1+g.2.2*h.2.2=0:=by
 rcases a with⟨_,rfl⟩| ⟨i,w,_,rfl,_⟩
 ·dsimp only;grind
 ·unfold RA;dsimp only;grind
def IsL.ne{h:Tr}(hh:0<h.1)(a:IsL h ps g):¬(g.2.1=0/\g.2.2=0):=by
 rcases a with⟨_,rfl⟩| ⟨i,w,a1,rfl,_⟩
 ·dsimp only
  lia
 ·intro ⟨z1,z2⟩;have hw:=OL a1;obtain⟨n1,_⟩:=AA (ws:=M5 h ps) (eR hw);unfold RA ME at z1 z2;dsimp only at z1 z2;have y1:(QR w (M5 h ps)).2=0:=by
   rcases PT.mp z1 with z|z
   ·lia
   ·lia
  have y2:(QR w (M5 h ps)).1=0:=by
   rcases PT.mp z2 with z|z
   ·exact z
   ·lia
  unfold QR at y1 y2;dsimp only at y1 y2;have e:tn w (TG w (M5 h ps))=tn w (w.1+(TG w (M5 h ps)).1,w.2+(TG w (M5 h ps)).2):=by unfold tn;grind
  rw[e,y1,y2]at n1;unfold tn at n1;simp at n1
def vS{ps:List Dt}{k:Int}{Q:D->Prop}(h0:0<=k)(h1:k<ps.length)(h:∀p∈ps,Q (LS p)):∃d,NY (ps.map LS) k=some d/\Q d:=Bs h0 (by simpa using h1) λd hd=>by obtain⟨x,hx,rfl⟩:=Ms.mp hd;exact h x hx
def p18:((10:Int) ^ (18:Int).toNat)=1000000000000000000:=by decide
def K4:vD 10 18:=⟨by decide,by decide,by decide⟩
structure HB(h:Tr):Prop where
 pos:0<h.1
 a:Bd 130 h.1
 b:Bd 130 h.2.1
 c:Bd 130 h.2.2
structure WBh(w:Wy):Prop where
 a:Bd 191 w.1
 b:Bd 191 w.2
def WJ(hx:Bd m x)(hy:Bd n y)(hm:m<=100000:=by decide)(hn:n<=100000:=by decide):CM x y:=.inr (.inr ⟨hx.mono hm,hy.mono hn⟩)
def WBh.ar(H:HB h)(G:GD p):WBh (L5 h p):=⟨(H.a.mul G.x).sub (H.b.mono (by decide)),(H.a.mul G.y).sub (H.c.mono (by decide))⟩
def Dg(w n a:Wy):tn n a*LB w w=tn n w*LB w a+LB n w*tn w a:=by unfold tn LB;grind
def iI{w:Wy}(hw:w≠(0,0))(h:tn w a=0):(0<LB w a->0<tn w n->tn n a<0)/\(LB w a<0->0<tn w n->0<tn n a)/\(0<LB w a->tn w n<0->0<tn n a)/\(LB w a<0->tn w n<0->tn n a<0):=by
 have e:=Dg w n a;rw[h,Pg,O1]at e;have p:=zc hw;have q:=cg n w;refine⟨λh1 h2=>?_,λh1 h2=>?_,λh1 h2=>?_,λh1 h2=>?_⟩
 ·have:=RI (show tn n w<0 by lia) h1;by_cases z:tn n a<0
  ·exact z
  ·have:=M3 (show 0<=tn n a by lia) (MT p);lia
 ·have:=Ua (show tn n w<0 by lia) h1;by_cases z:0<tn n a
  ·exact z
  ·have:=UP (show tn n a<=0 by lia) (MT p);lia
 ·have:=O2 (show 0<tn n w by lia) h1;by_cases z:0<tn n a
  ·exact z
  ·have:=UP (show tn n a<=0 by lia) (MT p);lia
 ·have:=QK (show 0<tn n w by lia) h1;by_cases z:tn n a<0
  ·exact z
  ·have:=M3 (show 0<=tn n a by lia) (MT p);lia
def xn{w a:Wy}(hw:w≠(0,0))(ha:a≠(0,0))(h:tn w a=0):LB w a≠0:=λz=>by
 have e:=Dg w (ME a) a;rw[h,z,Pg,Pg,O1]at e;have p:=zc hw;have q:=FJ ha;have r:=cg (ME a) a;rcases PT.mp e with y|y<;>lia
def aL(v a:Wy):Prop:=0<tn v a
def aR(v a:Wy):Prop:=tn v a<0
def aB(v a:Wy):Prop:=tn v a=0/\LB v a<0
def aA(v a:Wy):Prop:=tn v a=0/\¬LB v a<0/\a≠(0,0)
instance (v a:Wy):Decidable (aL v a):=inferInstanceAs (Decidable (0<tn v a))
instance (v a:Wy):Decidable (aR v a):=inferInstanceAs (Decidable (tn v a<0))
instance (v a:Wy):Decidable (aB v a):=inferInstanceAs (Decidable (tn v a=0/\LB v a<0))
instance (v a:Wy):Decidable (aA v a):=inferInstanceAs (Decidable (tn v a=0/\¬LB v a<0/\a≠(0,0)))
def B7{w:Wy}{p:Dt}(hw:w∈M5 h ps)(hp:p∈ps):0<=tn (QR w (M5 h ps)) (L5 h p)↔L5 h p=(0,0)∨aL w (L5 h p)∨aB w (L5 h p):=by
 obtain⟨n1,n2⟩:=AA (ws:=M5 h ps) (eR hw);have hl:=Gn hw hp;by_cases z:L5 h p=(0,0)
 ·rw[z];constructor
  ·intro _;exact .inl rfl
  ·intro _;unfold tn;simp
 ·have mem:=(lJ hp z).1;unfold QR at hl ⊢;rw[Df]at hl ⊢;have an:=cg (TG w (M5 h ps)) (L5 h p);constructor
  ·intro q;have q2:=hl q;by_cases y:0<tn w (L5 h p)
   ·exact .inr (.inl y)
   ·have y0:tn w (L5 h p)=0:=by lia
    have ps:=iI (n:=TG w (M5 h ps)) (eR hw) y0;have nz:=xn (eR hw) z y0;refine .inr (.inr ⟨y0,?_⟩);by_cases x:LB w (L5 h p)<0
    ·exact x
    ·have:=ps.1 (by lia) n1;lia
  ·rintro(y|y|⟨y1,y2⟩)
   ·exact absurd y z
   ·have y':0<tn w (L5 h p):=y;have:=n2 _ mem y'
    lia
   ·have:=(iI (n:=TG w (M5 h ps)) (eR hw) y1).2.1 y2 n1
    lia
def sm(P:Wy->Prop) [DecidablePred P] (h:Tr)(ps:List Dt):Int:=(ps.map λp=>if P (L5 h p)then p.2.2.2 else 0).sum
def vA [DecidablePred P] [DecidablePred Q] {ps:List Dt} (hp:∀p∈ps,0<=p.2.2.2) (hq:∀p∈ps,P (L5 h p)->Q (L5 h p)):sm P h ps<=sm Q h ps:=AR hp hq
def jS [DecidablePred P] [DecidablePred Q] {ps:List Dt} (hq:∀p∈ps,P (L5 h p)↔Q (L5 h p)):sm P h ps=sm Q h ps:=by
 unfold sm;congr 1;apply VF;intro p hp;by_cases c:P (L5 h p)
 ·rw[Lx c,Lx ((hq p hp).mp c)]
 ·rw[Lw c,Lw λz=>c ((hq p hp).mpr z)]
def vB [DecidablePred P] [DecidablePred Q] [DecidablePred R] {ps:List Dt} (e:∀p∈ps,R (L5 h p)↔P (L5 h p)∨Q (L5 h p)) (d:∀p∈ps,¬(P (L5 h p)/\Q (L5 h p))):sm R h ps=sm P h ps+sm Q h ps:=by
 induction ps with
 |nil=>rfl
 |cons p ps ih =>
  have:=ih (λq hq=>e q (by simp[hq])) λq hq=>d q (by simp[hq])
  unfold sm at this ⊢;rw[MR,MR,MR,S1,S1,S1,this];have e':=e p (by simp);have d':=d p (by simp);by_cases c1:P (L5 h p)
  ·have c2:¬Q (L5 h p):=λz=>d' ⟨c1,z⟩
   rw[Lx c1,Lw c2,Lx (e'.mpr (.inl c1))];lia
  ·by_cases c2:Q (L5 h p)
   ·rw[Lw c1,Lx c2,Lx (e'.mpr (.inr c2))];lia
   ·rw[Lw c1,Lw c2,Lw λz=>(e'.mp z).elim c1 c2];lia
def aZ(a:Wy):Prop:=a=(0,0)
instance (a:Wy):Decidable (aZ a):=inferInstanceAs (Decidable (a=(0,0)))
def u9(h:aL v a):a≠(0,0):=λz=>by subst z;unfold aL tn at h;simp at h
def qE(h:aB v a):a≠(0,0):=λz=>by subst z;have:=h.2;unfold LB at this;simp at this
def nq{w:Wy}(hw:w∈M5 h ps):Om (RA h (QR w (M5 h ps))) ps=sm aZ h ps+(sm (aL w) h ps+sm (aB w) h ps):=by
 have e1:Om (RA h (QR w (M5 h ps))) ps=sm (λa=>0<=tn (QR w (M5 h ps)) a) h ps:=by unfold Om sm;congr 1;apply VF;intro p _;rw[Fy]
 have e2:sm (λa=>aL w a∨aB w a) h ps=sm (aL w) h ps+sm (aB w) h ps:=vB (λ_ _=>Iff.rfl) λp _ ⟨z1,z2⟩=>by
  have:=z2.1;have:0<tn w (L5 h p):=z1
  lia
 rw[e1,<- e2];refine vB (λp hp=>B7 hw hp) λp _ LO=>?_
 obtain⟨z1,z2⟩:=LO;rcases z2 with z2|z2
 ·exact u9 z2 z1
 ·exact qE z2 z1
theorem rF(w:Wy):∀ws:List Wy,(∃o∈ws,tn w o<0)->∃n∈ws,tn w n<0/\∀o∈ws,tn w o<0->tn n o<=0
 |[],h=>by obtain⟨o,ho,_⟩:=h;simp at ho
 |o::ws,h=>by
  by_cases t:∃q∈ws,tn w q<0
  ·obtain⟨n,n1,n2,n3⟩:=rF w ws t;by_cases c:tn w o<0/\0<tn n o
   ·refine⟨o,by simp,c.1,λp hp hw=>?_⟩;rcases L9.mp hp with z|z
    ·subst z;rw[lH];exact Np _
    ·have a1:=n3 p z hw;have a2:=zO w o n p;have a3:tn o n<0:=by have:=cg o n;lia
     have a4:0<=tn w o*tn n p:=WR (by lia) a1;have a5:0<tn w p*tn o n:=Ua hw a3;by_cases y:tn o p<=0
     ·exact y
     ·have:=RI n2 (show 0<tn o p by lia)
      lia
   ·refine⟨n,by simp[n1],n2,λp hp hw=>?_⟩;rcases L9.mp hp with z|z
    ·subst z;by_cases y:tn n p<=0
     ·exact y
     ·exact absurd ⟨hw,by lia⟩ c
    ·exact n3 p z hw
  ·obtain⟨q,hq,hw⟩:=h;rcases L9.mp hq with z|z
   ·subst z;refine⟨q,by simp,hw,λp hp UG=>?_⟩;rcases L9.mp hp with y|y
    ·subst y;rw[lH];exact Np _
    ·exact absurd ⟨p,y,UG⟩ t
   ·exact absurd ⟨q,z,hw⟩ t
def va{w:Wy}(hw:w∈M5 h ps):MB w∈M5 h ps:=by
 rcases MC.mp hw with z|z
 ·exact Oq _ (Ms.mpr ⟨w,z,rfl⟩)
 ·obtain⟨v,hv,rfl⟩:=Ms.mp z;rw[HY];exact Qj _ hv
def qP(a b:Wy):LB (MB a) b=- LB a b:=by unfold LB MB;grind
def o5{ps:List Dt}{w:Wy}(hp:∀p∈ps,0<=p.2.2.2)(hw:w∈M5 h ps):∃v∈M5 h ps,Om (RA h (QR v (M5 h ps))) ps<=sm aZ h ps+(sm (aL w) h ps+sm (aA w) h ps):=by
 have wn:=eR hw;have eA:sm (λa=>aL w a∨aA w a) h ps=sm (aL w) h ps+sm (aA w) h ps:=vB (λ_ _=>Iff.rfl) λp _ ⟨z1,z2⟩=>by
  have:=z2.1;have:0<tn w (L5 h p):=z1
  lia
 by_cases t:∃o∈M5 h ps,tn w o<0
 ·obtain⟨n,n1,n2,n3⟩:=rF w _ t;refine⟨n,n1,?_⟩;have nn:=eR n1;rw[nq n1,<- eA];have e2:sm (λa=>aL n a∨aB n a) h ps=sm (aL n) h ps+sm (aB n) h ps:=vB (λ_ _=>Iff.rfl) λp _ ⟨z1,z2⟩=>by
   have:=z2.1;have:0<tn n (L5 h p):=z1
   lia
  rw[<- e2];refine Int.add_le_add_left (vA hp λp hm q=>?_) _;have anz:L5 h p≠(0,0):=q.elim u9 qE;have mem:=(lJ hm anz).1;by_cases c1:0<tn w (L5 h p)
  ·exact .inl c1
  ·by_cases c2:tn w (L5 h p)<0
   ·exfalso;have a1:=n3 _ mem c2;rcases q with q|⟨q1,q2⟩
    ·have:0<tn n (L5 h p):=q;lia
    ·-- Zv to n and against it,yet on the same side of w
     have:=(iI (n:=w) nn q1).2.2.2;have k:=cg n w;have:=(iI (n:=w) nn q1).2.1 q2 (by lia)
     lia
   ·have c0:tn w (L5 h p)=0:=by lia
    refine .inr ⟨c0,λz=>?_,anz⟩;have:=(iI (n:=n) wn c0).2.2.2 z n2;rcases q with q|⟨q1,_⟩
    ·have:0<tn n (L5 h p):=q;lia
    ·lia
 ·refine⟨MB w,va hw,?_⟩;rw[nq (va hw)];have z1:sm (aL (MB w)) h ps<=sm (aL w) h ps:=vA hp λp hm q=>by
   exfalso;have q':0<tn (MB w) (L5 h p):=q;rw[jY]at q';exact t ⟨_,(lJ hm (u9 q)).1,by lia⟩
  have z2:sm (aB (MB w)) h ps<=sm (aA w) h ps:=vA hp λp hm q=>by obtain⟨q1,q2⟩:=id q;rw[jY]at q1;rw[qP]at q2;exact⟨by lia,by lia,qE q⟩
  lia
def TH(h:Tr)(ps:List Dt)(v:Wy):Int:=min (sm (aA v) h ps) (sm (aB v) h ps)+min (sm (aL v) h ps) (sm (aR v) h ps)
def J6(h:aA v a):a≠(0,0):=h.2.2
def J9(h:aR v a):a≠(0,0):=λz=>by subst z;unfold aR tn at h;simp at h
def DH(v a:Wy):aL (MB v) a↔aR v a:=by unfold aL aR;rw[jY];lia
def Ia{v:Wy}(hv:v≠(0,0)):aB (MB v) a↔aA v a:=by
 constructor
 ·intro q;have nz:=qE q;obtain⟨q1,q2⟩:=q;rw[jY]at q1;rw[qP]at q2;exact⟨by lia,by lia,nz⟩
 ·rintro⟨q1,q2,q3⟩;have:=xn hv q3 q1;exact⟨by rw[jY];lia,by rw[qP];lia⟩
def K3{v:Wy}(hv:v≠(0,0))(q:aA (MB v) a):aB v a:=by
 obtain⟨q1,q2,q3⟩:=q;rw[jY]at q1;rw[qP]at q2;have e:tn v a=0:=by omega
 have:=xn hv q3 e;exact⟨e,by omega⟩
def IsL.le{ps:List Dt}(hp:∀p∈ps,0<=p.2.2.2)(a:IsL h ps g){v:Wy}(hv:v∈M5 h ps):Om g ps<=Om (RA h (QR v (M5 h ps))) ps:=by
 rcases a with⟨z,_⟩| ⟨i,w,a1,a2,a3⟩
 ·rw[z]at hv;simp at hv
 ·obtain⟨j,hj,ej⟩:=RL hv;exact(a3 j v (by rw[MZ hj,ej])).1
def IsL.lt_{ps:List Dt}(hp:∀p∈ps,0<=p.2.2.2)(a:IsL h ps g){v:Wy}(hv:v∈RW h ps):Om g ps<=sm aZ h ps+TH h ps v:=by
 have Zw:v∈M5 h ps:=Qj _ hv;have hv2:=va Zw;have vn:=eR Zw;have c1:=a.le hp Zw;rw[nq Zw]at c1;have c2:=a.le hp hv2;rw[nq hv2,jS (P:=aL (MB v)) (Q:=aR v) (λp _=>DH v _),jS (P:=aB (MB v)) (Q:=aA v) (λp _=>Ia vn)]at c2;obtain⟨u,hu,c3⟩:=o5 hp Zw;have c3':=Xb (a.le hp hu) c3;obtain⟨t,ht,c4⟩:=o5 hp hv2;have c4':=Xb (a.le hp ht) c4;rw[jS (P:=aL (MB v)) (Q:=aR v) (λp _=>DH v _)]at c4';have c5:sm (aA (MB v)) h ps<=sm (aB v) h ps:=vA hp λp _ q=>K3 vn q
 unfold TH
 lia
def IsL.eq_{ps:List Dt}(hp:∀p∈ps,0<=p.2.2.2)(a:IsL h ps g)(hn:RW h ps ≠ []):∃v∈RW h ps,Om g ps=sm aZ h ps+TH h ps v:=by
 have a':=a;rcases a with⟨z,_⟩| ⟨i,w,a1,a2,a3⟩
 ·exfalso;unfold M5 at z;exact hn (List.append_eq_nil_iff.mp z).1
 ·have hw:=OL a1;have e:=nq hw;rw[<- a2]at e;rcases MC.mp hw with z|z
  ·refine⟨w,z,?_⟩;have:=a'.lt_ hp z;unfold TH at this ⊢
   lia
  ·obtain⟨v,hv,rfl⟩:=Ms.mp z;refine⟨v,hv,?_⟩;have:=a'.lt_ hp hv;rw[jS (P:=aL (MB v)) (Q:=aR v) (λp _=>DH v _),jS (P:=aB (MB v)) (Q:=aA v) (λp _=>Ia (se hv))]at e;unfold TH at this ⊢
   lia
def IsL.none_(a:IsL h ps g)(hn:RW h ps=[]):Om g ps=sm aZ h ps:=by
 have z0:∀p∈ps,L5 h p=(0,0):=λp hp=>by
  by_cases z:L5 h p=(0,0)
  ·exact z
  ·have:L5 h p∈RW h ps:=Rb.mpr ⟨Ms.mpr ⟨p,hp,rfl⟩,NL z⟩;rw[hn]at this;simp at this
 rcases a with⟨_,rfl⟩| ⟨i,w,a1,_⟩
 ·unfold Om sm;congr 1;apply VF;intro p hp;have e:=z0 p hp;rw[Lx (show aZ (L5 h p)from e),Lx];unfold L5 at e;simp only[Rc]at e;unfold gv;dsimp only;have e1:1*h.1*p.1=h.1*p.1:=by grind
  have e2:0*h.1*p.2.1=0:=by grind
  lia
 ·exfalso;unfold M5 at a1;rw[hn]at a1;simp at a1
def jy(P:Wy->Prop) [DecidablePred P] (h:Tr)(ps:List Dt)(p:Dt):sm P h (ps++[p])=sm P h ps+if P (L5 h p)then p.2.2.2 else 0:=by unfold sm;rw[OQ,List.sum_append];simp
def PK(h:Tr)(ps:List Dt):List Dt:=ps.filter λp=>decide (L5 h p≠(0,0))
theorem rR [DecidablePred P] (hP:∀a,P a->a≠(0,0)) (h:Tr):∀ps:List Dt,sm P h (PK h ps)=sm P h ps
 |[]=>rfl
 |p::ps=>by
  have ih:=rR hP h ps;unfold sm PK at ih ⊢;by_cases z:L5 h p=(0,0)
  ·rw[XG (by simp[z]),ih,MR,S1,Lw λq=>hP _ q z]
   lia
  ·rw[XH (by simp[z]),MR,MR,S1,S1,ih]
def AB(h:Tr)(ps:List Dt):(PK h ps).map (L5 h)=RW h ps:=by unfold PK RW;rw[List.filter_map];rfl
def DZ{ps:List Dt}{m:Int}(hp:∀p∈ps,0<=p.2.2.2)(a:IsL h ps g)(h1:∃v∈RW h ps,m=TH h ps v)(h2:∀v∈RW h ps,m<=TH h ps v):sm aZ h ps+m=Om g ps:=by
 obtain⟨v,hv,e⟩:=h1;obtain⟨u,hu,e'⟩:=a.eq_ hp (λz=>by rw[z]at hv;simp at hv);have:=a.lt_ hp hv;have:=h2 u hu
 lia
def RX(h:Tr)(p:Dt):D:=.tup [.int (L5 h p).1,.int (L5 h p).2,.int p.2.2.2]
def Et(ps:List Dt)(z:L5 h p=(0,0)):PK h (ps++[p])=PK h ps:=by unfold PK;rw[ZZ];simp[z]
def Eu(ps:List Dt)(z:L5 h p≠(0,0)):PK h (ps++[p])=PK h ps++[p]:=by unfold PK;rw[ZZ];simp[z]
def CG(h:Tr)(ps:List Dt):(PK h ps).length<=ps.length:=ZR _ _
def gd(g:Tr)(p:Dt):Int:=gv g.1 g.2.1 g.2.2 p
theorem dG(g:Tr)(p:Dt):gd g p=g.1+g.2.1*p.1+g.2.2*p.2.1:=rfl
def Fw(g:Tr)(p:Dt):Lv g (sT (NB p))=gd g p:=by unfold Lv sT NB gd gv;grind
def OG(g:Tr):Tr:=(-g.1,-g.2.1,-g.2.2)
def vf(g:Tr)(p:Dt):gd (OG g) p=- gd g p:=by unfold gd OG gv;grind
def qY(g h:Tr):Lv (OG g) h=- Lv g h:=by unfold Lv OG;grind
def df(d p:Dt):Sp:=(p.1 - d.1,p.2.1 - d.2.1)
theorem iD{f g:Dt->Bool}:∀{ps:List Dt},(∀p∈ps,0<=p.2.2.2)->(∀p∈ps,f p=true->g p=true)->wq f ps<=wq g ps
 |[],_,_=>Np _
 |p::r,hp,h=>by
  have i:=iD (λq hq=>hp q (MO _ hq)) λq hq=>h q (MO _ hq)
  have h1:=h p (by simp);have h2:=hp p (by simp);unfold wq;by_cases c:f p=true
  ·rw[Lx c,Lx (h1 c)];lia
  ·rw[Lw c];split<;>lia
theorem Bh:∀ps:List Dt,wq (λ_=>false) ps=0
 |[]=>rfl
 |_::r=>(Xc _).trans (Bh r)
def KL{ps:List Dt}(hp:∀p∈ps,0<=p.2.2.2):0<=wq f ps:=by have:=iD (f:=λ_=>false) (g:=f) hp (λ_ _ h=>absurd h (by decide));rw[Bh]at this;exact this
theorem FQ:∀{ps:List Dt},0<wq f ps->∃p∈ps,f p=true
 |[],h=>absurd (show(0:Int)<0 from h) (by decide)
 |p::r,h=>by
  by_cases c:f p=true
  ·exact⟨p,by simp,c⟩
  ·unfold wq at h;rw[Lw c,Xc]at h;obtain⟨q,hq,e⟩:=FQ h;exact⟨q,MO _ hq,e⟩
theorem w5{α:Type}(f:α->Int)(P:α->Prop):∀{l:List α},(∃a∈l,P a)->∃a∈l,P a/\∀b∈l,P b->f a<=f b
 |[],h=>by obtain⟨a,ha,_⟩:=h;cases ha
 |x::r,h=>by
  by_cases c:∃a∈r,P a
  ·obtain⟨a,ha,pa,mn⟩:=w5 f P c;by_cases cx:P x/\f x<f a
   ·refine⟨x,by simp,cx.1,λb hb pb=>?_⟩;rcases L9.mp hb with rfl|hb
    ·exact Np _
    ·have:=mn b hb pb;lia
   ·refine⟨a,MO _ ha,pa,λb hb pb=>?_⟩;rcases L9.mp hb with rfl|hb
    ·have:¬f b<f a:=λz=>cx ⟨pb,z⟩
     lia
    ·exact mn b hb pb
  ·obtain⟨a,ha,pa⟩:=h;rcases L9.mp ha with rfl|ha
   ·refine⟨a,by simp,pa,λb hb pb=>?_⟩;rcases L9.mp hb with rfl|hb
    ·exact Np _
    ·exact absurd ⟨b,hb,pb⟩ c
   ·exact absurd ⟨a,ha,pa⟩ c
def quant{ps:List Dt}(hp:∀p∈ps,0<=p.2.2.2){w:Int}(w0:0<w)(hN:w<=wq (λp=>decide (gd g p<0)) ps) :
  ∃ d∈ps,gd g d<0/\w<=wq (λp=>decide (gd g p<=gd g d)) ps/\wq (λp=>decide (gd g p<gd g d)) ps<w:=by
 have up:∀c:Int,w<=wq (λp=>decide (gd g p<c)) ps->∃d∈ps,gd g d<c/\w<=wq (λp=>decide (gd g p<=gd g d)) ps:=λc hc=>by obtain⟨d0,h0,e0⟩:=FQ (Int.lt_of_lt_of_le w0 hc);obtain⟨d,hd,ed,mn⟩:=w5 (λp=>- gd g p) (λp=>gd g p<c) ⟨d0,h0,OP e0⟩;refine⟨d,hd,ed,Xb hc (iD hp λp hm q=>?_)⟩;have:=mn p hm (OP q);exact NL (by lia)
 obtain⟨d1,m1,n1,k1⟩:=up 0 hN;obtain⟨d,hd,kd,mn⟩:=w5 (gd g) (λd=>w<=wq (λp=>decide (gd g p<=gd g d)) ps) ⟨d1,m1,k1⟩;refine⟨d,hd,by have:=mn d1 m1 k1;lia,kd,O7.mp λz=>?_⟩;obtain⟨d2,m2,n2,k2⟩:=up _ z;have:=mn d2 m2 k2
 lia
structure Cd(L:yau)(d:Dt)(m:Sp)(r:Tr):Prop where
 mem:r∈L∨OG r∈L
 ex:∃k:Int,0<k/\r.2.1*k=m.1/\r.2.2*k=m.2/\gd r d=0
def Cd.at_(c:Cd L d m r):∃k:Int,0<k/\(∀p:Dt,gd r p*k=LB m (df d p))/\∀h:Tr,Lv r h*k=LB m (h.2.1 - h.1*d.1,h.2.2 - h.1*d.2.1):=by
 obtain⟨k,k0,e1,e2,e3⟩:=c.ex;rw[dG]at e3;have c0:r.1=- (r.2.1*d.1+r.2.2*d.2.1):=by lia
 refine⟨k,k0,λp=>?_,λh=>?_⟩
 ·rw[dG,c0];unfold LB df;rw[<- e1,<- e2];grind
 ·unfold Lv LB;rw[c0,<- e1,<- e2];grind
def Cd.neg(c:Cd L d m r):Cd L d (-m.1,-m.2) (OG r):=by
 obtain⟨k,k0,e1,e2,e3⟩:=c.ex;refine⟨c.mem.elim (λz=>.inr ?_) .inl,k,k0,?_,?_,by rw[vf,e3];rfl⟩
 ·show(- -r.1,- -r.2.1,- -r.2.2)∈L;rw[VU,VU,VU];exact z
 ·show -r.2.1*k=-m.1;rw[O3,e1]
 ·show -r.2.2*k=-m.2;rw[O3,e2]
def sM(h:tn v m=0):LB v v*LB m u=LB v m*LB v u:=by
 have:LB v v*LB m u=LB v m*LB v u+tn v m*tn v u:=by unfold LB tn;grind
 rw[this,h,QW,O1]
def rQ{a b x y:Int}(ha:0<a)(hb:0<b)(e:a*x=b*y):(0<=y->0<=x)/\(y<=0->x<=0)/\(y<0->x<0):=by
 refine⟨λh=>?_,λh=>?_,λh=>?_⟩
 ·have:=M3 (MT hb) h;exact QZ.mp λz=>by have:=QK ha z;lia
 ·have:=ZJ (MT hb) h;exact QZ.mp λz=>by have:=O2 ha z;lia
 ·have:=QK hb h;exact O7.mp λz=>by have:=M3 (MT ha) z;lia
def ni(v u:Sp):tn v (ME u)=LB v u:=by unfold tn ME LB;grind
def uh(t:Sp)(V:yat)(h:∃v∈V,tn t v<0):∃v∈V,tn t v<0/\∀w∈V,tn t w<0->tn v w<=0:=by
 have e:∀a b:Sp,tn (a.1,-a.2) (b.1,-b.2)=- tn a b:=λa b=>by unfold tn;grind
 obtain⟨v,hv,nv⟩:=h;obtain⟨u,hu,u0,us⟩:=lS (t.1,-t.2) (V.map λv=>(v.1,-v.2)) ⟨_,Ms.mpr ⟨v,hv,rfl⟩,by rw[e];lia⟩;obtain⟨u',SF,rfl⟩:=Ms.mp hu;rw[e]at u0;refine⟨u',SF,by lia,λw hw nw=>?_⟩;have:=us _ (Ms.mpr ⟨w,hw,rfl⟩) (by rw[e];lia);rw[e]at this
 lia
def JR{ps:List Dt}(hp:∀p∈ps,0<=p.2.2.2)(hL:∀d∈ps,(∃r,Cd L d (1,0) r)/\(∃r,Cd L d (0,1) r)/\∀p∈ps,df d p≠(0,0)->∃r,Cd L d (ME (df d p)) r)
  {h:Tr} (g0:vc g≠(0,0)) (h0:0<h.1) (on:Lv g h=0) {w:Int} (w0:0<w) (hN:w<=wq (λp=>decide (gd g p<0)) ps) :
  ∃ r,(r∈L∨OG r∈L)/\wq (λp=>decide (0<gd r p)) ps<w/\w<=wq (λp=>decide (0<=gd r p)) ps/\Lv r h<0:=by
 obtain⟨d,hd,nd,k1,k2⟩:=quant hp w0 hN;obtain⟨⟨rx,cx⟩,⟨ry,cy⟩,cz⟩:=hL d hd;generalize hv:((-g.2.1,-g.2.2):Sp)=v;have v1:v.1=-g.2.1:=by rw[<- hv]
 have v2:v.2=-g.2.2:=by rw[<- hv]
 have vn:v≠(0,0):=λz=>g0 (by rw[z]at v1 v2;unfold vc;rw[show g.2.1=0 by have:(0:Int)=-g.2.1:=v1;lia,show g.2.2=0 by have:(0:Int)=-g.2.2:=v2;lia])
 have vv:=sq_pos vn;have ev:∀p:Dt,LB v (df d p)=gd g d - gd g p:=λp=>by rw[dG,dG];unfold LB df;rw[v1,v2];grind
 have eh:LB v (h.2.1 - h.1*d.1,h.2.2 - h.1*d.2.1)<0:=by
  have e:LB v (h.2.1 - h.1*d.1,h.2.2 - h.1*d.2.1)=h.1*gd g d - Lv g h:=by rw[dG];unfold LB Lv;rw[v1,v2];grind
  rw[e,on,VS];exact QK h0 nd
 generalize hq:((h.2.1 - h.1*d.1,h.2.2 - h.1*d.2.1):Sp)=q at eh;have fin:∀(m:Sp) (r:Tr),Cd L d m r->(∀p∈ps,(0<=LB v (df d p)->0<=LB m (df d p))/\(LB v (df d p)<=0->LB m (df d p)<=0))->LB m q<0 →
   ∃ r,(r∈L∨OG r∈L)/\wq (λp=>decide (0<gd r p)) ps<w/\w<=wq (λp=>decide (0<=gd r p)) ps/\Lv r h<0:=λm r c hs hm=>by
  obtain⟨k,k0,e1,e2⟩:=c.at_;have s1:∀p,(0<=LB m (df d p)->0<=gd r p)/\(LB m (df d p)<=0->gd r p<=0):=λp=>by have:=rQ (x:=gd r p) (y:=LB m (df d p)) k0 (show(0:Int)<1 by decide) (by rw[M4,e1 p,RM]);exact⟨this.1,this.2.1⟩
  have s2:=(rQ (x:=Lv r h) (y:=LB m q) k0 (show(0:Int)<1 by decide) (by rw[M4,e2 h,RM,hq])).2.2 hm;refine⟨r,c.mem,Int.lt_of_le_of_lt (iD hp λp hm z=>?_) k2,Xb k1 (iD hp λp hm z=>?_),s2⟩
  ·have z':=OP z;refine NL (O7.mp λy=>?_);have:=(s1 p).2 ((hs p hm).2 (by rw[ev p];lia))
   lia
  ·have z':=OP z;exact NL ((s1 p).1 ((hs p hm).1 (by rw[ev p];lia)))
 generalize hV:([(1,0),(-1,0),(0,1),(0,-1)]++(ps.filter λp=>decide (df d p≠(0,0))).flatMap λp=>[ME (df d p),MB (ME (df d p))]:yat)=V;have vx:(1,0)∈V:=by rw[<- hV];simp
 have vx':(-1,0)∈V:=by rw[<- hV];simp
 have vy:(0,1)∈V:=by rw[<- hV];simp
 have Zx:(0,-1)∈V:=by rw[<- hV];simp
 have vp:∀p∈ps,df d p≠(0,0)->ME (df d p)∈V/\MB (ME (df d p))∈V:=λp hm ne=>by
  have m:p∈ps.filter λp=>decide (df d p≠(0,0)):=Rb.mpr ⟨hm,NL ne⟩
  rw[<- hV];exact⟨Oq _ (Ug.mpr ⟨p,m,by simp⟩),Oq _ (Ug.mpr ⟨p,m,by simp⟩)⟩
 have cV:∀m∈V,(∃r,Cd L d m r)/\MB m∈V:=λm hm=>by
  have Vt:=hm;rw[<- hV]at Vt;rcases MC.mp Vt with z|z
  ·simp only[L9,QV,or_false]at z;rcases z with rfl|rfl|rfl|rfl
   ·exact⟨⟨rx,cx⟩,vx'⟩
   ·exact⟨⟨_,cx.neg⟩,vx⟩
   ·exact⟨⟨ry,cy⟩,Zx⟩
   ·exact⟨⟨_,cy.neg⟩,vy⟩
  ·obtain⟨p,SJ,z2⟩:=Ug.mp z;obtain⟨pm,pn⟩:=Rb.mp SJ;have ne:=OP pn;obtain⟨r,c⟩:=cz p pm ne;obtain⟨q1,q2⟩:=vp p pm ne;simp only[L9,QV,or_false]at z2;rcases z2 with rfl|rfl
   ·exact⟨⟨r,c⟩,q2⟩
   ·refine⟨⟨_,c.neg⟩,?_⟩;have e:MB (MB (ME (df d p)))=ME (df d p):=by unfold MB ME;simp
    rw[e];exact q1
 by_cases A:∃m∈V,tn v m=0/\0<LB v m
 ·obtain⟨m,hm,t0,p0⟩:=A;obtain⟨⟨r,c⟩,_⟩:=cV m hm;refine fin m r c (λp _=>?_) ?_
  ·have:=rQ vv p0 (sM (u:=df d p) t0);exact⟨this.1,this.2.1⟩
  ·exact(rQ vv p0 (sM (u:=q) t0)).2.2 eh
 ·have nA:∀m∈V,tn v m=0->¬0<LB v m:=λm hm t0 p0=>A ⟨m,hm,t0,p0⟩
  have tx:tn v (1,0)=-v.2:=by unfold tn;grind
  have ty:tn v (0,1)=v.1:=by unfold tn;grind
  have dx:LB v (1,0)=v.1:=by unfold LB;grind
  have dx':LB v (-1,0)=-v.1:=by unfold LB;grind
  have dy:LB v (0,1)=v.2:=by unfold LB;grind
  have dy':LB v (0,-1)=-v.2:=by unfold LB;grind
  have tx':tn v (-1,0)=v.2:=by unfold tn;grind
  have ty':tn v (0,-1)=-v.1:=by unfold tn;grind
  have v10:v.1≠0:=λz=>by have a:=nA _ vy (by rw[ty];exact z);have b:=nA _ Zx (by rw[ty',z];rfl);rw[dy]at a;rw[dy']at b;exact vn (N2 z (show v.2=0 by lia))
  have v20:v.2≠0:=λz=>by have a:=nA _ vx (by rw[tx,z];rfl);have b:=nA _ vx' (by rw[tx'];exact z);rw[dx]at a;rw[dx']at b;exact vn (N2 (show v.1=0 by lia) z)
  have zero:∀p∈ps,LB v (df d p)=0->df d p=(0,0):=λp hm z=>by
   by_cases c:df d p=(0,0)
   ·exact c
   ·exfalso;obtain⟨q1,q2⟩:=vp p hm c;have t1:tn v (ME (df d p))=0:=by rw[ni];exact z
    have t2:tn v (MB (ME (df d p)))=0:=by
     have:tn v (MB (ME (df d p)))=- tn v (ME (df d p)):=by unfold tn MB;grind
     rw[this,t1];rfl
    have a:=nA _ q1 t1;have b:=nA _ q2 t2;have e:LB v (MB (ME (df d p)))=- LB v (ME (df d p)):=by unfold LB MB;grind
    rw[e]at b;have z0:LB v (ME (df d p))=0:=by lia
    have e3:=sM (v:=v) (m:=ME (df d p)) (u:=ME (df d p)) t1;rw[z0,QW]at e3;have l0:ME (df d p)≠(0,0):=λy=>c (by unfold ME at y;have y1:=congrArg Prod.fst y;have y2:=congrArg Prod.snd y;dsimp only at y1 y2;exact N2 y2 (show(df d p).2=0 by lia))
    have:=O2 vv (sq_pos l0)
    lia
  obtain⟨n2,m2,a2,f2⟩:=lS v V (by
   by_cases c:0<v.1
   ·exact⟨_,vy,by rw[ty];exact c⟩
   ·exact⟨_,Zx,by rw[ty'];lia⟩)
  obtain⟨n1,m1,a1,f1⟩:=uh v V (by
   by_cases c:0<v.1
   ·exact⟨_,Zx,by rw[ty'];lia⟩
   ·exact⟨_,vy,by rw[ty];lia⟩)
  have tb:∀a b:Sp,tn a (MB b)=- tn a b:=λa b=>by unfold tn MB;grind
  have s2:∀p∈ps,(0<=LB v (df d p)->0<=LB n2 (df d p))/\(LB v (df d p)<=0->LB n2 (df d p)<=0):=λp hm=>by
   by_cases c:df d p=(0,0)
   ·rw[c];unfold LB;simp
   ·obtain⟨q1,q2⟩:=vp p hm c;have b1:=f2 _ q1;have b2:=f2 _ q2;rw[tb,tb]at b2;rw[ni,ni]at b1 b2;have nz:LB v (df d p)≠0:=λz=>c (zero p hm z)
    exact⟨λz=>b1 (by lia),λz=>by have:=b2 (by lia);lia⟩
  have s1:∀p∈ps,(0<=LB v (df d p)->0<=LB n1 (df d p))/\(LB v (df d p)<=0->LB n1 (df d p)<=0):=λp hm=>by
   by_cases c:df d p=(0,0)
   ·rw[c];unfold LB;simp
   ·obtain⟨q1,q2⟩:=vp p hm c;have b1:=f1 _ q1;have b2:=f1 _ q2;rw[tb,tb]at b2;rw[ni,ni]at b1 b2;have nz:LB v (df d p)≠0:=λz=>c (zero p hm z)
    exact⟨λz=>by have:=b2 (by lia);lia,λz=>b1 (by lia)⟩
  obtain⟨⟨r2,c2⟩,_⟩:=cV n2 m2;obtain⟨⟨r1,c1⟩,b1⟩:=cV n1 m1;have t12:0<=tn n1 n2:=by
   have:=f2 _ b1 (by rw[tb];lia);rw[tb]at this;have:=cg n1 n2
   lia
  have side:∀a∈V,0<tn v a->tn n1 n2=0->tn n2 a=0:=λa ha pa z=>by
   have h1:=f2 a ha pa;have h2:=f1 _ (cV a ha).2 (by rw[tb];lia);rw[tb]at h2;have pl:tn v n1*tn n2 a=tn v n2*tn n1 a - tn v a*tn n1 n2:=plk v n1 n2 a;rw[z,Pg,VS]at pl;have x1:=M3 (MT a2) (show 0<=tn n1 a by lia);by_cases y:tn n2 a=0
   ·exact y
   ·have x2:=RI a1 (show 0<tn n2 a by lia)
    lia
  have t0:0<tn n1 n2:=by
   by_cases z:tn n1 n2=0
   ·exfalso;have e1:tn n2 (1,0)=-n2.2:=by unfold tn;grind
    have e2:tn n2 (0,1)=n2.1:=by unfold tn;grind
    have e3:tn n2 (-1,0)=n2.2:=by unfold tn;grind
    have e4:tn n2 (0,-1)=-n2.1:=by unfold tn;grind
    have z2:n2.2=0:=by
     by_cases c:0<v.2
     ·have:=side _ vx' (by rw[tx'];exact c) z
      lia
     ·have:=side _ vx (by rw[tx];lia) z
      lia
    have z1:n2.1=0:=by
     by_cases c:0<v.1
     ·have:=side _ vy (by rw[ty];exact c) z
      lia
     ·have:=side _ Zx (by rw[ty'];lia) z
      lia
    have:tn v n2=0:=by unfold tn;rw[z1,z2];simp
    lia
   ·lia
  have comb:tn n1 n2*LB v q=tn v n2*LB n1 q+- tn v n1*LB n2 q:=by unfold tn LB;grind
  by_cases c:LB n2 q<0
  ·exact fin n2 r2 c2 s2 c
  ·refine fin n1 r1 c1 s1 (O7.mp λz=>?_);have x1:=QK t0 eh;have x2:=M3 (MT a2) z;have x3:=M3 (show 0<=- tn v n1 by lia) (show 0<=LB n2 q by lia)
   lia
noncomputable def Zy(ps:List Dt):yau:=ps.map (λp=>(-p.1,1,0))++ps.map λp=>(-p.2.1,0,1)
abbrev RY:=Tr×Int×Int
def cA(x:RY):D:=.tup [LL x.1,.int x.2.1,.int x.2.2]
def EG(h:cA x=cA y):x=y:=by unfold cA at h;simp only[D.tup.injEq,PQ,D.int.injEq,and_true]at h;exact N2 (zP h.1) (N2 h.2.1 h.2.2)
def EH{xs ys:List RY}(h:xs.map cA=ys.map cA):xs=ys:=iM EG h
def uF(x:RY):aX (cA x)=cA x:=by unfold cA;simp only[eQ,cP,dO,cN,bF]
def yR(xs:List RY):bq (xs.map cA)=xs.map cA:=dN cA uF xs
def AO(ps:List Dt)(g:Tr):List RY:=[(g,wl ps g 1,wl ps g 1+wl ps g 0),(OG g,wl ps g (-1),wl ps g (-1)+wl ps g 0)]
def bY(ps:List Dt)(zs:yau):List RY:=zs.flatMap (AO ps)
noncomputable def cZ(xs:List RY)(w:Int):yau:=(xs.filter λx=>decide (x.2.1<w/\w<=x.2.2)).map (·.1)
def aT(ps:List Dt):Int:=RV (λ_=>true) ps
def sD(ps:List Dt):aT ps=wq (λ_=>true) ps:=by
 unfold aT RV;rw[RK.mpr (λ_ _=>rfl)]
 induction ps with
 |nil=>rfl
 |cons p r ih=>unfold wq;rw[MR,S1,ih];rfl
theorem FN(g0 g1 g2 s:Int):∀ps:List Dt,w3 g0 g1 g2 s ps=wq (λp=>decide (sg (gv g0 g1 g2 p)=s)) ps
 |[]=>rfl
 |p::r=>by
  have ih:=FN g0 g1 g2 s r;unfold w3 at ih ⊢;unfold wq;rw[MR,S1,ih];by_cases c:sg (gv g0 g1 g2 p)=s
  ·rw[Lx c,Lx (NL c)]
  ·rw[Lw c,Lw (by rw[decide_eq_true_eq];exact c)]
def oQ(ps:List Dt)(g:Tr)(s:Int):wl ps g s=wq (λp=>decide (sg (gd g p)=s)) ps:=by unfold wl wt;rw[RK.mpr (λ_ _=>rfl),FN];rfl
theorem nZ{f g k:Dt->Bool}:∀{ps:List Dt},(∀p∈ps,k p=(f p || g p))->(∀p∈ps,¬(f p=true/\g p=true))->wq f ps+wq g ps=wq k ps
 |[],_,_=>rfl
 |p::r,h,h'=>by
  have ih:=nZ (λq hq=>h q (MO _ hq)) λq hq=>h' q (MO _ hq)
  have e:=h p (by simp);have n:=h' p (by simp);unfold wq;rw[<- ih,e];cases hf:f p<;>cases hg:g p
  ·simp
  ·simp;lia
  ·simp;lia
  ·exact absurd ⟨hf,hg⟩ n
def xV(g:Tr)(ps:List Dt):wq (λp=>decide (gd g p<0)) ps+wq (λp=>decide (0<=gd g p)) ps=aT ps:=by
 rw[sD];refine nZ (λp _=>?_) λp _ ⟨a,b⟩=>?_
 ·rcases Int.lt_or_le (gd g p) 0 with c|c
  ·rw[NL c];rfl
  ·rw[NL c,Bool.or_true]
 ·have:=OP a;have:=OP b
  lia
def xM(a:Int):sg a=1↔0<a:=by unfold sg;split<;>(try split)<;>lia
def lC(a:Int):sg a=0↔a=0:=by unfold sg;split<;>(try split)<;>lia
def tO(a:Int):sg a=-1↔a<0:=by unfold sg;split<;>(try split)<;>lia
def Bf(ps:List Dt)(g:Tr):wl ps g 1=wq (λp=>decide (0<gd g p)) ps:=by rw[oQ];exact qv λp _=>by simp only[xM]
def J1(ps:List Dt)(g:Tr):wl ps g (-1)=wq (λp=>decide (0<gd (OG g) p)) ps:=by rw[oQ];exact qv λp _=>by rw[vf];simp only[tO];congr 1;simp
def FO(ps:List Dt)(g:Tr):wl ps g 1+wl ps g 0=wq (λp=>decide (0<=gd g p)) ps:=by
 rw[oQ,oQ];refine nZ (λp _=>?_) λp _=>?_
 ·simp only[xM,lC];rw[Uh];simp;omega
 ·simp only[xM,lC,decide_eq_true_eq];omega
def FP(ps:List Dt)(g:Tr):wl ps g (-1)+wl ps g 0=wq (λp=>decide (0<=gd (OG g) p)) ps:=by
 rw[oQ,oQ];refine nZ (λp _=>?_) λp _=>?_
 ·rw[vf];simp only[tO,lC];rw[Uh];simp;omega
 ·simp only[tO,lC,decide_eq_true_eq];omega
def rq(g:Tr):OG (OG g)=g:=by unfold OG;simp
def oE{r:Tr}(hz:cG zs L):r∈cZ (bY ps zs) w↔(r∈L∨OG r∈L)/\wq (λp=>decide (0<gd r p)) ps<w/\w<=wq (λp=>decide (0<=gd r p)) ps:=by
 unfold cZ bY;constructor
 ·intro h;obtain⟨x,hx,rfl⟩:=Ms.mp h;obtain⟨h1,h2⟩:=Rb.mp hx;obtain⟨g,hg,h3⟩:=Ug.mp h1;have OO:=OP h2;unfold AO at h3;simp only[L9,QV,or_false]at h3;rcases h3 with rfl|rfl
  ·dsimp only at OO ⊢;rw[Bf]at OO;rw[<- Bf]at OO;exact⟨.inl ((hz.2 g).mp hg),by rw[<- Bf];exact OO.1,by rw[<- FO];exact OO.2⟩
  ·dsimp only at OO ⊢;exact⟨.inr (by rw[rq];exact(hz.2 g).mp hg),by rw[<- J1];exact OO.1,by rw[<- FP];exact OO.2⟩
 ·rintro⟨h|h,h1,h2⟩
  ·refine Ms.mpr ⟨(r,wl ps r 1,wl ps r 1+wl ps r 0),Rb.mpr ⟨Ug.mpr ⟨r,(hz.2 r).mpr h,by unfold AO;simp⟩,NL ?_⟩,rfl⟩;dsimp only;rw[FO,Bf];exact⟨h1,h2⟩
  ·refine Ms.mpr ⟨(OG (OG r),wl ps (OG r) (-1),wl ps (OG r) (-1)+wl ps (OG r) 0),Rb.mpr ⟨Ug.mpr ⟨OG r,(hz.2 _).mpr h,by unfold AO;simp⟩,NL ?_⟩,rq r⟩;dsimp only;rw[FP,J1,rq];exact⟨h1,h2⟩
def tG(w:Int):(bY ps zs).length=2*zs.length/\(cZ (bY ps zs) w).length<=2*zs.length:=by
 have e:(bY ps zs).length=2*zs.length:=by
  unfold bY
  induction zs with
  |nil=>rfl
  |cons g r ih=>rw[List.flatMap_cons,Nz,ih,Qx];show 2+_=_;lia
 refine⟨e,?_⟩;unfold cZ;rw[LJ,<- e];exact ZR _ _
structure gc(ps:List Dt):Prop where
 gd:∀p∈ps,GD p
 bx:∀p∈ps,Bd 40 p.1/\Bd 40 p.2.1
 w:∀p∈ps,0<p.2.2.2
 le:ps.length<=20
 ne:ps ≠ []
def gc.nn(D:gc ps):∀p∈ps,0<=p.2.2.2:=λp hp=>MT (D.w p hp)
abbrev QS(ps:List Dt):yau:=sW ps++Zy ps
def sV{ps:List Dt}(h:ps.length<=20):(QS ps).length<=440:=by
 have h1:=zv ps;have h2:ps.length*ps.length<=20*20:=Nat.mul_le_mul h h;unfold QS Zy;rw[Nz,Nz,LJ,LJ]
 lia
def Aw(F:LF g p q):∃m:Int,m≠0/\p.1*q.2.1 - q.1*p.2.1=m*g.1/\p.2.1 - q.2.1=m*g.2.1/\q.1 - p.1=m*g.2.2/\∀z,gd g z*m=tq p q z:=by obtain⟨m,m0,em⟩:=F.ex;have e0:=em (0,0,0,0);have e1:=em (1,0,0,0);have e2:=em (0,1,0,0);unfold gv tq at e0 e1 e2;dsimp only at e0 e1 e2;refine⟨m,m0,?_,?_,?_,em⟩<;>grind
def Gv{p q:Dt}(hp:Bd 40 p.1/\Bd 40 p.2.1)(hq:Bd 40 q.1/\Bd 40 q.2.1)(Gp:GD p)(Gq:GD q)(ne:NB p≠NB q):Sm 40 (SQ p q)/\vc (SQ p q)≠(0,0):=by
 have F:=vj Gp Gq ne;obtain⟨m,m0,e0,e1,e2,_⟩:=Aw F;have nz:vc (SQ p q)≠(0,0):=λz=>by
  have z1:=congrArg Prod.fst z;have z2:=congrArg Prod.snd z;unfold vc at z1 z2;dsimp only at z1 z2;have:=F.nf.sgn
  lia
 refine⟨⟨λz=>nz (by unfold vc;rw[z]),kS m0 e0 ?_,kS m0 e1 ?_,kS m0 e2 ?_⟩,nz⟩
 ·exact((hp.1.mul hq.2).sub (hq.1.mul hp.2)).mono (by decide)
 ·exact hp.2.sub hq.2
 ·exact hq.1.sub hp.1
def Ja(G:Sm n g)(h:vc g≠(0,0)):Sm n (OG g)/\vc (OG g)≠(0,0):=by
 have nz:vc (OG g)≠(0,0):=λz=>h (by have z1:=congrArg Prod.fst z;have z2:=congrArg Prod.snd z;unfold vc OG at z1 z2;dsimp only at z1 z2;unfold vc;rw[show g.2.1=0 by lia,show g.2.2=0 by lia])
 exact⟨⟨λz=>nz (by unfold vc;rw[z]),G.c.neg,G.a.neg,G.b.neg⟩,nz⟩
def B9(D:gc ps):∀g∈QS ps,Sm 40 g/\vc g≠(0,0):=λg hg=>by
 rcases MC.mp hg with z|z
 ·obtain⟨ij,NO,rfl⟩:=Ms.mp z;obtain⟨a,b,c⟩:=k7.mp NO;have m1:=kT (show ij.1<ps.length by lia);have m2:=kT b;exact Gv (D.bx _ m1) (D.bx _ m2) (D.gd _ m1) (D.gd _ m2) c
 ·unfold Zy at z;have b1:∀k:Int,Bd 1 k->Bd 41 k:=λk h=>h.mono (by decide)
  rcases MC.mp z with z|z<;>obtain⟨p,hp,rfl⟩:=Ms.mp z
  ·exact⟨⟨λe=>absurd (show(1:Int)=0 from congrArg (λt:Tr=>t.2.1) e) (by decide),((D.bx p hp).1.neg).mono (by decide),b1 1 (by unfold Bd;decide),b1 0 (by unfold Bd;decide)⟩,λe=>absurd (show(1:Int)=0 from congrArg Prod.fst e) (by decide)⟩
  ·exact⟨⟨λe=>absurd (show(1:Int)=0 from congrArg (λt:Tr=>t.2.2) e) (by decide),((D.bx p hp).2.neg).mono (by decide),b1 0 (by unfold Bd;decide),b1 1 (by unfold Bd;decide)⟩,λe=>absurd (show(1:Int)=0 from congrArg Prod.snd e) (by decide)⟩
def F0(D:gc ps):∀d∈ps,(∃r,Cd (QS ps) d (1,0) r)/\(∃r,Cd (QS ps) d (0,1) r)/\∀p∈ps,df d p≠(0,0)->∃r,Cd (QS ps) d (ME (df d p)) r:=λd hd=>by
 refine⟨⟨(-d.1,1,0),.inl ?_,1,by decide,rfl,rfl,by rw[dG];dsimp only;lia⟩,⟨(-d.2.1,0,1),.inl ?_,1,by decide,rfl,rfl,by rw[dG];dsimp only;lia⟩,λp hp ne=>?_⟩
 ·exact Oq _ (Qj _ (Ms.mpr ⟨d,hd,rfl⟩))
 ·exact Oq _ (Oq _ (Ms.mpr ⟨d,hd,rfl⟩))
 ·have Zz:NB d≠NB p:=λe=>ne (by
   unfold NB at e;have e1:=congrArg Prod.fst e;have e2:=congrArg Prod.snd e;dsimp only at e1 e2;unfold df;rw[e1,e2,Int.sub_self,Int.sub_self])
  have one:∀(g:Tr) (m:Int),g∈QS ps->m≠0->m*g.2.1=(ME (df d p)).1->m*g.2.2=(ME (df d p)).2->gd g d=0->∃r,Cd (QS ps) d (ME (df d p)) r:=λg m hg m0 e1 e2 e3=>by
   by_cases c:0<m
   ·exact⟨g,.inl hg,m,c,by rw[M4];exact e1,by rw[M4];exact e2,e3⟩
   ·refine⟨OG g,.inr (by rw[rq];exact hg),-m,by lia,?_,?_,by rw[vf,e3];rfl⟩
    ·show -g.2.1*-m=_;rw[Int.neg_mul_neg,M4];exact e1
    ·show -g.2.2*-m=_;rw[Int.neg_mul_neg,M4];exact e2
  obtain⟨i,hi,ei⟩:=RL hd;obtain⟨j,hj,ej⟩:=RL hp;have gi:gp ps i=d:=by have:=qW hi;rw[MZ hi,ei]at this;exact(ON this).symm
  have gj:gp ps j=p:=by have:=qW hj;rw[MZ hj,ej]at this;exact(ON this).symm
  rcases XW i j with c|c|c
  ·have mm:(i,j)∈Vy ps:=k7.mpr ⟨c,hj,by show NB (gp ps i)≠NB (gp ps j);rw[gi,gj];exact Zz⟩;have F:=vj (D.gd d hd) (D.gd p hp) Zz;obtain⟨m,m0,e0,e1,e2,e3⟩:=Aw F;refine one (SQ d p) m (Qj _ (Ms.mpr ⟨(i,j),mm,by show SQ (gp ps i) (gp ps j)=_;rw[gi,gj]⟩)) m0 ?_ ?_ ?_
   ·rw[<- e1];unfold ME df;dsimp only;(try lia)
   ·rw[<- e2];unfold ME df;rfl
   ·have:=e3 d;rw[show tq d p d=0 by unfold tq;grind]at this;exact(PT.mp this).resolve_right m0
  ·subst c;rw[gi]at gj;subst gj;exact absurd rfl Zz
  ·have mm:(j,i)∈Vy ps:=k7.mpr ⟨c,hi,by show NB (gp ps j)≠NB (gp ps i);rw[gi,gj];exact Zz.symm⟩;have F:=vj (D.gd p hp) (D.gd d hd) Zz.symm;obtain⟨m,m0,e0,e1,e2,e3⟩:=Aw F;refine one (SQ p d) (-m) (Qj _ (Ms.mpr ⟨(j,i),mm,by show SQ (gp ps j) (gp ps i)=_;rw[gi,gj]⟩)) (by lia) ?_ ?_ ?_
   ·rw[O3,<- e1];unfold ME df;dsimp only;(try lia)
   ·rw[O3,<- e2];unfold ME df;dsimp only;(try lia)
   ·have:=e3 d;rw[show tq p d d=0 by unfold tq;grind]at this;exact(PT.mp this).resolve_right m0
def So(l:yau):Prop:=∀y∈l,∃e:Tr,Lv e y=0/\∀p∈l,p≠y->0<Lv e p
def So.sub{k:yau}(h:So l)(s:∀x∈k,x∈l):So k:=λy hy=>by obtain⟨e,e0,ep⟩:=h y (s y hy);exact⟨e,e0,λp hp=>ep p (s p hp)⟩
def qX(d g x:Tr):Lv (d.1+g.1,d.2.1+g.2.1,d.2.2+g.2.2) x=Lv d x+Lv g x:=by unfold Lv;grind
def CO(hx:Pr x)(hy:Pr y)(h1:Lv d x=0)(h2:Lv g x=0)(h3:Lv d y=0)(h4:Lv g y=0)(n:LR d g≠(0,0,0)):x=y:=by rw[nF hx h1 h2 n,nF hy h3 h4 n]
theorem yU{R:Tr->Tr->Prop}:∀{l:yau},(∀a b A B,l=A++a::b::B->R a b)->PJ R l
 |[],_=>True.intro
 |[_],_=>True.intro
 |a::b::r,h=>⟨h a b [] r rfl,yU λx y A B e=>h x y (a::A) B (by rw[e];rfl)⟩
def HA{l:yau}{z:Tr}(hz:l=l.dropLast++[z])(Ol:Pe l):PJ (λa b=>∀x∈l,0<=L7 a b x) (z::l):=by
 have t2:Pe (z::l):=by rw[hz]at Ol ⊢;exact uC Ol
 refine yU λa b A B e x hx=>?_
 have mx:x∈A++a::b::B:=by rw[<- e];exact MO _ hx
 rcases MC.mp mx with m|m
 ·have s:List.Sublist [x,a,b] (z::l):=by
   rw[e];exact ZX (Uc.mpr m) (List.Sublist.cons_cons _ (List.Sublist.cons_cons _ (List.nil_sublist _)))
  have:=t2 x a b s;rw[bQ]at this;exact this
 ·rcases L9.mp m with rfl|m
  ·rw[eX];exact Np _
  ·rcases L9.mp m with rfl|m
   ·rw[eY];exact Np _
   ·have s:List.Sublist [a,b,x] (z::l):=by
     rw[e];exact(List.Sublist.cons_cons _ (List.Sublist.cons_cons _ (Uc.mpr m))).trans (US _ _)
    exact t2 a b x s
def DQ(d g:Tr)(h:LR d g=(0,0,0))(p:Tr)(hd:Lv d p=0)(d0:d≠(0,0,0)):Lv g p=0:=by
 by_cases c:Lv g p=0
 ·exact c
 ·exact absurd h (BI d0 hd c)
def DK(Ol:Pe l)(pr:∀p∈l,Pr p)(ex:So l):So (cD g l):=by
 unfold cD;cases hz:l.getLast? with
 |none=>exact λy hy=>(by cases hy)
 |some z =>
  dsimp only;have zl:=pS hz;have zm:z∈l:=ZW hz;have sub:∀x∈Pk [] (aH g (bX g) z l),x∈aH g (bX g) z l:=λx hx=>(kQ _ _).subset hx
  refine So.sub ?_ sub;have pr':∀x∈z::l,Pr x:=λx hx=>(L9.mp hx).elim (λe=>e ▸ pr z zm) (pr x)
  have pos:∀x∈z::l,0<x.1:=λx hx=>(pr' x hx).pos
  have WK:∀x,x∈z::l->x∈l:=λx hx=>(L9.mp hx).elim (λe=>e ▸ zm) id
  have UK:=fun {y:Tr} (hy:y∈aH g (bX g) z l)=>mL l z hy
  have ov:=nY (kP g) l z pos;have prw:∀y∈aH g (bX g) z l,Pr y:=λy hy=>by
   rcases UK hy with m|⟨a,b,ma,mb,_,lt,rfl,_⟩
   ·exact pr y m
   ·exact Bw (pos a ma) (pos b (MO _ mb)) lt
  intro y hy;rcases UK hy with m|⟨a,b,ma,mb,_,lt,ey,ch⟩
  ·obtain⟨e,e0,ep⟩:=ex y m;refine⟨e,e0,λq hq ne=>?_⟩;rcases UK hq with mq|⟨a,b,ma,mb,_,lt,rfl,_⟩
   ·exact ep q mq ne
   ·obtain⟨⟨k,s,t,C⟩,_⟩:=kP g a b (pos a ma) (pos b (MO _ mb)) lt;have eq:=C.gv e;have nn:∀x∈l,0<=Lv e x:=λx hx=>by
     by_cases c:x=y
     ·rw[c,e0];exact Np _
     ·exact MT (ep x hx c)
    have na:=nn a (WK a ma);have nb:=nn b mb;have one:a≠y∨b≠y:=by
     by_cases c:a=y
     ·right
      intro c2;rw[c,c2]at lt;have:=T8 (Lv g y)
      lia
     ·exact .inl c
    have sp:0<s*Lv e a+t*Lv e b:=by
     have x1:=M3 (MT C.s0) na;have x2:=M3 (MT C.t0) nb;rcases one with c|c
     ·have:=O2 C.s0 (ep a (WK a ma) c);lia
     ·have:=O2 C.t0 (ep b mb c);lia
    rw[<- eq]at sp;exact Int.pos_of_mul_pos_right sp C.m0
  ·have pa:=pos a ma;have pb:=pos b (MO _ mb);obtain⟨⟨k,s,t,C⟩,g0⟩:=kP g a b pa pb lt;have dn:=ch _ (HA zl Ol);have dw:∀q∈aH g (bX g) z l,0<=Lv (LR a b) q:=mK (kP g) l z pos λx hx=>dn x (WK x hx)
   have ca:Lv (LR a b) a=0:=eX a b;have cb:Lv (LR a b) b=0:=eY a b;have cq:Lv (LR a b) (bX g a b)=0:=C.zero ca cb;have ab:LR a b≠(0,0,0):=λz0=>by
    have:=jD (pr' a ma) (pr' b (MO _ mb)) z0;rw[this]at lt;have:=T8 (Lv g b)
    lia
   have nz:LR (LR a b) g≠(0,0,0):=λz0=>by
    have:=DQ _ _ z0 a ca ab;rw[this,QW]at lt
    lia
   rw[ey]at hy ⊢;refine⟨((LR a b).1+g.1,(LR a b).2.1+g.2.1,(LR a b).2.2+g.2.2),by rw[qX,cq,g0];rfl,λq hq ne=>?_⟩;rw[qX];have h1:=dw q hq;have h2:=ov q hq;by_cases c:Lv (LR a b) q=0/\Lv g q=0
   ·exact absurd (CO (prw q hq) (prw _ hy) c.1 c.2 cq g0 nz) ne
   ·have:¬(Lv (LR a b) q=0/\Lv g q=0):=c
    lia
def Ar(ex:So l){x y z:Tr}(hx:x∈l)(hy:y∈l)(hz:z∈l)(xy:x≠y)(xz:x≠z)(yz:y≠z):L7 x y z≠0:=λd0=>by
 obtain⟨e,e0,ep⟩:=ex x hx;obtain⟨f,f0,fp⟩:=ex y hy;obtain⟨h,h0,hp⟩:=ex z hz;have id:(Lv e y*Lv f z - Lv e z*Lv f y)*Lv h x+(Lv e z*Lv f x - Lv e x*Lv f z)*Lv h y+(Lv e x*Lv f y - Lv e y*Lv f x)*Lv h z=L7 e f h*L7 x y z:=by unfold L7 Lv LR;grind
 rw[d0,e0,f0,h0,Pg,Pg,QW,Pg,VS,VS,O1]at id;have a1:=O2 (O2 (ep y hy (Ne.symm xy)) (fp z hz (Ne.symm yz))) (hp x hx xz);have a2:=O2 (O2 (ep z hz (Ne.symm xz)) (fp x hx xy)) (hp y hy yz)
 lia
theorem yW{Gs Z:yau}(hG:∀e∈Gs,Sm n e)(hZ:∀e∈Gs,∀g∈Gs,Rz (LR e g)∈Z):∀(gs l:yau),(∀g∈gs,g∈Gs)->WI n Gs Z l->So l->So (bB gs l)
 |[],_,_,_,e=>e
 |g::gs,l,h,C,e=>yW hG hZ gs (cD g l) (λx hx=>h x (MO _ hx)) (wg hG (h g (by simp)) (λe he=>hZ e he g (h g (by simp))) C) (DK C.Ol C.pr e)
def pP(h:cF ys ps):So ((aS ys).map sT)/\(aS ys).Nodup:=by
 have yl:=l5 h;obtain⟨o,hm⟩:=h;unfold aS;by_cases c:ys.length<2
 ·rw[Lx c];rcases ys with _|⟨y,_|⟨z,r⟩⟩
  ·exact⟨λ_ h=>(by cases h),List.nodup_nil⟩
  ·refine⟨λa ha=>⟨(0,0,0),by unfold Lv;simp,λp hp ne=>?_⟩,by simp⟩;rw[MR,R7,NI]at ha hp;exact absurd (hp.trans ha.symm) ne
  ·exact absurd c (by simp)
 rw[Lw c];obtain⟨A,n,m,ll,lu,inj,nl,hn,hm,L,U,eM,e0,gu,gl,hl⟩:=pR o hm c;generalize aC ys=l at *;generalize aC ys.reverse=u at *;have gm:∀{w:yat} {i:Nat} (hi:i<w.length),w.getD i (0,0)=w[i]:=fun {w i} hi=>by rw[OZ,MZ hi];rfl
 have Vz:∀a b p:Sp,Lv (bS a b) (sT p)=cr a b p:=λa b p=>by rw[bI];unfold Lv bS sT;grind
 have VA:∀a y b:Sp,(∀p∈ps,0<=cr a y p)->(∀p∈ps,0<=cr y b p)->0<cr a y b->∃e:Tr,Lv e (sT y)=0/\∀p∈ps,p≠y->0<Lv e (sT p):=λa y b h1 h2 hb=>by
  refine⟨((bS a y).1+(bS y b).1,(bS a y).2.1+(bS y b).2.1,(bS a y).2.2+(bS y b).2.2),?_,λp hp ne=>?_⟩
  ·rw[qX,(lN a y).2,(lN y b).1];rfl
  ·rw[qX,Vz,Vz];have x1:=h1 p hp;have x2:=h2 p hp;by_cases z:cr a y p=0/\cr y b p=0
   ·exfalso;apply ne;obtain⟨z1,z2⟩:=z;rw[bI]at z1 z2 hb;have k1:(p.1 - y.1)*((y.1 - a.1)*(b.2 - a.2) - (y.2 - a.2)*(b.1 - a.1))=0:=by grind
    have k2:(p.2 - y.2)*((y.1 - a.1)*(b.2 - a.2) - (y.2 - a.2)*(b.1 - a.1))=0:=by grind
    have y1:=(PT.mp k1).resolve_right (by lia);have y2:=(PT.mp k2).resolve_right (by lia);exact N2 (by lia) (by lia)
   ·lia
 have ZA:∀(A' B':Int) (y:Sp),y∈ps->(∀p∈ps,fA A' B' y<=fA A' B' p)->(∀p∈ps,fA A' B' p=fA A' B' y->p=y)->∃e:Tr,Lv e (sT y)=0/\∀p∈ps,p≠y->0<Lv e (sT p):=λA' B' y hy lo ij=>by
  have e:∀p:Sp,Lv (- fA A' B' y,A',B') (sT p)=fA A' B' p - fA A' B' y:=λp=>by unfold Lv sT fA;grind
  refine⟨(- fA A' B' y,A',B'),by rw[e,Int.sub_self],λp hp ne=>?_⟩;rw[e];have:=lo p hp;have:fA A' B' p≠fA A' B' y:=λz=>ne (ij p hp z)
  lia
 have ex0:=ZA A 1 (l.getD 0 (0,0)) (L.mem 0 (QO _)) L.lo λp hp e=>inj p hp _ (L.mem 0 (QO _)) e
 have exM:=ZA (-A) (-1) (u.getD 0 (0,0)) (U.mem 0 (QO _)) U.lo λp hp e=>inj p hp _ (U.mem 0 (QO _)) (by rw[b8,b8]at e;lia)
 have exL:∀i,i<n+1->∃e:Tr,Lv e (sT (l.getD i (0,0)))=0/\∀p∈ps,p≠l.getD i (0,0)->0<Lv e (sT p):=λi hi=>by
  cases i with
  |zero=>exact ex0
  |succ i=>exact VA _ _ _ (L.Nt i (by lia)) (L.Nt (i+1) (by lia)) (L.Rx i (by lia))
 have exU:∀i,i<m+1->∃e:Tr,Lv e (sT (u.getD i (0,0)))=0/\∀p∈ps,p≠u.getD i (0,0)->0<Lv e (sT p):=λi hi=>by
  cases i with
  |zero=>exact exM
  |succ i=>exact VA _ _ _ (U.Nt i (by lia)) (U.Nt (i+1) (by lia)) (U.Rx i (by lia))
 have WL:∀x∈l.dropLast,∃i,i<n+1/\l.getD i (0,0)=x:=λx hx=>by obtain⟨i,hi,e⟩:=ZV.mp hx;rw[Ue,hn]at hi;rw[List.getElem_dropLast]at e;exact⟨i,by lia,by rw[gm (by lia)];exact e⟩
 have WM:∀x∈u.dropLast,∃i,i<m+1/\u.getD i (0,0)=x:=λx hx=>by obtain⟨i,hi,e⟩:=ZV.mp hx;rw[Ue,hm]at hi;rw[List.getElem_dropLast]at e;exact⟨i,by lia,by rw[gm (by lia)];exact e⟩
 have ndl:∀{A B:Int} {w:yat} {k:Nat},w.length=k->Way A B ps k (λi=>w.getD i (0,0))->w.Nodup:=fun {A B w k} hk W=>by
  refine RJ.mpr λi j hi hj NO e=>?_
  have:=W.rise i j NO (by lia);rw[gm hi,gm hj,e]at this
  lia
 refine⟨λy hy=>?_,List.nodup_append.mpr ⟨(ndl hn L).sublist (ZQ _),(ndl hm U).sublist (ZQ _),λx hx y hy TC=>?_⟩⟩
 ·obtain⟨q,hq,rfl⟩:=Ms.mp hy;have:∃e:Tr,Lv e (sT q)=0/\∀p∈ps,p≠q->0<Lv e (sT p):=by
   rcases MC.mp hq with z|z
   ·obtain⟨i,hi,rfl⟩:=WL q z;exact exL i hi
   ·obtain⟨i,hi,rfl⟩:=WM q z;exact exU i hi
  obtain⟨e,h0,hp⟩:=this;refine⟨e,h0,λp pm ne=>?_⟩;obtain⟨r,hr,rfl⟩:=Ms.mp pm;refine hp r ?_ λz=>ne (by rw[z])
  rcases MC.mp hr with z|z
  ·obtain⟨i,hi,rfl⟩:=WL r z;exact L.mem i (by lia)
  ·obtain⟨i,hi,rfl⟩:=WM r z;exact U.mem i (by lia)
 ·obtain⟨i,hi,ei⟩:=WL x hx;obtain⟨j,hj,ej⟩:=WM y hy;rw[<- ei,<- ej]at TC;have r1:=L.rise i (n+1) (by lia) (by lia);have r2:=U.rise j (m+1) (by lia) (by lia)
  try dsimp only at r1 r2
  rw[eM]at r1;rw[e0,b8,b8]at r2;by_cases i0:i=0
  ·subst i0;rw[TC]at r2
   lia
  ·by_cases j0:j=0
   ·subst j0;rw[TC]at r1
    lia
   ·have t1:=oP L (i:=0) (j:=i) (k:=n+1) (by lia) (by lia) (by lia);have t2:=oP U (i:=0) (j:=j) (k:=m+1) (by lia) (by lia) (by lia)
    try dsimp only at t1 t2
    rw[eM,TC]at t1;rw[e0]at t2;obtain⟨e,h0,hp⟩:=exL i hi;rw[TC]at h0 hp;rw[<- TC]at r2;rw[TC]at r1 r2;have p1:=hp _ (L.mem 0 (by lia)) λz=>by
     try dsimp only at z
     rw[<- z]at r2
     lia
    have p2:=hp _ (U.mem 0 (by lia)) λz=>by
     try dsimp only at z
     rw[<- z]at r1
     lia
    try dsimp only at p1 p2
    generalize u.getD j (0,0)=y at *;generalize l.getD 0 (0,0)=a at *;generalize u.getD 0 (0,0)=b at *;have an:cr b y a=- cr a y b:=by rw[bI,bI];grind
    have z:cr a y b=0:=by lia
    have id:(fA A 1 b - fA A 1 a)*Lv e (sT y)=(fA A 1 b - fA A 1 y)*Lv e (sT a)+(fA A 1 y - fA A 1 a)*Lv e (sT b)+(e.2.1 - A*e.2.2)*cr a y b:=by rw[bI];unfold fA Lv sT;grind
    rw[z,h0,Pg,Pg,O1]at id;have x1:=O2 (show 0<fA A 1 b - fA A 1 y by lia) p1;have x2:=O2 (show 0<fA A 1 y - fA A 1 a by lia) p2
    lia
structure Rg(cs:yau):Prop where
 Ol:Pe cs
 nd:cs.Nodup
 ex:So cs
theorem Dh:∀{cs:yau},jB cs->∀{i j k:Nat} (NO:i<j) (SO:j<k) (hk:k<cs.length),0<=L7 (cs[i]'(by lia)) (cs[j]'(by lia)) (cs[k]'hk)
 |[],_,_,_,_,_,_,hk=>absurd hk (by simp)
 |a::r,h,i,j,k,NO,SO,hk=>by
  obtain⟨h1,h2⟩:=h;cases i with
  |zero =>
   obtain⟨j,rfl⟩:∃j',j=j'+1:=⟨j - 1,by lia⟩;obtain⟨k,rfl⟩:∃k',k=k'+1:=⟨k - 1,by lia⟩;exact RJ.mp h1 j k (by simp at hk;lia) (by simp at hk;lia) (by lia)
  |succ i =>
   obtain⟨j,rfl⟩:∃j',j=j'+1:=⟨j - 1,by lia⟩;obtain⟨k,rfl⟩:∃k',k=k'+1:=⟨k - 1,by lia⟩;exact Dh h2 (by lia) (by lia) (by simp at hk;lia)
def Rg.UL(R:Rg cs){i j k:Nat}(NO:i<j)(SO:j<k)(hk:k<cs.length):0<L7 (cs[i]'(by lia)) (cs[j]'(by lia)) (cs[k]'hk):=by
 have h:=Dh R.Ol.p NO SO hk;have ne:∀{a b:Nat} (ha:a<cs.length) (hb:b<cs.length),a<b->cs[a]≠cs[b]:=λha hb Vn=>RJ.mp R.nd _ _ ha hb Vn
 have:=Ar R.ex (Qw (show i<cs.length by lia)) (Qw (show j<cs.length by lia)) (Qw hk) (ne _ _ NO) (ne _ _ (by lia)) (ne _ _ SO)
 lia
def Rg.left(R:Rg cs)(h3:3<=cs.length){k j:Nat}(hk:k<cs.length)(hj:j<cs.length)(n1:j≠k)(n2:j≠(k+1) % cs.length):0<L7 cs[k] (cs[(k+1) % cs.length]'(P9 _ (by lia))) cs[j]:=by
 by_cases c:k+1<cs.length
 ·have e:(k+1) % cs.length=k+1:=Pf c;rw[e]at n2;simp only[e];rcases Nat.lt_or_ge j k with z|z
  ·have:=R.UL z (R3 k) c;rw[bQ]at this;exact this
  ·exact R.UL (R3 k) (by lia) hj
 ·have e:(k+1) % cs.length=0:=by rw[show k+1=cs.length by lia,Nat.mod_self]
  rw[e]at n2;simp only[e];have:=R.UL (i:=0) (j:=j) (k:=k) (by lia) (by lia) hk;rw[bQ,bQ]at this;exact this
def Eb(R:Rg cs)(h3:3<=cs.length):QF cs X↔∀ k (hk:k<cs.length),0<=L7 cs[k] (cs[(k+1) % cs.length]'(P9 _ (by lia))) X:=by
 constructor
 ·intro I k hk;refine I (LR cs[k] (cs[(k+1) % cs.length]'(P9 _ (by lia)))) λp hp=>?_
  obtain⟨j,hj,rfl⟩:=RL hp;show 0<=L7 cs[k] (cs[(k+1) % cs.length]'(P9 _ (by lia))) cs[j];by_cases c1:j=k
  ·subst c1;rw[eX];exact Np _
  ·by_cases c2:j=(k+1) % cs.length
   ·subst c2;rw[eY];exact Np _
   ·exact MT (R.left h3 hk hj c1 c2)
 ·intro e h hh;have e':∀k (hk:k+1<cs.length),0<=L7 (cs[k]'(by lia)) cs[k+1] X:=λk hk=>by
   have:=e k (by lia);simp only[Pf hk]at this;exact this
  have eN:L7 (cs[0]'(by lia)) (cs[cs.length - 1]'(by lia)) X<=0:=by
   have:=e (cs.length - 1) (by lia);simp only[show(cs.length - 1+1) % cs.length=0 by rw[show cs.length - 1+1=cs.length by lia,Nat.mod_self]]at this;have s:=lR (cs[0]'(by lia)) (cs[cs.length - 1]'(by lia)) X
   lia
  have fan:∀n (hn:n+2<cs.length),L7 (cs[0]'(by lia)) (cs[n+2]'hn) X<=0->∃k,∃hk:k+2<cs.length,0<=L7 (cs[0]'(by lia)) (cs[k+1]'(by lia)) X/\L7 (cs[0]'(by lia)) (cs[k+2]'hk) X<=0:=λn=>by
   induction n with
   |zero=>exact λhn q=>⟨0,hn,e' 0 (by lia),q⟩
   |succ n ih =>
    intro hn q;by_cases c:L7 (cs[0]'(by lia)) (cs[n+2]'(by lia)) X<=0
    ·exact ih (by lia) c
    ·exact⟨n+1,hn,MT (O7.mp c),q⟩
  obtain⟨k,hk,q1,q2⟩:=fan (cs.length - 3) (by lia) (by simp only[show cs.length - 3+2=cs.length - 1 by lia];exact eN)
  have q3:=e' (k+1) hk;have D:=R.UL (i:=0) (j:=k+1) (k:=k+2) (by lia) (by lia) hk;have ma:=hh _ (Qw (show 0<cs.length by lia));have mb:=hh _ (Qw (show k+1<cs.length by lia));have mc:=hh _ (Qw hk);generalize (cs[0]'(by lia))=a at q1 q2 D ma;generalize cs[k+1]=b at q1 q3 D mb;generalize cs[k+2]=c at q2 q3 D mc;have id:L7 a b c*Lv h X=L7 b c X*Lv h a+- L7 a c X*Lv h b+L7 a b X*Lv h c:=by unfold L7 Lv LR;grind
  have x1:=M3 q3 ma;have x2:=M3 (show 0<=- L7 a c X by lia) mb;have x3:=M3 q1 mc;exact Sq (show 0<=L7 a b c*Lv h X by lia) D
def VB{cs:yau}{k:Nat}(h:k<cs.length):cs.getD k (0,0,0)=cs[k]:=by rw[OZ,MZ h];rfl
def Rg.ZC(R:Rg cs)(h3:3<=cs.length){k j:Nat}(hk:k<cs.length)(hj:j<cs.length)(n1:j≠k)(n2:j≠(k+1) % cs.length):0<L7 (cs.getD k (0,0,0)) (cs.getD ((k+1) % cs.length) (0,0,0)) (cs.getD j (0,0,0)):=by rw[VB hk,VB (P9 _ (by lia)),VB hj];exact R.left h3 hk hj n1 n2
def wU(R:Rg cs)(h3:3<=cs.length):QF cs X↔∀ k,k<cs.length->0<=L7 (cs.getD ((k+cs.length - 1) % cs.length) (0,0,0)) (cs.getD k (0,0,0)) X:=by
 rw[Eb R h3];constructor
 ·intro e k hk;have lp:(k+cs.length - 1) % cs.length<cs.length:=P9 _ (by lia);have:=e _ lp;have ek:((k+cs.length - 1) % cs.length+1) % cs.length=k:=by
   rw[Nat.mod_add_mod,show k+cs.length - 1+1=k+cs.length by lia,VN,Pf hk]
  simp only[ek]at this;rw[VB lp,VB hk];exact this
 ·intro e k hk;have l1:(k+1) % cs.length<cs.length:=P9 _ (by lia);have:=e _ l1;have ek:((k+1) % cs.length+cs.length - 1) % cs.length=k:=by
   by_cases c:k+1<cs.length
   ·rw[Pf c,show k+1+cs.length - 1=k+cs.length by lia,VN,Pf hk]
   ·rw[show k+1=cs.length by lia,Nat.mod_self,QX,Pf (by lia)]
    lia
  rw[ek,VB hk,VB l1]at this;exact this
def Cf(rs:cF ys ps)(ne:ps ≠ []){X:Tr}(h0:0<X.1)(SR:∀b∈br (aS ys),0<=Lv b X):QF ((aS ys).map sT) X:=by
 have E:=pP rs;have T:=(pQ rs).1;have hn:=kY (nr rs) ne;generalize aS ys=hs at *;unfold br at SR;by_cases c:hs.length<3
 ·rw[Lx c]at SR;intro h hh;rcases hs with _|⟨a,_|⟨b,_|⟨d,r⟩⟩⟩
  ·exact absurd rfl hn
  ·have pa:=hh (sT a) (by simp);have ea:cn a a=(1,0):=Lx rfl;have g1:=SR (aW a (1,0)) (by show _∈bJ a a;unfold bJ;rw[ea];simp);have g2:=SR (aW a (MB (1,0))) (by show _∈bJ a a;unfold bJ;rw[ea];simp);have g3:=SR (aW a (ME (1,0))) (by show _∈bJ a a;unfold bJ;rw[ea];simp);have g4:=SR (aW a (MB (ME (1,0)))) (by show _∈bJ a a;unfold bJ;rw[ea];simp);have k1:Lv (aW a (1,0)) X=X.2.1 - a.1*X.1:=by unfold Lv aW;grind
   have k2:Lv (aW a (MB (1,0))) X=- (X.2.1 - a.1*X.1):=by unfold Lv aW MB;grind
   have k3:Lv (aW a (ME (1,0))) X=X.2.2 - a.2*X.1:=by unfold Lv aW ME;grind
   have k4:Lv (aW a (MB (ME (1,0)))) X=- (X.2.2 - a.2*X.1):=by unfold Lv aW MB ME;grind
   have id:Lv h X=X.1*Lv h (sT a)+h.2.1*(X.2.1 - a.1*X.1)+h.2.2*(X.2.2 - a.2*X.1):=by unfold Lv sT;grind
   rw[id,show X.2.1 - a.1*X.1=0 by omega,show X.2.2 - a.2*X.1=0 by omega,Pg,Pg,O1,O1];exact M3 (MT h0) pa
  ·have pa:=hh (sT a) (by simp);have pb:=hh (sT b) (by simp);have nab:a≠b:=λz=>by have:=E.2;rw[z]at this;simp at this
   have ea:cn a b=sb b a:=by unfold cn sb;rw[Lw nab,RM,RM,RM,RM]
   have nw:sb b a≠(0,0):=λz=>nab (by unfold sb at z;simp only[Rc]at z;exact N2 (by omega) (by omega))
   have g1:=SR (aW a (sb b a)) (by show _∈bJ a b;unfold bJ;rw[ea];simp);have g2:=SR (aW b (MB (sb b a))) (by show _∈bJ a b;unfold bJ;rw[ea];simp);have g3:=SR (aW a (ME (sb b a))) (by show _∈bJ a b;unfold bJ;rw[ea];simp);have g4:=SR (aW a (MB (ME (sb b a)))) (by show _∈bJ a b;unfold bJ;rw[ea];simp);have k4:Lv (aW a (MB (ME (sb b a)))) X=- Lv (aW a (ME (sb b a))) X:=by unfold Lv aW MB;grind
   have id:LB (sb b a) (sb b a)*Lv h X=Lv (aW b (MB (sb b a))) X*Lv h (sT a)+Lv (aW a (sb b a)) X*Lv h (sT b)+Lv (aW a (ME (sb b a))) X*((sb b a).1*h.2.2 - (sb b a).2*h.2.1):=by unfold Lv aW sT sb LB MB ME;grind
   rw[show Lv (aW a (ME (sb b a))) X=0 by omega,QW,O1]at id;have x1:=M3 g2 pa;have x2:=M3 g1 pb;exact Sq (show 0<=LB (sb b a) (sb b a)*Lv h X by omega) (sq_pos nw)
  ·exact absurd c (by simp)
 ·rw[Lw c]at SR;have ln:(hs.map sT).length=hs.length:=LJ _;have gd:∀{k:Nat},k<hs.length->(hs.map sT).getD k (0,0,0)=sT (hs.getD k (0,0)):=fun {k} hk=>by
   rw[OZ,OD,OZ,MZ hk];rfl
  refine(wU ⟨T,VJ.mpr (E.2.imp fun {p q} ne e=>ne (by unfold sT at e;simp only[Rc,true_and]at e;exact N2 e.1 e.2)),E.1⟩ (by omega)).mpr λk hk=>?_
  rw[ln]at hk ⊢;rw[gd hk,gd (P9 _ (by omega))];have:=SR _ (Ms.mpr ⟨k,UZ.mpr ⟨OE _,by omega⟩,rfl⟩);have e:∀p q:Sp,L7 (sT p) (sT q) X=Lv (bS p q) X:=λp q=>by unfold L7 Lv LR sT bS;grind
  rw[e];exact this
theorem BE:∀(gs l:yau),l.Nodup->(bB gs l).Nodup
 |[],_,h=>h
 |g::gs,l,_=>BE gs (cD g l) (by
  unfold cD;cases l.getLast? with
  |none=>exact List.nodup_nil
  |some z=>exact(qN _ _).1)
abbrev gz(ps:List Dt)(zs:yau)(ys:yat)(w:Int):yau:=bB (cZ (bY ps zs) w) ((aS ys).map sT)
structure KW(ps:List Dt)(Gs:yau)(ys:yat):Prop where
 Rh:∀j,Pe (bB (Gs.take j) ((aS ys).map sT))/\(bB (Gs.take j) ((aS ys).map sT)).length<=1000000/\∀p∈bB (Gs.take j) ((aS ys).map sT),Pr p/\CB 40 p
 inc:∀j X,0<X.1->(∀b∈br (aS ys),0<=Lv b X)->(∀g∈Gs.take j,0<=Lv g X)->QF (bB (Gs.take j) ((aS ys).map sT)) X
 ov:∀j,∀g∈Gs.take j,∀y∈bB (Gs.take j) ((aS ys).map sT),0<=Lv g y
 own:∀j d,(∀p∈ps,0<=gd d p)->∀y∈bB (Gs.take j) ((aS ys).map sT),0<=Lv d y
 ne:(aS ys).map sT ≠ []
 bo:∀b∈br (aS ys),∀p∈ps,0<=gd b p
 bv:∀b∈br (aS ys),vc b≠(0,0)
 ex:∀j,So (bB (Gs.take j) ((aS ys).map sT))
 nd:∀j,(bB (Gs.take j) ((aS ys).map sT)).Nodup
def k9(D:gc ps){Gs:yau}(hG:∀g∈Gs,Sm 40 g/\vc g≠(0,0))(lG:Gs.length<=880)(rs:cF ys (ps.map NB)):KW ps Gs ys:=by
 have Xy:ps.map NB ≠ []:=λe=>D.ne (List.map_eq_nil_iff.mp e)
 have VC:=nr rs;have hb:∀p∈ps.map NB,WB 40 p:=λp hp=>by obtain⟨q,hq,rfl⟩:=Ms.mp hp;exact⟨(D.bx q hq).1,(D.bx q hq).2⟩
 have gbB:=Bu (kY VC Xy) (pQ rs).2 (λp hp=>hb p (VC.mem p hp));have lB:(br (aS ys)).length<=44:=by
  have h1:=VC.len;have h2:=Ag (aS ys);rw[LJ]at h1;have:=D.le
  lia
 generalize hA:br (aS ys)++Gs=A;have mA:∀e∈A,Sm 40 e:=λe he=>by
  rw[<- hA]at he;rcases MC.mp he with z|z
  ·exact gbB e z
  ·exact(hG e z).1
 have lA:A.length<=924:=by rw[<- hA,Nz];lia
 let Z:yau:=(aS ys).map sT++A.flatMap λe=>A.map λg=>Rz (LR e g)
 have Zl:Z.length<=1000000:=by
  show((aS ys).map sT++A.flatMap λe=>A.map λg=>Rz (LR e g)).length<=1000000;rw[Nz,LJ];have h1:=VC.len;rw[LJ]at h1;have h2:=D.le;have h3:(A.flatMap λe=>A.map λg=>Rz (LR e g)).length<=924*924:=by
   have go:∀l:yau,(l.flatMap λe=>A.map λg=>Rz (LR e g)).length<=l.length*924:=λl=>by
    induction l with
    |nil=>simp
    |cons a r ih =>
     rw[List.flatMap_cons,Nz,LJ,Qx,Nat.succ_mul]
     lia
   have:=go A;have:A.length*924<=924*924:=Nat.mul_le_mul_right _ lA
   lia
  lia
 have hZ:∀e∈A,∀g∈A,Rz (LR e g)∈Z:=λe he g hg=>Oq _ (Ug.mpr ⟨e,he,Ms.mpr ⟨g,hg,rfl⟩⟩)
 have C0:WI 40 A Z ((aS ys).map sT):=D9 rs Xy hb (λb hb=>by rw[<- hA];exact Qj _ hb) (λp hp=>Qj _ (Ms.mpr ⟨p,hp,rfl⟩)) (by have e:((aS ys).map sT).length=(aS ys).length:=LJ _;show _<=((aS ys).map sT++_).length;rw[Nz,e];exact Nat.le_add_right _ _)
 have run:=λj=>wk mA hZ (Gs.take j) _ (λg hg=>by rw[<- hA];exact Oq _ ((VM j _).subset hg)) C0
 refine⟨λj=>⟨(run j).1.Ol,NM (run j).1.len Zl,λp hp=>⟨(run j).1.pr p hp,(run j).1.cb p hp⟩⟩,λj X h0 hb hg=>(run j).2.1 X (Cf rs Xy h0 hb) hg,λj=>(run j).2.2.1,λj d hd=>(run j).2.2.2 d λp hp=>?_,λe=>kY VC Xy (List.map_eq_nil_iff.mp e),λb hb p hp=>?_,λb hb=>?_,λj=>yW mA hZ (Gs.take j) _ (λg hg=>by rw[<- hA];exact Oq _ ((VM j _).subset hg)) C0 (pP rs).1,λj=>BE _ _ (VJ.mpr ((pP rs).2.imp fun {p q} ne e=>ne (by unfold sT at e;simp only[Rc,true_and]at e;exact N2 e.1 e.2)))⟩
 ·obtain⟨q,qm,rfl⟩:=Ms.mp hp;obtain⟨z,hz,rfl⟩:=Ms.mp (VC.mem q qm);rw[Fw];exact hd z hz
 ·rw[<- Fw];exact x9 VC Xy hb (Ms.mpr ⟨p,hp,rfl⟩)
 ·obtain⟨p,hp⟩:=Bv (kY VC Xy) hb;exact KJ (gbB b hb) hp
def lh(D:gc ps)(hz:cG zs (QS ps))(w:Int):(∀g∈cZ (bY ps zs) w,Sm 40 g/\vc g≠(0,0))/\(cZ (bY ps zs) w).length<=880:=by
 refine⟨λg hg=>?_,?_⟩
 ·rcases((oE hz).mp hg).1 with z|z
  ·exact B9 D g z
  ·have:=B9 D _ z;have:=Ja this.1 this.2;rw[rq]at this;exact this
 ·have h1:=(tG (ps:=ps) (zs:=zs) w).2;have h2:=j7 hz;have h3:=sV D.le
  lia
def Bg{f g:Dt->Bool}{ps:List Dt}(hp:∀p∈ps,0<=p.2.2.2):wq (λp=>f p || g p) ps<=wq f ps+wq g ps:=by
 have e:=nZ (f:=f) (g:=λp=>g p && !f p) (k:=λp=>f p || g p) (ps:=ps) (λp _=>by cases f p<;>cases g p<;>rfl) (λp _ ⟨a,b⟩=>by rw[a]at b;simp at b);have l:=iD (f:=λp=>g p && !f p) (g:=g) hp λp _ z=>(by simp at z;exact z.1)
 lia
def Js(D:gc ps)(hz:cG zs (QS ps))(rs:cF ys (ps.map NB)){l:Int}(l1:1<=l)(l3:3*(l - 1)<aT ps):gz ps zs ys (aT ps - l+1) ≠ []:=λe=>by
 obtain⟨hG,lG⟩:=lh D hz (aT ps - l+1);have R:=k9 D hG lG rs;have hr:∀g∈cZ (bY ps zs) (aT ps - l+1),aT ps - l+1<=wq (λp=>decide (0<=gd g p)) ps:=λg hg=>((oE hz).mp hg).2.2
 have e':bB (cZ (bY ps zs) (aT ps - l+1)) ((aS ys).map sT)=[]:=e;generalize cZ (bY ps zs) (aT ps - l+1)=Gs at *;obtain⟨last,hl,up,dn⟩:=wo R.ne Gs.length (by rw[VP];exact e');have hg:Gs[last]?=some Gs[last]:=MZ hl;obtain⟨Ol,_,cp⟩:=R.Rh last;have neg:∀y∈bB (Gs.take last) ((aS ys).map sT),Lv Gs[last] y<0:=λy hy=>O7.mp λz=>by have i1:=(qI (g:=Gs[last]) Ol λp hp=>(cp p hp).1).1 y (λh hh=>hh y hy) z;rw[DL hg]at dn;exact Cg i1 (cp y hy).1.pos dn
 obtain⟨p,p0,gp,alt⟩:=HW (gs:=br (aS ys)++Gs.take last) (up last (Mw _)) (λy hy=>(cp y hy).1.pos) neg
  (λh hh y hy=>(MC.mp hh).elim (λz=>R.own last h (R.bo h z) y hy) λz=>R.ov last h z y hy)
  (λX h0 hX=>R.inc last X h0 (λb hb=>hX b (Qj _ hb)) λg hg=>hX g (Oq _ hg)) (hG _ (Qw hl)).2
 have hn:=D.nn;have split:=λg=>xV g ps
 have lt:∀g,g∈br (aS ys)++Gs.take last∨g∈Gs->wq (λp=>decide (gd g p<0)) ps<=l - 1:=λg hm=>by
  have ri:g∈Gs->wq (λp=>decide (gd g p<0)) ps<=l - 1:=λz=>by
   have:=hr g z;have:=split g
   lia
  rcases hm with hm|hm
  ·rcases MC.mp hm with z|z
   ·have:wq (λp=>decide (gd g p<0)) ps<=wq (λ_=>false) ps:=iD hn λp hp q=>by
     have:=R.bo g z p hp;have:=OP q
     lia
    rw[Bh]at this
    lia
   ·exact ri ((VM last _).subset z)
  ·exact ri hm
 have gg:=lt Gs[last] (.inr (Qw hl));have RV:∀f:Dt->Bool,(∀p∈ps,f p=true)->aT ps<=wq f ps:=λf hf=>by rw[sD];exact iD hn λp hp _=>hf p hp
 generalize Gs[last]=g at gp alt gg;rcases alt with⟨h,hm,hp,B⟩| ⟨h,hm,k,km,hp,kp,B⟩
 ·have hh:=lt h (.inl hm);obtain⟨B0,B1⟩:=B;have gg0:0<LB (vc g) (vc g):=sq_pos λz=>by rw[z]at B1;unfold LB at B1;simp at B1
  have id:∀d:Dt,p.1*(LB (vc g) (vc g)*gd h d+- LB (vc h) (vc g)*gd g d)=LB (vc g) (vc g)*Lv h p+- LB (vc h) (vc g)*Lv g p:=λd=>by
   have t1:LB (vc g) (vc g)*h.2.1=LB (vc h) (vc g)*g.2.1 - tn (vc h) (vc g)*- g.2.2:=by unfold LB tn vc;grind
   have t2:LB (vc g) (vc g)*h.2.2=LB (vc h) (vc g)*g.2.2 - tn (vc h) (vc g)*g.2.1:=by unfold LB tn vc;grind
   rw[B0,QW,VS]at t1 t2;rw[dG,dG];unfold Lv;grind
  have:=RV (λd=>decide (gd h d<0) || decide (gd g d<0)) λd hd=>by
   have e:=id d;rw[hp,Pg,Xc]at e;have n:=QK (show 0 < - LB (vc h) (vc g)by lia) gp;by_cases c:gd h d<0
   ·rw[NL c];rfl
   ·by_cases c2:gd g d<0
    ·rw[NL c2,Bool.or_true]
    ·have a1:=M3 (MT gg0) (show 0<=gd h d by lia);have a2:=M3 (show 0<=- LB (vc h) (vc g)by lia) (show 0<=gd g d by lia);have:=M3 (MT p0) (show 0<=LB (vc g) (vc g)*gd h d+- LB (vc h) (vc g)*gd g d by lia)
     lia
  have:=Bg (f:=λd=>decide (gd h d<0)) (g:=λd=>decide (gd g d<0)) hn
  lia
 ·have hh:=lt h (.inl hm);have hk:=lt k (.inl km);have pos:∀s t u:Int,0<s->0<t->0<u->s*h.2.1+t*k.2.1+u*g.2.1=0->s*h.2.2+t*k.2.2+u*g.2.2=0->False:=λs t u s0 t0 u0 ea eb=>by
   have:=RV (λd=>decide (gd h d<0) || (decide (gd k d<0) || decide (gd g d<0))) λd hd=>by
    have e:p.1*(s*gd h d+t*gd k d+u*gd g d)=s*Lv h p+t*Lv k p+u*Lv g p:=by rw[dG,dG,dG];unfold Lv;grind
    rw[hp,kp,Pg,Pg,O1,Xc]at e;have n:=QK u0 gp;by_cases c:gd h d<0
    ·rw[NL c];rfl
    ·by_cases c1:gd k d<0
     ·rw[NL c1,Bool.true_or,Bool.or_true]
     ·by_cases c2:gd g d<0
      ·rw[NL c2,Bool.or_true,Bool.or_true]
      ·have a1:=M3 (MT s0) (show 0<=gd h d by lia);have a2:=M3 (MT t0) (show 0<=gd k d by lia);have a3:=M3 (MT u0) (show 0<=gd g d by lia);have:=M3 (MT p0) (show 0<=s*gd h d+t*gd k d+u*gd g d by lia)
       lia
   have x1:=Bg (f:=λd=>decide (gd h d<0)) (g:=λd=>decide (gd k d<0) || decide (gd g d<0)) hn;have x2:=Bg (f:=λd=>decide (gd k d<0)) (g:=λd=>decide (gd g d<0)) hn
   lia
  have sa:tn (vc k) (vc g)*h.2.1+tn (vc g) (vc h)*k.2.1+tn (vc h) (vc k)*g.2.1=0:=by unfold tn vc;grind
  have sb:tn (vc k) (vc g)*h.2.2+tn (vc g) (vc h)*k.2.2+tn (vc h) (vc k)*g.2.2=0:=by unfold tn vc;grind
  rcases B with⟨a,b,c⟩| ⟨a,b,c⟩
  ·exact pos _ _ _ a b c sa sb
  ·exact pos (- tn (vc k) (vc g)) (- tn (vc g) (vc h)) (- tn (vc h) (vc k)) (by lia) (by lia) (by lia) (by rw[O3,O3,O3];lia) (by rw[O3,O3,O3];lia)
theorem xu(g:Tr):∀ps:List Dt,Om g ps=wq (λp=>decide (0<=gd g p)) ps
 |[]=>rfl
 |p::r=>by
  have ih:=xu g r;unfold Om at ih ⊢;unfold wq;rw[MR,S1,ih];by_cases c:0<=gv g.1 g.2.1 g.2.2 p
  ·rw[Lx c,Lx (NL (show 0<=gd g p from c))]
  ·rw[Lw c,Lw (by rw[decide_eq_true_eq];exact c)]
def Cj(h:Tr)(ps:List Dt):∃g,IsL h ps g:=by
 by_cases c:M5 h ps=[]
 ·exact⟨_,.inl ⟨c,rfl⟩⟩
 ·have fst:∀(f:Wy->Int) (l:List Wy),l ≠ []->∃(i:Nat) (w:Wy),l[i]?=some w/\∀(j:Nat) (v:Wy),l[j]?=some v->f w<=f v/\(j<i->f w<f v):=λf l=>by
   induction l with
   |nil=>exact λz=>absurd rfl z
   |cons a r ih =>
    intro _;by_cases cr:r=[]
    ·subst cr;refine⟨0,a,rfl,λj v e=>?_⟩;cases j with
     |zero=>cases e;exact⟨Np _,λz=>absurd z (by lia)⟩
     |succ j=>cases e
    ·obtain⟨i,w,e,mn⟩:=ih cr;by_cases ca:f a<=f w
     ·refine⟨0,a,rfl,λj v e=>?_⟩;cases j with
      |zero=>cases e;exact⟨Np _,λz=>absurd z (by lia)⟩
      |succ j=>exact⟨Xb ca (mn j v e).1,λz=>absurd z (by lia)⟩
     ·refine⟨i+1,w,e,λj v e=>?_⟩;cases j with
      |zero=>cases e;exact⟨by lia,λ_=>by lia⟩
      |succ j=>exact⟨(mn j v e).1,λz=>(mn j v e).2 (by lia)⟩
  obtain⟨i,w,e,mn⟩:=fst (λv=>Om (RA h (QR v (M5 h ps))) ps) _ c;exact⟨_,.inr ⟨i,w,e,rfl,mn⟩⟩
def FY(D:gc ps):0<aT ps:=by
 have nn:=D.nn;have w:=D.w;have ne:=D.ne;rw[sD];cases ps with
 |nil=>exact absurd rfl ne
 |cons p r =>
  have h1:=w p (by simp);have h2:=KL (f:=λ_=>true) (ps:=r) λq hq=>nn q (MO _ hq)
  unfold wq;rw[Lx rfl]
  lia
def ZD(a b:Tr):Int:=rk a.1 a.2.1 a.2.2 b.1 b.2.1 b.2.2
def stI(cs:yau)(f k:Nat):Nat:=if ZD (cs.getD k (0,0,0)) (cs.getD f (0,0,0))<0 then k else f
def ldI(cs:yau)(n:Nat):Nat:=(List.range' 0 n).foldl (stI cs) 0
def dH(cs:yau):yau:=cs.drop (ldI cs cs.length)++cs.take (ldI cs cs.length)
def Av(cs:yau)(n:Nat):ldI cs (n+1)=stI cs (ldI cs n) n:=by unfold ldI;rw[List.range'_concat,List.foldl_append];simp
theorem k6(cs:yau):∀n,ldI cs n<=n/\(0<n->ldI cs n<n)
 |0=>⟨Mw _,λz=>absurd z (by lia)⟩
 |n+1=>by
  have:=k6 cs n;rw[Av];unfold stI;split
  ·lia
  ·have:=this.1
   lia
def jx{x:Tr}:x∈dH cs↔x∈cs:=by unfold dH;rw[MC,Or.comm,<- MC,Qh]
def sQ(cs:yau):(dH cs).length=cs.length:=by have:=(k6 cs cs.length).1;unfold dH;rw[Nz,Qy,P8];omega
def jH{α:Type}{wi:DA}{g:DG}{tb:DS}{E:j3}(xs:List α)(f:α->D)(Pv:List α->Ro->Prop)(hw:∀R:yas->Prop,R (xs.map f)->wi ρ R)(p0:Pv [] ρ)
  (turn:∀(done:List α) (x:α) (Ly:Ro),x∈xs->done.length<xs.length->Pv done Ly->∀K:Ro->Prop,(∀Ly,Pv (done++[x]) Ly->K Ly)->g (f x) Ly λNP=>tb {E with nx:=K,ct:=K,bk:=E.nx} NP) (fin:∀Ly,Pv xs Ly->E.nx Ly):pM wi g tb E ρ :=
 PD.oq xs f Pv hw p0 (λdone x Ly hx hl hp=>turn done x Ly hx hl hp _ λ_ h=>h) fin
def dD{α:Type}{wi:DA}{g:DG}{tb:DS}{E:j3}(xs:List α)(f:α->D)(Pv:Nat->Ro->Prop)(hw:∀R:yas->Prop,R (xs.map f)->wi ρ R)(p0:Pv 0 ρ)
  (turn:∀(j:Nat) (x:α) (Ly:Ro),xs[j]?=some x->Pv j Ly->∀K:Ro->Prop,(∀Ly,Pv (j+1) Ly->K Ly)->g (f x) Ly λNP=>tb {E with nx:=K,ct:=K,bk:=E.nx} NP) (fin:∀Ly,Pv xs.length Ly->E.nx Ly):pM wi g tb E ρ :=
 PD.jG xs f Pv hw p0 (λj x Ly hx hp=>turn j x Ly hx hp _ λ_ h=>h) fin
def Gm{α:Type}{wi:DA}{P:List α->Prop}(f:α->D)(hw:∀R:yas->Prop,(∀ys,P ys->R (ys.map f))->wi ρ R)(h:∀ys,P ys->pM (λ_ R=>R (ys.map f)) g tb E ρ):pM wi g tb E ρ:=hw _ λys hy=>h ys hy
def BJ(xs:yas){k:Nat}(h:k<=xs.length):PD.cutD xs (some (k:Int)) none=xs.drop k:=by unfold PD.cutD;have e1:HT.Oj xs.length 0 (some (k:Int))=min k xs.length:=HT.lx _ _ k;have e2:HT.Oj xs.length xs.length none=xs.length:=rfl;rw[e1,e2,R4 h];exact Rk (by rw[Qy];lia)
def Ij(xs:yas){k:Nat}(h:k<=xs.length):PD.cutD xs none (some (k:Int))=xs.take k:=by unfold PD.cutD;have e1:HT.Oj xs.length 0 none=0:=rfl;have e2:HT.Oj xs.length xs.length (some (k:Int))=min k xs.length:=HT.lx _ _ k;rw[e1,e2,R4 h];rfl
theorem xv{α:Type}{R:α->α->Prop}(irr:∀a,¬R a a)(asy:∀a b,R a b->¬R b a):∀(xs ys:List α),xs.Pairwise R->ys.Pairwise R->(∀p,p∈xs↔p∈ys)->xs=ys
 |[],[],_,_,_=>rfl
 |[],y::_,_,_,h=>absurd ((h y).mpr O0) (by simp)
 |x::_,[],_,_,h=>absurd ((h x).mp O0) (by simp)
 |x::xs,y::ys,ox,oy,h=>by
  obtain⟨x1,x2⟩:=P7.mp ox;obtain⟨y1,y2⟩:=P7.mp oy;have TC:x=y:=by
   rcases L9.mp ((h x).mp O0)with e|e
   ·exact e
   ·rcases L9.mp ((h y).mpr O0)with e'|e'
    ·exact e'.symm
    ·exact absurd (x1 y e') (asy _ _ (y1 x e))
  subst TC;rw[xv irr asy xs ys x2 y2 λp=>⟨λhp=>?_,λhp=>?_⟩]
  ·rcases L9.mp ((h p).mp (MO _ hp))with e|e
   ·have:=x1 p hp;rw[e]at this;exact absurd this (irr x)
   ·exact e
  ·rcases L9.mp ((h p).mpr (MO _ hp))with e|e
   ·have:=y1 p hp;rw[e]at this;exact absurd this (irr x)
   ·exact e
def CY(hx:cG xs L)(hy:cG ys L):xs=ys:=xv (λ_=>by unfold sS;omega) (λ_ _=>by unfold sS;omega) _ _ hx.1 hy.1 λp=>(hx.2 p).trans (hy.2 p).symm
def CZ(hx:cF xs L)(hy:cF ys L):xs=ys:=xv (λ_=>by lia) (λ_ _=>by lia) _ _ hx.1 hy.1 λp=>(hx.2 p).trans (hy.2 p).symm
def nR{s4:DS}{ρ:Ro}(P:Ro->Prop)(h2:∀Ly,P Ly->s4 E Ly)(h1:∀K:Ro->Prop,(∀Ly,P Ly->K Ly)->kx s1 (kx s2 s3) {E with nx:=K} ρ):kx s1 (kx s2 (kx s3 s4)) E ρ:=h1 _ h2
def GC{h:Tr}{ps:List Dt}(hh:0<h.1)(hw:∀p∈ps,0<=p.2.2.2)(a:IsL h ps g)(on:Lv d h=0)(vd:vc d≠(0,0)):Om g ps<=Om d ps:=by
 have ed:∀p:Dt,h.1*gd d p=tn (d.2.2,-d.2.1) (L5 h p):=λp=>by
  have e:h.1*gd d p=tn (d.2.2,-d.2.1) (L5 h p)+Lv d h:=by rw[dG];unfold tn L5 Lv;grind
  rw[e,on,O1]
 generalize ht:((d.2.2,-d.2.1):Sp)=t at ed;have tne:t≠(0,0):=λz=>vd (by rw[<- ht]at z;have z1:=congrArg Prod.fst z;have z2:=congrArg Prod.snd z;dsimp only at z1 z2;unfold vc;rw[z1,show d.2.1=0 by lia])
 have sgn:∀p:Dt,0<=tn t (L5 h p)->0<=gd d p:=λp q=>by rw[<- ed]at q;exact QZ.mp λz=>by have:=QK hh z;lia
 have t00:tn t (0,0)=0:=by unfold tn;simp
 have key:∀w∈M5 h ps,(∀p∈ps,(0<tn w (L5 h p)->0<=tn t (L5 h p))/\(tn w (L5 h p)=0->LB w (L5 h p)<0->0<=tn t (L5 h p)))->Om g ps<=Om d ps:=λw hm hs=>by
  have le:Om g ps<=Om (RA h (QR w (M5 h ps))) ps:=by
   rcases a with⟨z,_⟩| ⟨i,v,a1,a2,a3⟩
   ·rw[z]at hm;cases hm
   ·obtain⟨j,hj,ej⟩:=RL hm;exact(a3 j w (by rw[MZ hj,ej])).1
  refine Xb le ?_;unfold Om;refine AR hw λp hp q=>?_
  rw[Fy]at q;have q':0<=tn (QR w (M5 h ps)) (L5 h p):=QZ.mp λz=>by have:=QK hh z;lia
  rcases(B7 hm hp).mp q' with z|z|⟨z1,z2⟩
  ·exact sgn p (by rw[z,t00];exact Np _)
  ·exact sgn p ((hs p hp).1 z)
  ·exact sgn p ((hs p hp).2 z1 z2)
 have bw:∀v∈M5 h ps,MB v∈M5 h ps:=λv hv=>va hv
 by_cases c0:M5 h ps=[]
 ·have z0:∀p∈ps,L5 h p=(0,0):=λp hp=>by
   by_cases z:L5 h p=(0,0)
   ·exact z
   ·have:=(lJ hp z).1;rw[c0]at this;cases this
  unfold Om;exact AR hw λp hp _=>sgn p (by rw[z0 p hp,t00];exact Np _)
 ·by_cases c1:∃w∈M5 h ps,tn t w=0
  ·obtain⟨w,hm,t0⟩:=c1;have wn:=eR hm;have fin:∀v∈M5 h ps,tn t v=0->0<LB t v->Om g ps<=Om d ps:=λv hv tv pv=>by
    have e:∀x:Sp,LB t t*tn v x=LB t v*tn t x:=λx=>by
     have:LB t t*tn v x=LB t v*tn t x - tn t v*LB t x:=by unfold LB tn;grind
     rw[this,tv,QW,VS]
    refine key v hv λp _=>⟨λz=>?_,λz _=>?_⟩
    ·have:=O2 (sq_pos tne) z;rw[e]at this;exact MT (Int.pos_of_mul_pos_right this pv)
    ·have:=e (L5 h p);rw[z,Pg]at this;rcases PT.mp this.symm with y|y
     ·lia
     ·lia
   have dz:LB t w≠0:=λz=>by
    have e:LB t t*LB w w=LB t w*LB t w+tn t w*tn t w:=by unfold LB tn;grind
    rw[z,t0,Pg]at e;have:=O2 (sq_pos tne) (sq_pos wn)
    lia
   by_cases c2:0<LB t w
   ·exact fin w hm t0 c2
   ·refine fin (MB w) (bw w hm) ?_ ?_
    ·have:tn t (MB w)=- tn t w:=by unfold tn MB;grind
     rw[this,t0];rfl
    ·have:LB t (MB w)=- LB t w:=by unfold LB MB;grind
     lia
  ·have np:∀w∈M5 h ps,tn t w≠0:=λw hm z=>c1 ⟨w,hm,z⟩
   obtain⟨v,hv⟩:=List.exists_mem_of_ne_nil _ c0;obtain⟨w,hm,wr,ws⟩:=uh t (M5 h ps) (by
    have:=np v hv;by_cases c:tn t v<0
    ·exact⟨v,hv,c⟩
    ·refine⟨MB v,bw v hv,?_⟩;have:tn t (MB v)=- tn t v:=by unfold tn MB;grind
     lia)
   refine key w hm λp hp=>⟨λz=>QZ.mp λy=>?_,λz1 z2=>QZ.mp λy=>?_⟩
   ·have an:L5 h p≠(0,0):=λe=>by rw[e,t00]at y;lia
    have:=ws _ (lJ hp an).1 y
    lia
   ·have e:LB w w*tn t (L5 h p)=LB w (L5 h p)*tn t w+tn w (L5 h p)*LB w t:=by unfold LB tn;grind
    rw[z1,QW,O1]at e;have x1:=Ua z2 wr;have x2:=QK (sq_pos (eR hm)) y
    lia
def DY(D:gc ps)(hz:cG zs (QS ps))(rs:cF ys (ps.map NB)){l:Int}(l1:1<=l)(ll:l<=aT ps){X:Tr}(hX:0<X.1)(hg:IsL X ps g):l<=Om g ps↔QF (gz ps zs ys (aT ps - l+1)) X:=by
 obtain⟨hG,lG⟩:=lh D hz (aT ps - l+1);have R:=k9 D hG lG rs;have inc:=R.inc (cZ (bY ps zs) (aT ps - l+1)).length;have ov:=R.ov (cZ (bY ps zs) (aT ps - l+1)).length;have own:=R.own (cZ (bY ps zs) (aT ps - l+1)).length;rw[VP]at inc ov own;have split:=λg=>xV g ps
 constructor
 ·intro dp;have out:∀r:Tr,vc r≠(0,0)->aT ps - l+1<=wq (λp=>decide (0<=gd r p)) ps->0<=Lv r X:=λr rn RP=>QZ.mp λz=>by
   have m:=GC (d:=(Lv r X - X.1*r.1,- (X.1*r.2.1),- (X.1*r.2.2))) hX D.nn hg (by
    have e:∀k:Int,Lv (k - X.1*r.1,- (X.1*r.2.1),- (X.1*r.2.2)) X=k*X.1 - X.1*Lv r X:=λk=>by unfold Lv;grind
    rw[e,M4,Int.sub_self]) (λe=>rn (by
    have e1:=congrArg Prod.fst e;have e2:=congrArg Prod.snd e;unfold vc at e1 e2;dsimp only at e1 e2;have f1:=(PT.mp (show X.1*r.2.1=0 by lia)).resolve_left (by lia);have f2:=(PT.mp (show X.1*r.2.2=0 by lia)).resolve_left (by lia);unfold vc;rw[f1,f2]))
   have le:Om (Lv r X - X.1*r.1,- (X.1*r.2.1),- (X.1*r.2.2)) ps<=wq (λp=>decide (gd r p<0)) ps:=by
    rw[xu];refine iD D.nn λp _ q=>NL ?_
    have q':=OP q;have e:gd (Lv r X - X.1*r.1,- (X.1*r.2.1),- (X.1*r.2.2)) p=Lv r X - X.1*gd r p:=by rw[dG,dG];dsimp only;grind
    rw[e]at q';exact O7.mp λy=>by have:=M3 (MT hX) y;lia
   have:=split r
   lia
  refine inc X hX (λb hb=>?_) λr hr=>?_
  ·refine out b (R.bv b hb) ?_;rw[<- split b];have z0:wq (λp=>decide (gd b p<0)) ps<=0:=by
    have:=iD (f:=λp=>decide (gd b p<0)) (g:=λ_=>false) D.nn λp hp q=>by
     have:=R.bo b hb p hp;have:=OP q
     lia
    rw[Bh]at this;exact this
   lia
  ·exact out r (hG r hr).2 ((oE hz).mp hr).2.2
 ·intro I;refine QZ.mp λlt=>?_
  have e:=split g;rw[<- xu]at e;obtain⟨r,m,k1,k2,ko⟩:=JR D.nn (F0 D) (g:=g) (h:=X) (w:=aT ps - l+1) (λz=>IsL.ne hX hg ⟨congrArg Prod.fst z,congrArg Prod.snd z⟩) hX (hg.on) (by lia) (by lia);have:=I r λy hy=>ov r ((oE hz).mpr ⟨m,k1,k2⟩) y hy
  lia
def PL(a b:Tr):Prop:=a.2.1*b.1<b.2.1*a.1∨(a.2.1*b.1=b.2.1*a.1/\a.2.2*b.1<b.2.2*a.1)
def FF(a b:Tr):ZD a b<0↔PL a b:=by
 have m:∀x:Int,sg x<0↔x<0:=λx=>by unfold sg;split<;>(try split)<;>lia
 unfold ZD rk PL;by_cases c:sg (a.2.1*b.1 - b.2.1*a.1)=0
 ·rw[Lx c,m];rw[lC]at c
  lia
 ·rw[Lw c,m];rw[lC]at c
  lia
def Cw{a b c:Tr}(ha:0<a.1)(hb:0<b.1)(hc:0<c.1)(h1:PL a b)(h2:PL b c):PL a c:=by
 have step:∀{x y z p q r:Int},0<p->0<q->0<r->x*q<=y*p->y*r<=z*q->x*r<=z*p/\(x*q<y*p∨y*r<z*q->x*r<z*p)/\(x*q=y*p->y*r=z*q->x*r=z*p):=fun {x y z p q r} hp hq hr e1 e2=>by
  have f1:=ZK e1 (MT hr);have f2:=ZK e2 (MT hp);have k1:x*q*r=(x*r)*q:=by grind
  have k2:y*p*r=y*r*p:=by grind
  have k3:z*q*p=(z*p)*q:=by grind
  refine⟨?_,λo=>?_,λg1 g2=>?_⟩
  ·exact Int.le_of_mul_le_mul_right (show(x*r)*q<=(z*p)*q by lia) hq
  ·refine Int.lt_of_mul_lt_mul_right (show(x*r)*q<(z*p)*q from ?_) (MT hq);rcases o with o|o
   ·have:=Int.mul_lt_mul_of_pos_right o hr;lia
   ·have:=Int.mul_lt_mul_of_pos_right o hp;lia
  ·refine XB (show q≠0 by lia) ?_;rw[<- k1,g1,k2,g2,k3]
 unfold PL at *;have X:=step (x:=a.2.1) (y:=b.2.1) (z:=c.2.1) ha hb hc (by lia) (by lia);by_cases e1:a.2.1*b.1=b.2.1*a.1
 ·by_cases e2:b.2.1*c.1=c.2.1*b.1
  ·right
   have Y:=step (x:=a.2.2) (y:=b.2.2) (z:=c.2.2) ha hb hc (by lia) (by lia);exact⟨X.2.2 e1 e2,Y.2.1 (by lia)⟩
  ·left;exact X.2.1 (by lia)
 ·left;exact X.2.1 (by lia)
def Jq(a:Tr):¬PL a a:=by unfold PL;lia
def Jr(ha:Pr a)(hb:Pr b)(n:¬PL b a)(ne:a≠b):PL a b:=by
 unfold PL at *;by_cases c:a.2.1*b.1=b.2.1*a.1
 ·by_cases d:a.2.2*b.1=b.2.2*a.1
  ·exfalso;apply ne;refine jD ha hb ?_;have pa:=ha.pos;have pb:=hb.pos;have k:(a.2.1*b.2.2 - a.2.2*b.2.1)*a.1=0:=by
    have:(a.2.1*b.2.2 - a.2.2*b.2.1)*a.1=a.2.1*(b.2.2*a.1) - a.2.2*(b.2.1*a.1):=by grind
    rw[this,<- c,<- d];grind
   have k0:=(PT.mp k).resolve_right (by omega);unfold LR;rw[k0];refine N2 rfl (N2 ?_ ?_)
   ·show a.2.2*b.1 - a.1*b.2.2=0;rw[d,M4 a.1];omega
   ·show a.1*b.2.1 - a.2.1*b.1=0;rw[c,M4 a.1];omega
  ·right;exact⟨c,by omega⟩
 ·left;omega
structure Ring(cs:yau):Prop where
 rg:Rg cs
 pr:∀p∈cs,Pr p
 cb:∀p∈cs,CB 40 p
 len:cs.length<=1000000
 fst:∀a r,cs=a::r->∀x∈r,PL a x
def HC{A B:yau}(h:Pe (A++B)):Pe (B++A):=λx y z s=>by
 obtain⟨s1,s2,e,h1,h2⟩:=List.sublist_append_iff.mp s;have go:=ZX h2 h1;rcases s1 with _|⟨a,_|⟨b,_|⟨c,r⟩⟩⟩
 ·rw[PR]at e;rw[<- e,QM]at go;exact h x y z go
 ·rw[List.singleton_append,PQ]at e;obtain⟨rfl,rfl⟩:=e;rw[bQ];exact h y z x go
 ·rw[O5,List.singleton_append,PQ,PQ]at e;obtain⟨rfl,rfl,rfl⟩:=e;rw[bQ,bQ];exact h z x y go
 ·simp only[O5,PQ]at e;obtain⟨rfl,rfl,rfl,e⟩:=e;have e':=List.append_eq_nil_iff.mp e.symm;rw[e'.1,e'.2,PR]at go;exact h x y z go
theorem zt{cs:yau}(pos:∀p∈cs,0<p.1):∀n,n<=cs.length->∀k,k<n->¬PL (cs.getD k (0,0,0)) (cs.getD (ldI cs n) (0,0,0))
 |0,_,k,hk=>absurd hk (by lia)
 |n+1,hn,k,hk=>by
  have mem:∀{i:Nat},i<cs.length->0<(cs.getD i (0,0,0)).1:=fun {i} hi=>pos _ (by rw[OZ,MZ hi];exact Qw _)
  have ih:=zt pos n (by lia);have li:=k6 cs n;rw[Av];unfold stI;by_cases c:ZD (cs.getD n (0,0,0)) (cs.getD (ldI cs n) (0,0,0))<0
  ·rw[Lx c];rw[FF]at c;rcases XR (XS hk)with z|z
   ·exact λq=>ih k z (Cw (mem (by lia)) (mem (by lia)) (mem (by lia)) q c)
   ·rw[z];exact Jq _
  ·rw[Lw c];rw[FF]at c;rcases XR (XS hk)with z|z
   ·exact ih k z
   ·rw[z];exact c
def EN(Ol:Pe cs)(nd:cs.Nodup)(ex:So cs)(pr:∀p∈cs,Pr p)(cb:∀p∈cs,CB 40 p)(len:cs.length<=1000000):Ring (dH cs):=by
 have nd':(dH cs).Nodup:=by unfold dH;exact(List.perm_append_comm.nodup_iff).mp (by rw[Qh];exact nd)
 refine⟨⟨?_,nd',ex.sub λx hx=>jx.mp hx⟩,λp hp=>pr p (jx.mp hp),λp hp=>cb p (jx.mp hp),by rw[sQ];exact len,λa r e x hx=>?_⟩
 ·unfold dH;exact HC (by rw[Qh];exact Ol)
 ·have am:a∈cs:=jx.mp (by rw[e];simp);have xm:x∈cs:=jx.mp (by rw[e];exact MO _ hx);have ne:a≠x:=λz=>by
   rw[e]at nd';exact(SY.mp nd').1 (z ▸ hx)
  refine Jr (pr a am) (pr x xm) (λq=>?_) ne;obtain⟨k,hk,ek⟩:=RL xm;have li:=(k6 cs cs.length).2 (by lia);have mn:=zt (λp hp=>(pr p hp).pos) cs.length (Mw _) k hk;have ea:cs.getD (ldI cs cs.length) (0,0,0)=a:=by
   have:(dH cs)[0]?=some a:=by rw[e];rfl
   unfold dH at this;rw[QT (by rw[Qy];lia),VG,Nat.add_zero]at this;rw[OZ,this];rfl
  rw[ea,OZ,MZ hk,ek]at mn;exact mn q
def zo{l:yau}{a:Tr}(h:a∈l):QF l a:=λ_ hp=>hp a h
def Gy(pa:Pr a)(pX:Pr X):QF [a] X↔a=X:=by
 constructor
 ·intro I;have z:∀d:Tr,Lv d a=0->Lv d X=0:=λd e=>by
   have h1:=I d λp hp=>by rw[NI.mp hp,e];exact Np _
   have h2:=I (OG d) λp hp=>by rw[NI.mp hp,qY,e];exact Np _
   rw[qY]at h2
   lia
  refine jD pa pX ?_;have e1:=z (0,- a.2.2,a.2.1) (by unfold Lv;grind);have e2:=z (a.2.2,0,- a.1) (by unfold Lv;grind);have e3:=z (- a.2.1,a.1,0) (by unfold Lv;grind);unfold Lv at e1 e2 e3;dsimp only at e1 e2 e3;unfold LR;refine N2 ?_ (N2 ?_ ?_)<;>dsimp only<;>grind
 ·rintro rfl;exact zo (by simp)
def Gz{a b X:Tr}(ha:0<a.1)(hb:0<b.1)(hX:0<X.1)(lt:PL a b):QF [a,b] X↔L7 a b X=0/\¬PL X a/\¬PL b X:=by
 have two:∀d:Tr,0<=Lv d a->0<=Lv d b->∀p ∈ [a,b],0<=Lv d p:=λd h1 h2 p hp=>by
  simp only[L9,QV,or_false]at hp;rcases hp with rfl|rfl
  ·exact h1
  ·exact h2
 have cx:∀h:Tr,(a.1*b.2.1 - a.2.1*b.1)*Lv h X=(X.1*b.2.1 - X.2.1*b.1)*Lv h a+(a.1*X.2.1 - a.2.1*X.1)*Lv h b+h.2.2*L7 a b X:=λh=>by unfold L7 Lv LR;grind
 have cy:∀h:Tr,(a.1*b.2.2 - a.2.2*b.1)*Lv h X=(X.1*b.2.2 - X.2.2*b.1)*Lv h a+(a.1*X.2.2 - a.2.2*X.1)*Lv h b - h.2.1*L7 a b X:=λh=>by unfold L7 Lv LR;grind
 constructor
 ·intro I;have d0:L7 a b X=0:=by
   have h1:=I (LR a b) (two _ (by rw[show Lv (LR a b) a=0 from eX a b];exact Np _) (by rw[show Lv (LR a b) b=0 from eY a b];exact Np _));have h2:=I (OG (LR a b)) (two _ (by rw[qY,show Lv (LR a b) a=0 from eX a b];exact Np _) (by rw[qY,show Lv (LR a b) b=0 from eY a b];exact Np _));rw[qY]at h2;have:L7 a b X=Lv (LR a b) X:=rfl;omega
  have xa:∀p:Tr,Lv (- a.2.1,a.1,0) p=a.1*p.2.1 - a.2.1*p.1:=λp=>by unfold Lv;grind
  have xb:∀p:Tr,Lv (b.2.1,- b.1,0) p=p.1*b.2.1 - p.2.1*b.1:=λp=>by unfold Lv;grind
  have ya:∀p:Tr,Lv (- a.2.2,0,a.1) p=a.1*p.2.2 - a.2.2*p.1:=λp=>by unfold Lv;grind
  have yb:∀p:Tr,Lv (b.2.2,0,- b.1) p=p.1*b.2.2 - p.2.2*b.1:=λp=>by unfold Lv;grind
  unfold PL at lt;have c1:=M4 a.1 b.2.1;have c2:=M4 a.1 b.2.2;have c3:=M4 a.1 X.2.1;have c4:=M4 a.1 X.2.2;have c5:=M4 X.1 b.2.1;have c6:=M4 X.1 b.2.2;have c7:=M4 a.1 a.2.1;have c8:=M4 a.1 a.2.2;have c9:=M4 b.1 b.2.1;have c10:=M4 b.1 b.2.2;have s0:0<=X.1*b.2.1 - X.2.1*b.1:=by rw[<- xb];exact I _ (two _ (by rw[xb];omega) (by rw[xb];omega))
  have t0:0<=a.1*X.2.1 - a.2.1*X.1:=by rw[<- xa];exact I _ (two _ (by rw[xa];omega) (by rw[xa];omega))
  refine⟨d0,λq=>?_,λq=>?_⟩
  ·unfold PL at q;have e:a.1*X.2.1 - a.2.1*X.1=0:=by omega
   have q2:a.1*X.2.2 - a.2.2*X.1<0:=by omega
   rcases lt with l|⟨l1,l2⟩
   ·have k:=cx (- a.2.2,0,a.1);rw[ya,ya,e,d0,QW,Pg]at k;have za:a.1*a.2.2 - a.2.2*a.1=0:=by omega
    rw[za,Pg]at k;have:=QK (show 0<a.1*b.2.1 - a.2.1*b.1 by omega) q2;omega
   ·have:=I (- a.2.2,0,a.1) (two _ (by rw[ya];omega) (by rw[ya];omega));rw[ya]at this;omega
  ·unfold PL at q;have e:X.1*b.2.1 - X.2.1*b.1=0:=by omega
   have q2:X.1*b.2.2 - X.2.2*b.1<0:=by omega
   rcases lt with l|⟨l1,l2⟩
   ·have k:=cx (b.2.2,0,- b.1);rw[yb,yb,e,d0,QW,Pg]at k;have zb:Lv (b.2.2,0,- b.1) b=0:=by rw[yb];omega
    rw[zb,Pg]at k;have:=QK (show 0<a.1*b.2.1 - a.2.1*b.1 by omega) q2;omega
   ·have:=I (b.2.2,0,- b.1) (two _ (by rw[yb];omega) (by rw[yb];omega));rw[yb]at this;omega
 ·rintro⟨d0,n1,n2⟩ h hh;have h1:=hh a (by simp);have h2:=hh b (by simp);have c1:=M4 a.1 b.2.1;have c2:=M4 a.1 b.2.2;have c3:=M4 a.1 X.2.1;have c4:=M4 a.1 X.2.2;have c5:=M4 X.1 b.2.1;have c6:=M4 X.1 b.2.2;unfold PL at lt n1 n2;rcases lt with l|⟨l1,l2⟩
  ·have k:=cx h;rw[d0,Pg,O1]at k;have x1:=M3 (show 0<=X.1*b.2.1 - X.2.1*b.1 by omega) h1;have x2:=M3 (show 0<=a.1*X.2.1 - a.2.1*X.1 by omega) h2;exact Sq (show 0<=(a.1*b.2.1 - a.2.1*b.1)*Lv h X by omega) (by omega)
  ·have ex:a.2.1*X.1=X.2.1*a.1/\X.2.1*b.1=b.2.1*X.1:=by
    have u1:X.2.1*a.1≥a.2.1*X.1:=by omega
    have u2:X.2.1*b.1<=b.2.1*X.1:=by omega
    have v1:=ZK u1 (MT hb);have v2:=ZK u2 (MT ha);have w1:a.2.1*X.1*b.1=b.2.1*X.1*a.1:=by
     have:a.2.1*X.1*b.1=a.2.1*b.1*X.1:=by grind
     rw[this,l1];grind
    have w2:X.2.1*a.1*b.1=X.2.1*b.1*a.1:=by grind
    have y1:a.2.1*X.1*b.1=X.2.1*a.1*b.1:=by omega
    have y2:X.2.1*b.1*a.1=b.2.1*X.1*a.1:=by omega
    exact⟨XB (Int.ne_of_gt hb) y1,XB (Int.ne_of_gt ha) y2⟩
   have k:=cy h;rw[d0,Pg,VS]at k;have x1:=M3 (show 0<=X.1*b.2.2 - X.2.2*b.1 by omega) h1;have x2:=M3 (show 0<=a.1*X.2.2 - a.2.2*X.1 by omega) h2;exact Sq (show 0<=(a.1*b.2.2 - a.2.2*b.1)*Lv h X by omega) (by omega)
def ZE{cs:yau}{k:Nat}(h:k<cs.length):NY (cs.map LL) (k:Int)=some (LL (cs.getD k (0,0,0)))/\cs.getD k (0,0,0)∈cs:=by
 have e:cs[k]?=some (cs.getD k (0,0,0)):=by rw[OZ,MZ h];rfl
 exact⟨dU (by rw[OD,e];rfl),OL e⟩
def F1(xs:yas):PD.cutD xs (some 1) none=xs.drop 1:=by
 cases xs with
 |nil=>rfl
 |cons x r=>exact BJ (x::r) (k:=1) (Nat.succ_le_succ (OE _))
def Ring.b2(R:Ring cs):∀p∈cs,Bd 200 p.1/\Bd 200 p.2.1/\Bd 200 p.2.2:=λp hp=>⟨(R.cb p hp).b.mono (by decide),(R.cb p hp).x.mono (by decide),(R.cb p hp).y.mono (by decide)⟩
def Ee{A P q:Prop} [Decidable c] [Decidable d] (h1:A)(h2:c->¬d)(p:P):if c then A/\(if d then q else P)else P:=by
 by_cases z:c
 ·rw[Lx z,Lw (h2 z)];exact⟨h1,p⟩
 ·rw[Lw z];exact p
def BG{α β:Type}{wi:DA}{js:yag}{te:DE}{Q:D->Prop}(xs:List α)(f:α->D)(g:β->D)(P:β->Prop)(hw:∀R:yas->Prop,R (xs.map f)->wi ρ R)(hz:xs.length<=sizeLine)
  (he:∀x∈xs,∀K:D->Prop,(∀y,P y->K (g y))->te (some (.val (f x))::js.map (b5 ρ)) K) (q:∀ys:List β,ys.length=xs.length->(∀y∈ys,P y)->Q (.lst true (ys.map g))):n5 wi js pL te ρ Q:=by
 refine hw _ ⟨by rw[LJ];exact hz,λj out=>∃ys:List β,out=ys.map g/\ys.length=j/\∀y∈ys,P y,⟨[],rfl,rfl,by simp⟩,λj d out hd ho=>?_,λout ho=>?_⟩
 ·rw[OD]at hd;cases ex:xs[j]? with
  |none=>rw[ex]at hd;cases hd
  |some x =>
   rw[ex]at hd;cases hd;obtain⟨ys,e1,e2,e3⟩:=ho;simp only[pL,if_true];refine he x (OL ex) _ λy hy=>⟨ys++[y],by rw[e1,OQ];rfl,by simp[e2],λz hz=>?_⟩
   rcases MC.mp hz with w|w
   ·exact e3 z w
   ·rw[NI]at w;subst w;exact hy
 ·obtain⟨ys,e1,e2,e3⟩:=ho;rw[e1];exact q ys (by rw[e2,LJ]) e3
theorem zC:∀ys:yau,fF (ys.map LL)=true
 |[]=>by rw[R7,fF]
 |g::r=>by rw[MR,fF,zC r,Bool.and_true];unfold LL T3;simp only[pZ,fF,Bool.and_true]
theorem vP:∀ys:yau,dZ (ys.map LL)=true
 |[]=>by rw[R7,dZ]
 |g::r=>by rw[MR,dZ,vP r,Bool.and_true];unfold LL T3;rw[fP,dZ,dZ,dZ,dZ,lL,lL,lL];rfl
def jR{s1 s2:DS}(h2:s2 E ρ)(h1:∀K:Ro->Prop,K ρ->s1 {E with nx:=K} ρ):kx s1 s2 E ρ:=h1 _ h2
def BZ{a b:List Dt}:a.map LS=b.map LS↔a=b:=⟨Gd,λe=>by rw[e]⟩
def AQ{a b:List RY}:a.map cA=b.map cA↔a=b:=⟨EH,λe=>by rw[e]⟩
def CT{a b:yat}:a.map Oa=b.map Oa↔a=b:=⟨He,λe=>by rw[e]⟩
def De{a b:yat}:a.map Qq=b.map Qq↔a=b:=⟨Hy,λe=>by rw[e]⟩
def Di{a b:yau}:a.map LL=b.map LL↔a=b:=⟨HD,λe=>by rw[e]⟩
def CW:QG a=QG b↔a=b:=⟨Hf,λe=>by rw[e]⟩
def BY:LS a=LS b↔a=b:=⟨zd,λe=>by rw[e]⟩
def Cy{a b:yaf}:a.map D.int=b.map D.int↔a=b:=⟨yr,λe=>by rw[e]⟩
local macro_rules | `(tactic| walk_at "p") => do
 let l := ("T3 List.cons.injEq D.int.injEq D.tup.injEq D.lst.injEq and_true true_and and_imp Cy BZ AQ CT De Di CW BY".splitOn " ").toArray.map λs => Lean.mkIdent s.toName
 `(tactic| (apply propext; constructor; (intro h; repeat (first | (obtain ⟨e, h⟩ := h; revert e; simp only [$[$l:ident],*]; intros; subst_vars; assumption) | obtain ⟨_, h⟩ := h)); (intro q; repeat (first | exact ⟨rfl, q⟩ | apply Exists.intro))))
section
variable(κ:MS)(Q:D->Prop)(Ed:Value->Prop)
abbrev oM(n:Int):Prop:=Q (.int (sg n))
def tW(κ:MS):DSp:=λds Q Ed=>∃(n:Int),ds=[.int n]/\oM Q n
def A6 (n:Int):tW κ [.int n] Q Ed=oM Q n:=by walk_at "p"
abbrev cQ(a:Int)(b:Int):Prop:=Q (.int (Int.gcd a b:Int))
def fv(κ:MS):DSp:=λds Q Ed=>∃(a:Int) (b:Int),ds=[.int a,.int b]/\cQ Q a b
def mv (a:Int) (b:Int):fv κ [.int a,.int b] Q Ed=cQ Q a b:=by walk_at "p"
abbrev jk(x y z:Int)(l:Int):Prop:=¬(x=0/\y=0/\z=0)/\Bd 4000 x/\Bd 4000 y/\Bd 4000 z/\Q (T3 (x.fdiv (PM.ML x y z l)) (y.fdiv (PM.ML x y z l)) (z.fdiv (PM.ML x y z l)))
def mD(κ:MS):DSp:=λds Q Ed=>∃(x y z:Int) (l:Int),ds=[T3 x y z,.int l]/\jk Q x y z l
def uZ (x y z:Int) (l:Int):mD κ [T3 x y z,.int l] Q Ed=jk Q x y z l:=by walk_at "p"
abbrev l6(n:Int)(s:Int):Prop:=∃m t:Nat,n=(m:Int)/\s=(t:Int)/\m<=60/\t<=3/\Q (.lst true ((Qr m t).map Qs))
def qk(κ:MS):DSp:=λds Q Ed=>∃(n:Int) (s:Int),ds=[.int n,.int s]/\l6 Q n s
def yK (n:Int) (s:Int):qk κ [.int n,.int s] Q Ed=l6 Q n s:=by walk_at "p"
abbrev l9(g0 g1 g2:Int)(p0 p1 p2:Int):Prop:=Bd 1000 g0/\Bd 1000 g1/\Bd 1000 g2/\Bd 1000 p0/\Bd 1000 p1/\Bd 1000 p2/\Q (.int (g0*p0+g1*p1+g2*p2))
def qp(κ:MS):DSp:=λds Q Ed=>∃(g0 g1 g2:Int) (p0 p1 p2:Int),ds=[T3 g0 g1 g2,T3 p0 p1 p2]/\l9 Q g0 g1 g2 p0 p1 p2
def yN (g0 g1 g2:Int) (p0 p1 p2:Int):qp κ [T3 g0 g1 g2,T3 p0 p1 p2] Q Ed=l9 Q g0 g1 g2 p0 p1 p2:=by walk_at "p"
abbrev gU(g0 g1 g2:Int)(p0 p1 p2:Int):Prop:=Bd 1000 g0/\Bd 1000 g1/\Bd 1000 g2/\Bd 1000 p0/\Bd 1000 p1/\Bd 1000 p2/\Q (.int (sg (g0*p0+g1*p1+g2*p2)))
def ip(κ:MS):DSp:=λds Q Ed=>∃(g0 g1 g2:Int) (p0 p1 p2:Int),ds=[T3 g0 g1 g2,T3 p0 p1 p2]/\gU Q g0 g1 g2 p0 p1 p2
def ju (g0 g1 g2:Int) (p0 p1 p2:Int):ip κ [T3 g0 g1 g2,T3 p0 p1 p2] Q Ed=gU Q g0 g1 g2 p0 p1 p2:=by walk_at "p"
abbrev iw(g0 g1 g2:Int):Prop:=Q (.bl (decide (g1=0/\g2=0)))
def kJ(κ:MS):DSp:=λds Q Ed=>∃(g0 g1 g2:Int),ds=[T3 g0 g1 g2]/\iw Q g0 g1 g2
def tR (g0 g1 g2:Int):kJ κ [T3 g0 g1 g2] Q Ed=iw Q g0 g1 g2:=by walk_at "p"
abbrev jh(a0 a1 a2:Int)(b0 b1 b2:Int):Prop:=Bd 200 a0/\Bd 200 a1/\Bd 200 a2/\Bd 200 b0/\Bd 200 b1/\Bd 200 b2/\Q (T3 (a1*b2 - b1*a2) (a2*b0 - b2*a0) (a0*b1 - b0*a1))
def mz(κ:MS):DSp:=λds Q Ed=>∃(a0 a1 a2:Int) (b0 b1 b2:Int),ds=[T3 a0 a1 a2,T3 b0 b1 b2]/\jh Q a0 a1 a2 b0 b1 b2
def uW (a0 a1 a2:Int) (b0 b1 b2:Int):mz κ [T3 a0 a1 a2,T3 b0 b1 b2] Q Ed=jh Q a0 a1 a2 b0 b1 b2:=by walk_at "p"
abbrev oJ(a0 a1 a2:Int)(b0 b1 b2:Int):Prop:=Bd 200 a0/\Bd 200 a1/\Bd 200 a2/\Bd 200 b0/\Bd 200 b1/\Bd 200 b2/\¬(a2*b0 - b2*a0=0/\a0*b1 - b0*a1=0)/\Q (LL (AS (a1*b2 - b1*a2) (a2*b0 - b2*a0) (a0*b1 - b0*a1)))
def tT(κ:MS):DSp:=λds Q Ed=>∃(a0 a1 a2:Int) (b0 b1 b2:Int),ds=[T3 a0 a1 a2,T3 b0 b1 b2]/\oJ Q a0 a1 a2 b0 b1 b2
def A4 (a0 a1 a2:Int) (b0 b1 b2:Int):tT κ [T3 a0 a1 a2,T3 b0 b1 b2] Q Ed=oJ Q a0 a1 a2 b0 b1 b2:=by walk_at "p"
abbrev l7(b:Int)(x:Int)(y:Int):Prop:=b≠0/\Bd 4000 b/\Bd 4000 x/\Bd 4000 y/\Q (xr b x y)
def ql(κ:MS):DSp:=λds Q Ed=>∃(b:Int) (x:Int) (y:Int),ds=[.int b,.int x,.int y]/\l7 Q b x y
def yL (b:Int) (x:Int) (y:Int):ql κ [.int b,.int x,.int y] Q Ed=l7 Q b x y:=by walk_at "p"
abbrev iz(a b:Int):Prop:=Q (T3 1 a b)
def kL(κ:MS):DSp:=λds Q Ed=>∃(a b:Int),ds=[.tup [.int a,.int b]]/\iz Q a b
def tU (a b:Int):kL κ [.tup [.int a,.int b]] Q Ed=iz Q a b:=by walk_at "p"
abbrev lr(a0 a1 a2:Int)(b0 b1 b2:Int):Prop:=Bd 1000 a0/\Bd 1000 a1/\Bd 1000 a2/\Bd 1000 b0/\Bd 1000 b1/\Bd 1000 b2/\Q (.int (rk a0 a1 a2 b0 b1 b2))
def oO(κ:MS):DSp:=λds Q Ed=>∃(a0 a1 a2:Int) (b0 b1 b2:Int),ds=[T3 a0 a1 a2,T3 b0 b1 b2]/\lr Q a0 a1 a2 b0 b1 b2
def rX (a0 a1 a2:Int) (b0 b1 b2:Int):oO κ [T3 a0 a1 a2,T3 b0 b1 b2] Q Ed=lr Q a0 a1 a2 b0 b1 b2:=by walk_at "p"
abbrev jM(a0 a1 a2:Int)(b0 b1 b2:Int)(c0 c1 c2:Int):Prop:=Bd 1000 a0/\Bd 1000 a1/\Bd 1000 a2/\Bd 1000 b0/\Bd 1000 b1/\Bd 1000 b2/\Bd 1000 c0/\Bd 1000 c1/\Bd 1000 c2/\Q (.int (sw a0 a1 a2 b0 b1 b2 c0 c1 c2))
def mF(κ:MS):DSp:=λds Q Ed=>∃(a0 a1 a2:Int) (b0 b1 b2:Int) (c0 c1 c2:Int),ds=[T3 a0 a1 a2,T3 b0 b1 b2,T3 c0 c1 c2]/\jM Q a0 a1 a2 b0 b1 b2 c0 c1 c2
def pD (a0 a1 a2:Int) (b0 b1 b2:Int) (c0 c1 c2:Int):mF κ [T3 a0 a1 a2,T3 b0 b1 b2,T3 c0 c1 c2] Q Ed=jM Q a0 a1 a2 b0 b1 b2 c0 c1 c2:=by walk_at "p"
abbrev jo(p:Dt):Prop:=Q (.tup [.int p.1,.int p.2.1])
def mE(κ:MS):DSp:=λds Q Ed=>∃(p:Dt),ds=[LS p]/\jo Q p
def u3 (p:Dt):mE κ [LS p] Q Ed=jo Q p:=by walk_at "p"
abbrev iA(ps:List Dt):Prop:=ps.length<=60/\Q (.lst true ((ps.map NB).map Qq))
def kN(κ:MS):DSp:=λds Q Ed=>∃(ps:List Dt),ds=[.lst false (ps.map LS)]/\iA Q ps
def tX (ps:List Dt):kN κ [.lst false (ps.map LS)] Q Ed=iA Q ps:=by walk_at "p"
abbrev gD(ps:List Dt)(col:D):Prop:=∃cs:Int->Bool,qw col cs/\ps.length<=60/\Q (.lst true ((ps.filter λp=>cs p.2.2.1).map LS))
def jV(κ:MS):DSp:=λds Q Ed=>∃(ps:List Dt) (col:D),ds=[.lst false (ps.map LS),col]/\gD Q ps col
def rV (ps:List Dt) (col:D):jV κ [.lst false (ps.map LS),col] Q Ed=gD Q ps col:=by walk_at "p"
abbrev l8(ps:List Dt)(col:D):Prop:=∃cs:Int->Bool,qw col cs/\ps.length<=60/\Q (.int (RV cs ps))
def jX(κ:MS):DSp:=λds Q Ed=>∃(ps:List Dt) (col:D),ds=[.lst false (ps.map LS),col]/\l8 Q ps col
def yM (ps:List Dt) (col:D):jX κ [.lst false (ps.map LS),col] Q Ed=l8 Q ps col:=by walk_at "p"
abbrev gF(ps:List Dt)(g0 g1 g2:Int)(col:D):Prop:=∃cs:Int->Bool,qw col cs/\ps.length<=60/\Bd 1000 g0/\Bd 1000 g1/\Bd 1000 g2/\(∀p∈ps,GD p)/\Q (.tup [.int (wt cs g0 g1 g2 (-1) ps),.int (wt cs g0 g1 g2 0 ps),.int (wt cs g0 g1 g2 1 ps)])
def gP(κ:MS):DSp:=λds Q Ed=>∃(ps:List Dt) (g0 g1 g2:Int) (col:D),ds=[.lst false (ps.map LS),T3 g0 g1 g2,col]/\gF Q ps g0 g1 g2 col
def mV (ps:List Dt) (g0 g1 g2:Int) (col:D):gP κ [.lst false (ps.map LS),T3 g0 g1 g2,col] Q Ed=gF Q ps g0 g1 g2 col:=by walk_at "p"
abbrev jL(ps:yat):Prop:=ps.length<64/\(∀p∈ps,SB p)/\Q (.lst true ((bE [] ps).reverse.map Oa))
def qg(κ:MS):DSp:=λds Q Ed=>∃(ps:yat),ds=[.lst false (ps.map Oa)]/\jL Q ps
def pC (ps:yat):qg κ [.lst false (ps.map Oa)] Q Ed=jL Q ps:=by walk_at "p"
abbrev oI(ps:yat):Prop:=ps.length<64/\(∀p∈ps,SB p)/\∀ys,cF ys ps->ys.length<=ps.length->Q (.lst true ((aS ys).map Oa))
def tQ(κ:MS):DSp:=λds Q Ed=>∃(ps:yat),ds=[.lst false (ps.map Qq)]/\oI Q ps
def A0 (ps:yat):tQ κ [.lst false (ps.map Qq)] Q Ed=oI Q ps:=by walk_at "p"
abbrev d4(ps:List Dt)(ij:(Nat×Nat)):Prop:=ij.1<ps.length/\ij.2<ps.length/\Q (.bl (decide (NB (gp ps ij.1)≠NB (gp ps ij.2))))
def gO(κ:MS):DSp:=λds Q Ed=>∃(ps:List Dt) (ij:(Nat×Nat)),ds=[.lst false (ps.map LS),QG ij]/\d4 Q ps ij
def nU (ps:List Dt) (ij:(Nat×Nat)):gO κ [.lst false (ps.map LS),QG ij] Q Ed=d4 Q ps ij:=by walk_at "p"
abbrev fL(ps:List Dt):Prop:=ps.length<=60/\Q (.lst true (((T9 ps.length).filter λij=>decide (NB (gp ps ij.1)≠NB (gp ps ij.2))).map QG))
def i9(κ:MS):DSp:=λds Q Ed=>∃(ps:List Dt),ds=[.lst false (ps.map LS)]/\fL Q ps
def qo (ps:List Dt):i9 κ [.lst false (ps.map LS)] Q Ed=fL Q ps:=by walk_at "p"
abbrev gE(ps:List Dt)(ij:(Nat×Nat)):Prop:=ij.1<ps.length/\ij.2<ps.length/\(∀p∈ps,GD p)/\NB (gp ps ij.1)≠NB (gp ps ij.2)/\Q (LL (SQ (gp ps ij.1) (gp ps ij.2)))
def jW(κ:MS):DSp:=λds Q Ed=>∃(ps:List Dt) (ij:(Nat×Nat)),ds=[.lst false (ps.map LS),QG ij]/\gE Q ps ij
def rW (ps:List Dt) (ij:(Nat×Nat)):jW κ [.lst false (ps.map LS),QG ij] Q Ed=gE Q ps ij:=by walk_at "p"
abbrev fz(ps:List Dt)(ls:yau):Prop:=ps.length<=60/\(∀p∈ps,GD p)/\ls.length<=900/\(∀g∈ls,Bd 1000 g.1/\Bd 1000 g.2.1/\Bd 1000 g.2.2)/\∀ys,cG ys ls->Q (.lst true (ys.map (xB ps)))
def kM(κ:MS):DSp:=λds Q Ed=>∃(ps:List Dt) (ls:yau),ds=[.lst false (ps.map LS),.lst false (ls.map LL)]/\fz Q ps ls
def lF (ps:List Dt) (ls:yau):kM κ [.lst false (ps.map LS),.lst false (ls.map LL)] Q Ed=fz Q ps ls:=by walk_at "p"
abbrev fK(ps:List Dt):Prop:=ps.length<=30/\(∀p∈ps,GD p)/\Q (.lst true ((sW ps).map LL))
def i8(κ:MS):DSp:=λds Q Ed=>∃(ps:List Dt),ds=[.lst false (ps.map LS)]/\fK Q ps
def qj (ps:List Dt):i8 κ [.lst false (ps.map LS)] Q Ed=fK Q ps:=by walk_at "p"
abbrev cC(a0 a1 a2:Int)(b0 b1 b2:Int)(g0 g1 g2:Int):Prop:=Bd 200 a0/\Bd 200 a1/\Bd 200 a2/\Bd 200 b0/\Bd 200 b1/\Bd 200 b2/\Bd 200 g0/\Bd 200 g1/\Bd 200 g2/\(My (g0,g1,g2) (a0,a1,a2) (b0,b1,b2)).1≠0/\Q (LL (bX (g0,g1,g2) (a0,a1,a2) (b0,b1,b2)))
def dM(κ:MS):DSp:=λds Q Ed=>∃(a0 a1 a2:Int) (b0 b1 b2:Int) (g0 g1 g2:Int),ds=[T3 a0 a1 a2,T3 b0 b1 b2,T3 g0 g1 g2]/\cC Q a0 a1 a2 b0 b1 b2 g0 g1 g2
def gQ (a0 a1 a2:Int) (b0 b1 b2:Int) (g0 g1 g2:Int):dM κ [T3 a0 a1 a2,T3 b0 b1 b2,T3 g0 g1 g2] Q Ed=cC Q a0 a1 a2 b0 b1 b2 g0 g1 g2:=by walk_at "p"
abbrev gB(cs:yau)(g0 g1 g2:Int):Prop:=cs.length<=1000000/\(∀p∈cs,0<p.1/\CB 40 p)/\Bd 200 g0/\Bd 200 g1/\Bd 200 g2/\Q (.lst true ((cD (g0,g1,g2) cs).map LL))
def jt(κ:MS):DSp:=λds Q Ed=>∃(cs:yau) (g0 g1 g2:Int),ds=[.lst false (cs.map LL),T3 g0 g1 g2]/\gB Q cs g0 g1 g2
def mU (cs:yau) (g0 g1 g2:Int):jt κ [.lst false (cs.map LL),T3 g0 g1 g2] Q Ed=gB Q cs g0 g1 g2:=by walk_at "p"
abbrev j8(cs:yau)(gs:yau):Prop:=gs.length<=1000/\(∀j,j<gs.length->(bB (gs.take j) cs).length<=1000000/\∀p∈bB (gs.take j) cs,0<p.1/\CB 40 p)/\(∀g∈gs,Bd 200 g.1/\Bd 200 g.2.1/\Bd 200 g.2.2)/\∀t:Bool,Q (.lst t ((bB gs cs).map LL))
def nT(κ:MS):DSp:=λds Q Ed=>∃(cs:yau) (gs:yau),ds=[.lst false (cs.map LL),.lst false (gs.map LL)]/\j8 Q cs gs
def xP (cs:yau) (gs:yau):nT κ [.lst false (cs.map LL),.lst false (gs.map LL)] Q Ed=j8 Q cs gs:=by walk_at "p"
abbrev rH(cs:yau):Prop:=cs.length<=1000000/\(∀p∈cs,CB 40 p)/\Q (.lst true ((dH cs).map LL))
def xQ(κ:MS):DSp:=λds Q Ed=>∃(cs:yau),ds=[.lst false (cs.map LL)]/\rH Q cs
def Dc (cs:yau):xQ κ [.lst false (cs.map LL)] Q Ed=rH Q cs:=by walk_at "p"
abbrev fG(ps:List Dt):Prop:=ps.length<=60/\Q (.lst true ((Zy ps).map LL))
def i5(κ:MS):DSp:=λds Q Ed=>∃(ps:List Dt),ds=[.lst false (ps.map LS)]/\fG Q ps
def qe (ps:List Dt):i5 κ [.lst false (ps.map LS)] Q Ed=fG Q ps:=by walk_at "p"
abbrev fy(g0 g1 g2:Int):Prop:=Q (T3 (-g0) (-g1) (-g2))
def iC(κ:MS):DSp:=λds Q Ed=>∃(g0 g1 g2:Int),ds=[T3 g0 g1 g2]/\fy Q g0 g1 g2
def lE (g0 g1 g2:Int):iC κ [T3 g0 g1 g2] Q Ed=fy Q g0 g1 g2:=by walk_at "p"
abbrev fb(ps:List Dt):Prop:=ps.length<=20/\(∀p∈ps,GD p)/\∀zs,cG zs (QS ps)->Q (.lst true ((bY ps zs).map cA))
def ib(κ:MS):DSp:=λds Q Ed=>∃(ps:List Dt),ds=[.lst false (ps.map LS)]/\fb Q ps
def oU (ps:List Dt):ib κ [.lst false (ps.map LS)] Q Ed=fb Q ps:=by walk_at "p"
abbrev oK(xs:List RY)(w:Int):Prop:=xs.length<=2000/\Q (.lst true ((cZ xs w).map LL))
def tV(κ:MS):DSp:=λds Q Ed=>∃(xs:List RY) (w:Int),ds=[.lst false (xs.map cA),.int w]/\oK Q xs w
def A5 (xs:List RY) (w:Int):tV κ [.lst false (xs.map cA),.int w] Q Ed=oK Q xs w:=by walk_at "p"
abbrev ji(ps:List Dt):Prop:=ps.length<=20/\(∀p∈ps,GD p)/\∀ys,cF ys (ps.map NB)->Q (.lst true (((aS ys).map sT).map LL))
def mB(κ:MS):DSp:=λds Q Ed=>∃(ps:List Dt),ds=[.lst false (ps.map LS)]/\ji Q ps
def uX (ps:List Dt):mB κ [.lst false (ps.map LS)] Q Ed=ji Q ps:=by walk_at "p"
abbrev dJ(ps:List Dt)(xs:List RY)(l:Int):Prop:=gc ps/\(∃zs,cG zs (QS ps)/\xs=bY ps zs)/\∀zs ys,cG zs (QS ps)->cF ys (ps.map NB)->Q (.lst true ((dH (gz ps zs ys (aT ps - l+1))).map LL))
def fY(κ:MS):DSp:=λds Q Ed=>∃(ps:List Dt) (xs:List RY) (l:Int),ds=[.lst false (ps.map LS),.lst false (xs.map cA),.int l]/\dJ Q ps xs l
def mW (ps:List Dt) (xs:List RY) (l:Int):fY κ [.lst false (ps.map LS),.lst false (xs.map cA),.int l] Q Ed=dJ Q ps xs l:=by walk_at "p"
abbrev j9(ps:List Dt)(l:Int):Prop:=(ps.length<=60/\(l<1∨aT ps<l)/\Ed (.ref κ.NoSuch))∨(gc ps/\1<=l/\l<=aT ps/\∀zs ys,cG zs (QS ps)->cF ys (ps.map NB)->Q (.lst true ((dH (gz ps zs ys (aT ps - l+1))).map LL)))
def nV(κ:MS):DSp:=λds Q Ed=>∃(ps:List Dt) (l:Int),ds=[.lst false (ps.map LS),.int l]/\j9 κ Q Ed ps l
def xR (ps:List Dt) (l:Int):nV κ [.lst false (ps.map LS),.int l] Q Ed=j9 κ Q Ed ps l:=by walk_at "p"
abbrev gC(a:Int):Prop:=Q (.bl true)
def jT(κ:MS):DSp:=λds Q Ed=>∃(a:Int),ds=[.int a]/\gC Q a
def rT (a:Int):jT κ [.int a] Q Ed=gC Q a:=by walk_at "p"
abbrev fc(ns:yaf)(k:Int):Prop:=0<=k/\ns.length<=63/\∀v:Int,Q (.int v)
def ie(κ:MS):DSp:=λds Q Ed=>∃(ns:yaf) (k:Int),ds=[.lst false (ns.map D.int),.int k]/\fc Q ns k
def oV (ns:yaf) (k:Int):ie κ [.lst false (ns.map D.int),.int k] Q Ed=fc Q ns k:=by walk_at "p"
abbrev fg(a:Int)(b:Int):Prop:=Q (.int (Int.gcd a b:Int))
def ik(κ:MS):DSp:=λds Q Ed=>∃(a:Int) (b:Int),ds=[.int a,.int b]/\fg Q a b
def oX (a:Int) (b:Int):ik κ [.int a,.int b] Q Ed=fg Q a b:=by walk_at "p"
abbrev jj(c:Int)(k:Int)(v:Int):Prop:=0<=v/\v<=2/\∀p:Dt,GD p->Bd 40 p.1->Bd 40 p.2.1->0<p.2.2.2->Q (LS p)
def mC(κ:MS):DSp:=λds Q Ed=>∃(c:Int) (k:Int) (v:Int),ds=[.int c,.int k,.int v]/\jj Q c k v
def uY (c:Int) (k:Int) (v:Int):mC κ [.int c,.int k,.int v] Q Ed=jj Q c k v:=by walk_at "p"
abbrev iy(ns:yaf)(s:Int)(m:Int):Prop:=ns.length<=63/\s=8/\(m=8∨m=16)/\∀ps:List Dt,gc ps->Q (.lst true (ps.map LS))
def kK(κ:MS):DSp:=λds Q Ed=>∃(ns:yaf) (s:Int) (m:Int),ds=[.lst false (ns.map D.int),.int s,.int m]/\iy Q ns s m
def tS (ns:yaf) (s:Int) (m:Int):kK κ [.lst false (ns.map D.int),.int s,.int m] Q Ed=iy Q ns s m:=by walk_at "p"
abbrev cB(ps:List Dt)(h0 h1 h2:Int):Prop:=ps.length<=30/\(∀p∈ps,GD p)/\(∀p∈ps,0<=p.2.2.2)/\HB (h0,h1,h2)/\∀n:Int,(∀g:Tr,IsL (h0,h1,h2) ps g->n=Om g ps)->Q (.int n)
def dj(κ:MS):DSp:=λds Q Ed=>∃(ps:List Dt) (h0 h1 h2:Int),ds=[.lst false (ps.map LS),T3 h0 h1 h2]/\cB Q ps h0 h1 h2
def d5 (ps:List Dt) (h0 h1 h2:Int):dj κ [.lst false (ps.map LS),T3 h0 h1 h2] Q Ed=cB Q ps h0 h1 h2:=by walk_at "p"
abbrev fH(b:Int)(x:Int)(y:Int):Prop:=0<b/\Bd 105 b/\Bd 105 x/\Bd 105 y/\∀h:Tr,HB h->Pr h->Q (T3 h.1 h.2.1 h.2.2)
def i6(κ:MS):DSp:=λds Q Ed=>∃(b:Int) (x:Int) (y:Int),ds=[.int b,.int x,.int y]/\fH Q b x y
def qh (b:Int) (x:Int) (y:Int):i6 κ [.int b,.int x,.int y] Q Ed=fH Q b x y:=by walk_at "p"
abbrev cL(ps:List Dt)(c:Int):Prop:=0<ps.length/\ps.length<=30/\(∀p∈ps,GD p)/\∀h:Tr,HB h->Pr h->Q (T3 h.1 h.2.1 h.2.2)
def eJ(κ:MS):DSp:=λds Q Ed=>∃(ps:List Dt) (c:Int),ds=[.lst false (ps.map LS),.int c]/\cL Q ps c
def lD (ps:List Dt) (c:Int):eJ κ [.lst false (ps.map LS),.int c] Q Ed=cL Q ps c:=by walk_at "p"
abbrev cM(h0 h1 h2:Int):Prop:=Pr (h0,h1,h2)/\Q (.bl true)
def d6(κ:MS):DSp:=λds Q Ed=>∃(h0 h1 h2:Int),ds=[T3 h0 h1 h2]/\cM Q h0 h1 h2
def iL (h0 h1 h2:Int):d6 κ [T3 h0 h1 h2] Q Ed=cM Q h0 h1 h2:=by walk_at "p"
abbrev dg(a0 a1 a2:Int)(b0 b1 b2:Int)(c0 c1 c2:Int):Prop:=Bd 200 a0/\Bd 200 a1/\Bd 200 a2/\Bd 200 b0/\Bd 200 b1/\Bd 200 b2/\Bd 200 c0/\Bd 200 c1/\Bd 200 c2/\Q (.int (L7 (a0,a1,a2) (b0,b1,b2) (c0,c1,c2)))
def eK(κ:MS):DSp:=λds Q Ed=>∃(a0 a1 a2:Int) (b0 b1 b2:Int) (c0 c1 c2:Int),ds=[T3 a0 a1 a2,T3 b0 b1 b2,T3 c0 c1 c2]/\dg Q a0 a1 a2 b0 b1 b2 c0 c1 c2
def gN (a0 a1 a2:Int) (b0 b1 b2:Int) (c0 c1 c2:Int):eK κ [T3 a0 a1 a2,T3 b0 b1 b2,T3 c0 c1 c2] Q Ed=dg Q a0 a1 a2 b0 b1 b2 c0 c1 c2:=by walk_at "p"
abbrev eF(a0 a1 a2:Int)(b0 b1 b2:Int):Prop:=Bd 200 a0/\Bd 200 a1/\Bd 200 a2/\Bd 200 b0/\Bd 200 b1/\Bd 200 b2/\∀k:Bool,(k=true↔PL (a0,a1,a2) (b0,b1,b2))->Q (.bl k)
def gM(κ:MS):DSp:=λds Q Ed=>∃(a0 a1 a2:Int) (b0 b1 b2:Int),ds=[T3 a0 a1 a2,T3 b0 b1 b2]/\eF Q a0 a1 a2 b0 b1 b2
def kg (a0 a1 a2:Int) (b0 b1 b2:Int):gM κ [T3 a0 a1 a2,T3 b0 b1 b2] Q Ed=eF Q a0 a1 a2 b0 b1 b2:=by walk_at "p"
abbrev fe(cs:yau):Prop:=Ring cs/\Q (.bl true)
def ig(κ:MS):DSp:=λds Q Ed=>∃(cs:yau),ds=[.lst false (cs.map LL)]/\fe Q cs
def oW (cs:yau):ig κ [.lst false (cs.map LL)] Q Ed=fe Q cs:=by walk_at "p"
abbrev da(a0 a1 a2:Int)(b0 b1 b2:Int)(c0 c1 c2:Int):Prop:=Bd 200 a0/\Bd 200 a1/\Bd 200 a2/\Bd 200 b0/\Bd 200 b1/\Bd 200 b2/\Bd 200 c0/\Bd 200 c1/\Bd 200 c2/\∀k:Bool,(k=true↔L7 (a0,a1,a2) (b0,b1,b2) (c0,c1,c2)=0/\¬PL (c0,c1,c2) (a0,a1,a2)/\¬PL (b0,b1,b2) (c0,c1,c2))->Q (.bl k)
def fk(κ:MS):DSp:=λds Q Ed=>∃(a0 a1 a2:Int) (b0 b1 b2:Int) (c0 c1 c2:Int),ds=[T3 a0 a1 a2,T3 b0 b1 b2,T3 c0 c1 c2]/\da Q a0 a1 a2 b0 b1 b2 c0 c1 c2
def ja (a0 a1 a2:Int) (b0 b1 b2:Int) (c0 c1 c2:Int):fk κ [T3 a0 a1 a2,T3 b0 b1 b2,T3 c0 c1 c2] Q Ed=da Q a0 a1 a2 b0 b1 b2 c0 c1 c2:=by walk_at "p"
abbrev dP(cs:yau)(h0 h1 h2:Int):Prop:=Ring cs/\HB (h0,h1,h2)/\Pr (h0,h1,h2)/\∀k:Bool,(k=true↔QF cs (h0,h1,h2))->Q (.bl k)
def fM(κ:MS):DSp:=λds Q Ed=>∃(cs:yau) (h0 h1 h2:Int),ds=[.lst false (cs.map LL),T3 h0 h1 h2]/\dP Q cs h0 h1 h2
def jU (cs:yau) (h0 h1 h2:Int):fM κ [.lst false (cs.map LL),T3 h0 h1 h2] Q Ed=dP Q cs h0 h1 h2:=by walk_at "p"
abbrev de(ps:List Dt)(l:Int):Prop:=ps.length<=60/\(l<1∨aT ps<l)/\Q (.bl true)
def fq(κ:MS):DSp:=λds Q Ed=>∃(ps:List Dt) (l:Int),ds=[.lst false (ps.map LS),.int l]/\de Q ps l
def jb (ps:List Dt) (l:Int):fq κ [.lst false (ps.map LS),.int l] Q Ed=de Q ps l:=by walk_at "p"
abbrev fJ(ps:List Dt)(l:Int)(hs:yau):Prop:=gc ps/\1<=l/\l<=aT ps/\hs.length<=10/\(∀h∈hs,HB h/\Pr h)/\Q (.bl true)
def i7(κ:MS):DSp:=λds Q Ed=>∃(ps:List Dt) (l:Int) (hs:yau),ds=[.lst false (ps.map LS),.int l,.lst false (hs.map LL)]/\fJ Q ps l hs
def qi (ps:List Dt) (l:Int) (hs:yau):i7 κ [.lst false (ps.map LS),.int l,.lst false (hs.map LL)] Q Ed=fJ Q ps l hs:=by walk_at "p"
end
section
variable(P:Program)(w:World)(K:yac)(mg:yam)(base:Heap)(κ:MS)
abbrev Bn:Prop:=MU P w K mg base "sign" 1 ["number"] (tW κ)
abbrev pH:Prop:=MU P w K mg base "common_divisor" 1 ["one", "other"] (fv κ)
abbrev tY:Prop:=MU P w K mg base "reduced" 2 ["triple", "lead"] (mD κ)
abbrev FT:Prop:=MU P w K mg base "picks" 1 ["count", "size"] (qk κ)
abbrev yS:Prop:=MU P w K mg base "value" 1 ["gauge", "place"] (qp κ)
abbrev Bm:Prop:=MU P w K mg base "side" 2 ["gauge", "place"] (ip κ)
abbrev zX:Prop:=MU P w K mg base "is_level" 1 ["gauge"] (kJ κ)
abbrev Bj:Prop:=MU P w K mg base "crossed" 1 ["one", "other"] (mz κ)
abbrev HN:Prop:=MU P w K mg base "line" 3 ["one", "other"] (tT κ)
abbrev FU:Prop:=MU P w K mg base "place" 3 ["by", "x", "y"] (ql κ)
abbrev lK:Prop:=MU P w K mg base "place_of" 1 ["spot"] (kL κ)
abbrev HQ:Prop:=MU P w K mg base "rank" 2 ["one", "other"] (oO κ)
abbrev FV:Prop:=MU P w K mg base "swing" 1 ["one", "two", "three"] (mF κ)
abbrev j4:Prop:=MU P w K mg base "spot_of" 1 ["dot"] (mE κ)
abbrev z8:Prop:=MU P w K mg base "spots_of" 2 ["dots"] (kN κ)
abbrev o4:Prop:=MU P w K mg base "of_colour" 1 ["dots", "colour"] (jV κ)
abbrev FR:Prop:=MU P w K mg base "chain" 2 ["places"] (qg κ)
abbrev HM:Prop:=MU P w K mg base "hull" 3 ["spots"] (tQ κ)
abbrev sr:Prop:=MU P w K mg base "on_two_spots" 2 ["dots", "pair"] (gO κ)
abbrev vK:Prop:=MU P w K mg base "spot_pairs" 3 ["dots"] (i9 κ)
abbrev xX:Prop:=MU P w K mg base "pair_line" 4 ["dots", "pair"] (jW κ)
abbrev z7:Prop:=MU P w K mg base "split_by" 4 ["dots", "lines"] (kM κ)
abbrev vJ:Prop:=MU P w K mg base "pair_lines" 5 ["dots"] (i8 κ)
abbrev qz:Prop:=MU P w K mg base "place_between" 4 ["one", "other", "gauge"] (dM κ)
abbrev Bi:Prop:=MU P w K mg base "clipped" 5 ["corners", "gauge"] (jt κ)
abbrev Dw:Prop:=MU P w K mg base "common" 6 ["corners", "gauges"] (nT κ)
abbrev J5:Prop:=MU P w K mg base "led" 3 ["corners"] (xQ κ)
abbrev vF:Prop:=MU P w K mg base "axis_lines" 1 ["dots"] (i5 κ)
abbrev zZ:Prop:=MU P w K mg base "opposite" 1 ["gauge"] (iC κ)
abbrev uH:Prop:=MU P w K mg base "half_planes" 6 ["dots"] (ib κ)
abbrev HR:Prop:=MU P w K mg base "rims" 1 ["planes", "weight"] (tV κ)
abbrev Bk:Prop:=MU P w K mg base "hull_of" 4 ["dots"] (mB κ)
abbrev qC:Prop:=MU P w K mg base "region_within" 7 ["dots", "planes", "least"] (fY κ)
abbrev pI:Prop:=MU P w K mg base "region" 8 ["dots", "least"] (nV κ)
abbrev xW:Prop:=MU P w K mg base "_law_whole" 1 ["_law_found"] (jT κ)
abbrev mO:Prop:=MU P w K mg base "_law_cell_at" 1 ["_law_script", "_law_k"] (ie κ)
abbrev mP:Prop:=MU P w K mg base "_law_divisor" 1 ["_law_one", "_law_other"] (ik κ)
abbrev Bl:Prop:=MU P w K mg base "_law_dot" 1 ["_law_cell", "_law_kind", "_law_heavy"] (mC κ)
abbrev zY:Prop:=MU P w K mg base "_law_dots" 2 ["_law_script", "_law_start", "_law_most"] (kK κ)
abbrev oY:Prop:=MU P w K mg base "_law_depth" 1 ["_law_dots_here", "_law_here"] (dj κ)
abbrev vG:Prop:=MU P w K mg base "_law_lowest" 2 ["_law_by", "_law_x", "_law_y"] (i6 κ)
abbrev oR:Prop:=MU P w K mg base "_law_drawn_place" 3 ["_law_dots_here", "_law_cell"] (eJ κ)
abbrev sk:Prop:=MU P w K mg base "_law_is_place" 2 ["_law_found"] (d6 κ)
abbrev kj:Prop:=MU P w K mg base "_law_swing" 1 ["_law_one", "_law_two", "_law_three"] (eK κ)
abbrev oZ:Prop:=MU P w K mg base "_law_first" 1 ["_law_one", "_law_other"] (gM κ)
abbrev uJ:Prop:=MU P w K mg base "_law_corners" 3 ["_law_found"] (ig κ)
abbrev uI:Prop:=MU P w K mg base "_law_between" 2 ["_law_one", "_law_other", "_law_here"] (fk κ)
abbrev vI:Prop:=MU P w K mg base "_law_within" 3 ["_law_found", "_law_here"] (fM κ)
abbrev uK:Prop:=MU P w K mg base "_law_refused" 9 ["_law_dots_here", "_law_least"] (fq κ)
abbrev vH:Prop:=MU P w K mg base "_law_region" 9 ["_law_dots_here", "_law_least", "_law_places"] (i7 κ)
end
local macro_rules | `(tactic| walk_at "l") => `(tactic| (intro ds Q E h; repeat (first | (cases h.1; rfl) | refine Exists.elim h λ_ h => ?_)))
section
variable{P:Program}{w:World}{K:yac}{mg:yam}{base:Heap}{κ:MS}{f:Addr}{fd:FuncData}
def Ll(x:Str)(N:yah)(d:D)(ds:yas):dm (x::N) (d::ds)=some (.val d)::dm N ds:=by unfold dm;simp
def Ln(x:Str)(N:yah):dm (x::N) []=none::dm N []:=by unfold dm;simp[List.replicate_succ]
theorem Lm:dm [] []=[]:=rfl
local macro_rules | `(tactic| walk_at "s") => do
 let l := ("Ll Ln Lm".splitOn " ").toArray.map λs => Lean.mkIdent s.toName
 `(tactic| simp only [$[$l:ident],*])
local macro_rules | `(tactic| walk_at "x") => do
 let l := ("kx Fn DV Iy Ip Xg dB Il dOr Iu Fi Fo dIf wB dC qL Ak IB DU qK dCB dIs IC ID KA KC zH dI JO JQ Jg Ex GW Ey GZ oh B3 B4 Ji Fm Iv yY y4 Gj Gk pL Jc Je Jd List.map_cons List.map_nil Jb cN E6 uE Dq Dm eQ Dp dO cP yQ EL xw Ke IT Gh Xk at1 at2 at3 List.append_nil List.cons_append List.nil_append GL GN JG GH GG Cq GF Au Co Cp Cn Cm true_and Iq DX Ik HF Ck false_and and_false false_or or_false exists_false Am Fq Ho Hn qU Iw Bool.false_eq_true Bool.true_eq_false if_false if_true decide_eq_true_eq Bool.not_eq_eq_eq_not Bool.not_true Bool.not_false decide_eq_false_iff_not ite_not Bp Bq Im Fj BM BV Fv Ft BO Ir IA Iz Fs qM eU BK Fp Al BN IU IV Hu lL BL List.set_cons_zero List.set_cons_succ yZ Kf A6 mv uZ yK yN ju tR uW A4 yL tU rX pD u3 tX rV yM mV pC A0 nU qo rW lF qj gQ mU xP Dc qe lE oU A5 uX mW xR rT oV oX uY tS d5 qh lD iL gN kg oW ja jU jb qi oM cQ jk l6 l9 gU iw jh oJ l7 iz lr jM jo iA gD l8 gF jL oI d4 fL gE fz fK cC gB j8 rH fG fy fb oK ji dJ j9 gC fc fg jj iy cB fH cL cM dg eF fe da dP de fJ xS A9 qr r9 bF sd yP uD E7 Jb D7 yR uF".splitOn " ").toArray.map λs => Lean.mkIdent s.toName
 `(tactic| try simp only [$[$l:ident],*])
def G7 (F:aw K "sign" "sign" xG f fd) (C:MW K mg κ)    : aJ P w K mg base (CX1 P w) 1 f fd ["number"] (aM K (tW κ)):=by
 refine aw.okN F Ht (by walk_at "l") λ_ _ _ _ _ _ hr=>⟨_,(ai (aQ (aE rA (dv 0) aa) (ak (av aa)) aF) (ai (aQ (aE cE (dv 0) aa) (ak (av (cu aa))) aF) (ak (av aa)))),?_⟩
 rintro ds Q Ed ⟨n,rfl,h⟩;walk_at "s";unfold oM at h;walk_at "x";unfold sg at h;split
 ·rename_i h0;rw[Lx h0]at h;exact h
 ·rename_i h0;rw[Lw h0]at h;split
  ·rename_i h1;rw[Lx h1]at h;exact h
  ·rename_i h1;rw[Lw h1]at h;exact h
def oS (F:aw K "common_divisor" "common_divisor" fV f fd) (C:MW K mg κ)   (Ob:mg "abs" = none):aJ P w K mg base (CX1 P w) 1 f fd ["one", "other"] (aM K (fv κ)):=by
 refine aw.okN F cR (by walk_at "l") λ_ _ _ _ _ _ hr=>⟨_,(ai (pN PassesOwn.never (aE iH (dv 1) aa) (ai (ay 2 cR.nd (af aO (dv 0) (dv 1))) (ai (ay 0 cR.nd (dv 1)) (ak (ay 1 cR.nd (dv 2)))))) (ak (av (aP vX (by rfl) Ob boot_abs (ae (dv 0) ah))))),?_⟩
 rintro ds Q Ed ⟨a,b,rfl,h⟩;walk_at "s";unfold cQ at h;refine⟨λm ρ=>∃(x y:Int) (r:Option Sl),ρ=[some (.val (.int x)),some (.val (.int y)),r]/\Int.gcd x y=Int.gcd a b/\m=y.natAbs,⟨_,a,b,none,rfl,rfl,rfl⟩,?_⟩;rintro m ρ ⟨x,y,r,rfl,hg,rfl⟩;walk_at "x";by_cases hy:y=0
 ·subst hy;rw[PM.uk]at hg;rw[Lx rfl,hg];exact h
 ·rw[Lw hy];exact⟨hy,_,PM.ui x hy,y,x.fmod y,_,rfl,(PM.wQ x y).trans hg,rfl⟩
def AI (F:aw K "reduced" "reduced" nO f fd) (C:MW K mg κ)  (MD:pH P w K mg base κ)  : aJ P w K mg base (CX1 P w) 2 f fd ["triple", "lead"] (aM K (mD κ)):=by
 refine aw.okN F mj (by walk_at "l") λ_ _ _ _ _ _ hr=>⟨_,(ai (ay 2 mj.nd (aq MD hr (ae (aq MD hr (ae (aj (dv 0) aa) (ae (aj (dv 0) aa) ah))) (ae (aj (dv 0) aa) ah)))) (ai (aQ (aE cE (dv 1) aa) (ak (ay 2 mj.nd (cu (dv 2)))) aF) (ak (av (bT (ae (af bA (aj (dv 0) aa) (dv 2)) (ae (af bA (aj (dv 0) aa) (dv 2)) (ae (af bA (aj (dv 0) aa) (dv 2)) ah)))))))),?_⟩
 rintro ds Q Ed ⟨x,y,z,l,rfl,h⟩;walk_at "s";unfold jk at h;obtain⟨hz,bx,by',bz,h⟩:=h;have NK:=PM.cX (l:=l) hz;have hbd:=(Bt (l:=l) hz bx by' bz).mono (show 4000<=8000 by decide);walk_at "x";have eg:((Int.gcd (Int.gcd x y:Int) z:Nat):Int)=(PM.g3 x y z:Int):=rfl;rw[eg];have fin:∀g:Int,g=PM.ML x y z l->CD x g/\CD y g/\CD z g/\([D.int (x.fdiv g),.int (y.fdiv g),.int (z.fdiv g)]:yas).length<=sizeLine/\Q (.tup [.int (x.fdiv g),.int (y.fdiv g),.int (z.fdiv g)]):=by rintro g rfl;exact⟨⟨NK,hbd⟩,⟨NK,hbd⟩,⟨NK,hbd⟩,RS _ _ _,h⟩
 by_cases hl:l<0
 ·rw[Lx (by simpa using hl)];exact fin _ (by unfold PM.ML;rw[Lx hl])
 ·rw[Lw (by simpa using hl)];exact fin _ (by unfold PM.ML;rw[Lw hl])
def EA (F:aw K "picks" "picks" oN f fd) (C:MW K mg κ)   (LH:mg "range" = none):aJ P w K mg base (CX1 P w) 1 f fd ["count", "size"] (aM K (qk κ)):=by
 refine aw.okN F fW (by walk_at "l") λ_ _ _ _ _ _ hr=>⟨_,(ai (ay 2 fW.nd (iF (ae (iF ah) ah))) (ai (bL PassesOwn.never rfl (eE (by rfl) LH (ae (dv 1) ah)) (bf 3 fW.nd) (ai (jF 4 fW.nd ah) (ai (bL PassesOwn.never rfl (aY (dv 2)) (bf 5 fW.nd) (ai (ay 6 fW.nd (wG (aE rA (dv 3) aa) (af aG (aj (dv 5) (cu aa)) aa) aa)) (ak (BW 4 (cf (by rfl) (by exact bP (osc:=ao oN) (xs:=["number"]) (ns:=["pick"]) (by decide +kernel)) (bH.cons 5 bH.nil) (um (by rfl) LH (ae (dv 6) (ae (dv 0) ah))) (λ_ _ _ _ _=>dS) (λ_ _ _ _ _=>(af aG (dv 1) (iF (ae (dv 0) ah))))))))) (cI 4 (ak (ay 2 fW.nd (dv 4))))))) (ak (av (dv 2))))),?_⟩
 rintro ds Q Ed ⟨n,s,rfl,h⟩;walk_at "s";unfold l6 at h;obtain⟨m,t,rfl,rfl,hm,ht,h⟩:=h;have sz:∀j,j<=3->(Qr m j).length<=216000:=λj hj=>NM (oD m j) (NM (Nat.pow_le_pow_left hm j) (NM (XM (by decide) hj) (by decide)))
 walk_at "x";refine⟨OE _,by rw[sizeLine_eq];decide,?_⟩;refine PD.jG (List.range' 0 t) (λ(k:Nat)=>D.int (k:Int)) (λj ρ=>∃v3 v4 v5 v6:Option Sl,ρ=[some (.val (.int m)),some (.val (.int t)),some (.val (.lst true ((Qr m j).map Qs))),v3,v4,v5,v6]) (λR q=>?_) ⟨none,none,none,none,rfl⟩ ?_ ?_
 ·walk_at "x";rw[p8];exact⟨⟨by lia,by lia⟩,q⟩
 ·rintro j x Ly hx ⟨v3,v4,v5,v6,rfl⟩;obtain⟨hj,ex⟩:=OC.mp hx;rw[QU]at hj;rw[WU]at ex;have ex':x=j:=by lia
  subst ex';walk_at "x";refine⟨OE _,?_⟩;refine PD.oq (Qr m x) Qs (λdone ρ=>∃v5 v6:Option Sl,ρ=[some (.val (.int m)),some (.val (.int t)),some (.val (.lst true ((Qr m x).map Qs))),some (.val (.int x)),some (.own ((done.flatMap (PY m)).map Qs)),v5,v6]) (λR q=>?_) ⟨_,_,rfl⟩ ?_ ?_
  ·walk_at "x";exact q
  ·rintro done pk NP hpk NZ ⟨v5,v6,rfl⟩;obtain⟨hlen,hlt'⟩:=zu hpk;have hf:gk pk<=m:=by
    unfold gk;cases e:pk.getLast? with
    |none=>exact OE _
    |some l=>have:=hlt' l (ZW e);exact this
   have dl:done.length*m<=216000*60:=Nat.mul_le_mul (NM (S4 NZ) (sz x (by lia))) hm;have fl:=wN m done;have nl:(PY m pk).length<=60:=by unfold PY;rw[LJ,QU];lia
   have rest:∀(v:D) (Qd:D->Prop),v=.int (gk pk)->Qd (.lst true ((PY m pk).map Qs))->n5 (Am (qL (ky 6) (qL (ky 0) Ak))) [5] pL (Xg vt (ky 1) (DU (qL (ky 0) Ak))) [some (.val (.int m)),some (.val (.int t)),some (.val (.lst true ((Qr m x).map Qs))),some (.val (.int x)),some (.own ((done.flatMap (PY m)).map Qs)),some (.val (Qs pk)),some (.val v)] Qd:=by
    rintro v Qd rfl hQ;refine PD.comp_map (List.range' (gk pk) (m - gk pk)) (λ(k:Nat)=>D.int (k:Int)) (λ_=>true) (λk=>Qs (pk++[k])) (λR q=>?_) (by rw[QU,sizeLine_eq];lia) (λk hk K hK=>?_) (λk hk _ K hK=>?_) ?_
    ·walk_at "x";rw[Hq];exact⟨⟨by lia,by lia⟩,⟨by lia,by lia⟩,q⟩
    ·walk_at "x";exact hK
    ·unfold Qs at hK ⊢;walk_at "x";rw[OQ]at hK;refine⟨Vh _,?_,hK⟩;rw[LJ,sizeLine_eq,hlen];show x+1<=_
     lia
    ·rw[RK.mpr (λ_ _=>rfl)];unfold PY at hQ;rw[OH]at hQ;exact hQ
   have end_:∀v:D,∃xs,D.lst true ((PY m pk).map Qs)=D.lst true xs/\(List.map Qs (List.flatMap (PY m) done)).length+xs.length<=sizeLine/\∃v5 v6:Option Sl,([some (Sl.val (D.int m)),some (Sl.val (D.int t)),some (Sl.val (D.lst true (List.map Qs (Qr m x)))),some (Sl.val (D.int x)),some (Sl.own (List.map Qs (List.flatMap (PY m) done)++xs)),some (Sl.val (Qs pk)),some (Sl.val v)]:Ro)=[some (Sl.val (D.int m)),some (Sl.val (D.int t)),some (Sl.val (D.lst true (List.map Qs (Qr m x)))),some (Sl.val (D.int x)),some (Sl.own (List.map Qs (List.flatMap (PY m) (done++[pk])))),v5,v6]:=λv =>
    ⟨_,rfl,by rw[LJ,LJ,sizeLine_eq];lia,_,_,by rw[List.flatMap_append,OQ,List.flatMap_singleton]⟩
   walk_at "x";by_cases hx0:x=0
   ·subst hx0;have:pk=[]:=UQ hlen;subst this;rw[Lw (by lia)];exact rest _ _ rfl (end_ _)
   ·rw[Lx (by lia)];have NK:pk ≠ []:=λe=>hx0 (by rw[<- hlen,e];rfl)
    show tF (.lst true (pk.map λ(k:Nat)=>D.int (k:Int))) _ _;rw[xw];refine FZ NK ?_;rw[Bp];exact rest _ _ (by congr 1;lia) (end_ _)
  ·rintro NP ⟨v5,v6,rfl⟩;walk_at "x";exact⟨_,_,_,_,rfl⟩
 ·rintro Ly ⟨v3,v4,v5,v6,rfl⟩;walk_at "x";rw[QU];exact h
def EE (F:aw K "value" "value" tK f fd) (C:MW K mg κ)    : aJ P w K mg base (CX1 P w) 1 f fd ["gauge", "place"] (aM K (qp κ)):=by
 refine aw.okN F EZ (by walk_at "l") λ_ _ _ _ _ _ hr=>⟨_,(ak (av (af aG (af aG (af ax (aj (dv 0) aa) (aj (dv 1) aa)) (af ax (aj (dv 0) aa) (aj (dv 1) aa))) (af ax (aj (dv 0) aa) (aj (dv 1) aa))))),?_⟩
 rintro ds Q Ed ⟨g0,g1,g2,p0,p1,p2,rfl,h⟩;walk_at "s";unfold l9 at h;obtain⟨h0,h1,h2,k0,k1,k2,h⟩:=h;have cm:∀{x y:Int},Bd 1000 x->Bd 1000 y->CM x y:=λhx hy=>.inr (.inr ⟨hx.mono (by decide),hy.mono (by decide)⟩)
 walk_at "x";exact⟨cm h0 k0,cm h1 k1,cm h2 k2,h⟩
def G6 (F:aw K "side" "side" xF f fd) (C:MW K mg κ)  (Ou:Bn P w K mg base κ) (NQ:yS P w K mg base κ)  : aJ P w K mg base (CX1 P w) 2 f fd ["gauge", "place"] (aM K (ip κ)):=by
 refine aw.okN F Hs (by walk_at "l") λ_ _ _ _ _ _ hr=>⟨_,(ak (av (aq Ou hr (ae (aq NQ hr (ae (dv 0) (ae (dv 1) ah))) ah)))),?_⟩
 rintro ds Q Ed ⟨g0,g1,g2,p0,p1,p2,rfl,h⟩;walk_at "s";unfold gU at h;obtain⟨h0,h1,h2,k0,k1,k2,h⟩:=h;walk_at "x";exact⟨h0,h1,h2,k0,k1,k2,h⟩
def yv (F:aw K "is_level" "is_level" me f fd) (C:MW K mg κ)    : aJ P w K mg base (CX1 P w) 1 f fd ["gauge"] (aM K (kJ κ)):=by
 refine aw.okN F yD (by walk_at "l") λ_ _ _ _ _ _ hr=>⟨_,(ak (av (m9 (cH bD (aj (dv 0) aa) aa) (nh (cH bD (aj (dv 0) aa) aa))))),?_⟩
 rintro ds Q Ed ⟨g0,g1,g2,rfl,h⟩;walk_at "s";unfold iw at h;walk_at "x";by_cases e1:g1=0
 ·rw[Lx e1];by_cases e2:g2=0
  ·rw[NL e2];rw[NL ⟨e1,e2⟩]at h;exact h
  ·rw[R5 e2];rw[R5 (λz=>e2 z.2)]at h;exact h
 ·rw[Lw e1];rw[R5 (λz=>e1 z.1)]at h;exact h
def AF (F:aw K "crossed" "crossed" nL f fd) (C:MW K mg κ)    : aJ P w K mg base (CX1 P w) 1 f fd ["one", "other"] (aM K (mz κ)):=by
 refine aw.okN F AV (by walk_at "l") λ_ _ _ _ _ _ hr=>⟨_,(ak (av (bT (ae (af aU (af ax (aj (dv 0) aa) (aj (dv 1) aa)) (af ax (aj (dv 1) aa) (aj (dv 0) aa))) (ae (af aU (af ax (aj (dv 0) aa) (aj (dv 1) aa)) (af ax (aj (dv 1) aa) (aj (dv 0) aa))) (ae (af aU (af ax (aj (dv 0) aa) (aj (dv 1) aa)) (af ax (aj (dv 1) aa) (aj (dv 0) aa))) ah)))))),?_⟩
 rintro ds Q Ed ⟨a0,a1,a2,b0,b1,b2,rfl,h⟩;walk_at "s";unfold jh at h;obtain⟨h0,h1,h2,k0,k1,k2,h⟩:=h;have cm:∀{x y:Int},Bd 200 x->Bd 200 y->CM x y:=λhx hy=>.inr (.inr ⟨hx.mono (by decide),hy.mono (by decide)⟩)
 walk_at "x";exact⟨cm h1 k2,cm k1 h2,cm h2 k0,cm k2 h0,cm h0 k1,cm k0 h1,RS _ _ _,h⟩
def G3 (F:aw K "line" "line" xD f fd) (C:MW K mg κ)  (OV:Bj P w K mg base κ) (Ov:zX P w K mg base κ) (Ng:tY P w K mg base κ)  : aJ P w K mg base (CX1 P w) 3 f fd ["one", "other"] (aM K (tT κ)):=by
 refine aw.okN F zL (by walk_at "l") λ_ _ _ _ _ _ hr=>⟨_,(ai (ay 2 zL.nd (aq OV hr (ae (dv 0) (ae (dv 1) ah)))) (ai (aQ (cw (aq Ov hr (ae (dv 2) ah))) (ak wI) aF) (ak (av (aq Ng hr (ae (dv 2) (ae (wG (aE iH (aj (dv 2) aa) aa) (aj (dv 2) aa) (aj (dv 2) aa)) ah))))))),?_⟩
 rintro ds Q Ed ⟨a0,a1,a2,b0,b1,b2,rfl,h⟩;walk_at "s";unfold oJ at h;obtain⟨h0,h1,h2,k0,k1,k2,hz,h⟩:=h;have B0:=fQ h1 k2 k1 h2;have B1:=fQ h2 k0 k2 h0;have B2:=fQ h0 k1 k0 h1;walk_at "x";refine⟨h0,h1,h2,k0,k1,k2,?_⟩;walk_at "x";rw[Lw hz];have Qp:¬(a1*b2 - b1*a2=0/\a2*b0 - b2*a0=0/\a0*b1 - b0*a1=0):=λe=>hz e.2
 unfold AS ld LL at h;by_cases hy:a2*b0 - b2*a0=0
 ·rw[Lx hy]at h;rw[Lx hy];exact⟨Qp,B0.mono (by decide),B1.mono (by decide),B2.mono (by decide),h⟩
 ·rw[Lw hy]at h;rw[Lw hy];exact⟨Qp,B0.mono (by decide),B1.mono (by decide),B2.mono (by decide),h⟩
def EB (F:aw K "place" "place" tI f fd) (C:MW K mg κ)  (Ng:tY P w K mg base κ)  : aJ P w K mg base (CX1 P w) 3 f fd ["by", "x", "y"] (aM K (ql κ)):=by
 refine aw.okN F EW (by walk_at "l") λ_ _ _ _ _ _ hr=>⟨_,(ai (aQ (aE bD (dv 0) aa) (ak wI) aF) (ak (av (aq Ng hr (ae (bT (ae (dv 0) (ae (dv 1) (ae (dv 2) ah)))) (ae (dv 0) ah)))))),?_⟩
 rintro ds Q Ed ⟨b,x,y,rfl,h⟩;walk_at "s";unfold l7 at h;obtain⟨hb,h0,h1,h2,h⟩:=h;walk_at "x";rw[Lw hb];exact⟨RS _ _ _,λz=>hb z.1,h0,h1,h2,h⟩
def yA (F:aw K "place_of" "place_of" mi f fd) (C:MW K mg κ)    : aJ P w K mg base (CX1 P w) 1 f fd ["spot"] (aM K (kL κ)):=by
 refine aw.okN F yF (by walk_at "l") λ_ _ _ _ _ _ hr=>⟨_,(ak (av (bT (ae aa (ae (aj (dv 0) aa) (ae (aj (dv 0) aa) ah)))))),?_⟩
 rintro ds Q Ed ⟨a,b,rfl,h⟩;walk_at "s";unfold iz at h;walk_at "x";exact⟨RS _ _ _,h⟩
def G4 (F:aw K "rank" "rank" xE f fd) (C:MW K mg κ)  (Ou:Bn P w K mg base κ)  : aJ P w K mg base (CX1 P w) 2 f fd ["one", "other"] (aM K (oO κ)):=by
 refine aw.okN F zM (by walk_at "l") λ_ _ _ _ _ _ hr=>⟨_,(ai (ay 2 zM.nd (aq Ou hr (ae (af aU (af ax (aj (dv 0) aa) (aj (dv 1) aa)) (af ax (aj (dv 1) aa) (aj (dv 0) aa))) ah))) (ai (aQ (aE iH (dv 2) aa) (ak (av (dv 2))) aF) (ak (av (aq Ou hr (ae (af aU (af ax (aj (dv 0) aa) (aj (dv 1) aa)) (af ax (aj (dv 1) aa) (aj (dv 0) aa))) ah)))))),?_⟩
 rintro ds Q Ed ⟨a0,a1,a2,b0,b1,b2,rfl,h⟩;walk_at "s";unfold lr at h;obtain⟨h0,h1,h2,k0,k1,k2,h⟩:=h;have cm:∀{x y:Int},Bd 1000 x->Bd 1000 y->CM x y:=λhx hy=>.inr (.inr ⟨hx.mono (by decide),hy.mono (by decide)⟩)
 walk_at "x";refine⟨cm h1 k0,cm k1 h0,?_⟩;unfold rk at h;split
 ·rename_i z;rw[Lx z]at h;exact⟨cm h2 k0,cm k2 h0,h⟩
 ·rename_i z;rw[Lw z]at h;exact h
def EC (F:aw K "swing" "swing" tJ f fd) (C:MW K mg κ)    : aJ P w K mg base (CX1 P w) 1 f fd ["one", "two", "three"] (aM K (mF κ)):=by
 refine aw.okN F EX (by walk_at "l") λ_ _ _ _ _ _ hr=>⟨_,(ak (av (af aG (af aG (af ax (aj (dv 0) aa) (af aU (af ax (aj (dv 1) aa) (aj (dv 2) aa)) (af ax (aj (dv 2) aa) (aj (dv 1) aa)))) (af ax (aj (dv 1) aa) (af aU (af ax (aj (dv 2) aa) (aj (dv 0) aa)) (af ax (aj (dv 0) aa) (aj (dv 2) aa))))) (af ax (aj (dv 2) aa) (af aU (af ax (aj (dv 0) aa) (aj (dv 1) aa)) (af ax (aj (dv 1) aa) (aj (dv 0) aa))))))),?_⟩
 rintro ds Q Ed ⟨a0,a1,a2,b0,b1,b2,c0,c1,c2,rfl,h⟩;walk_at "s";unfold jM at h;obtain⟨h0,h1,h2,k0,k1,k2,l0,l1,l2,h⟩:=h;have cm:∀{x y:Int},Bd 1000 x->Bd 1000 y->CM x y:=λhx hy=>.inr (.inr ⟨hx.mono (by decide),hy.mono (by decide)⟩)
 have c3:∀{x p q r s:Int},Bd 1000 x->Bd 1000 p->Bd 1000 q->Bd 1000 r->Bd 1000 s->CM x (p*q - r*s):=λhx hp hq hr hs=>.inr (.inr ⟨hx.mono (by decide),((hp.mul hq).sub (hr.mul hs)).mono (by decide)⟩)
 walk_at "x";exact⟨cm k1 l2,cm l1 k2,c3 h0 k1 l2 l1 k2,cm l1 h2,cm h1 l2,c3 k0 l1 h2 h1 l2,cm h1 k2,cm k1 h2,c3 l0 h1 k2 k1 h2,h⟩
def AJ (F:aw K "spot_of" "spot_of" nP f fd) (C:MW K mg κ)    : aJ P w K mg base (CX1 P w) 1 f fd ["dot"] (aM K (mE κ)):=by
 refine aw.okN F AX (by walk_at "l") λ_ _ _ _ _ _ hr=>⟨_,(ak (av (bT (ae (aj (dv 0) aa) (ae (aj (dv 0) aa) ah))))),?_⟩
 rintro ds Q Ed ⟨p,rfl,h⟩;walk_at "s";unfold jo at h;unfold LS;walk_at "x";exact⟨sz2 _ _,h⟩
def yC (F:aw K "spots_of" "spots_of" jr f fd) (C:MW K mg κ)  (LV:j4 P w K mg base κ)  : aJ P w K mg base (CX1 P w) 2 f fd ["dots"] (aM K (kN κ)):=by
 refine aw.okN F yH (by walk_at "l") λ_ _ _ _ _ _ hr=>⟨_,(ak (av (cf (by rfl) (by exact bP (osc:=ao jr) (xs:=["dot"]) (ns:=[]) (by decide +kernel)) bH.nil (aY (dv 0)) (λ_ _ _ _ _=>dS) (λ_ _ _ _ _=>(aq LV hr (ae (dv 0) ah)))))),?_⟩
 rintro ds Q Ed ⟨ps,rfl,h⟩;walk_at "s";unfold iA at h;obtain⟨hl,h⟩:=h;walk_at "x";refine PD.comp_map ps LS (λ_=>true) (λp=>Qq (NB p)) (λR q=>?_) (by rw[sizeLine_eq];lia) (λp hp K hK=>?_) (λp hp _ K hK=>?_) ?_
 ·walk_at "x";exact q
 ·walk_at "x";exact hK
 ·walk_at "x";exact hK
 ·rw[RK.mpr (λ_ _=>rfl)];rw[OH]at h;exact h
def xg (F:aw K "of_colour" "of_colour" iB f fd) (C:MW K mg κ)    : aJ P w K mg base (CX1 P w) 1 f fd ["dots", "colour"] (aM K (jV κ)):=by
 refine aw.okN F xJ (by walk_at "l") λ_ _ _ _ _ _ hr=>⟨_,(ak (av (cf (by rfl) (by exact bP (osc:=ao iB) (xs:=["dot"]) (ns:=["colour"]) (by decide +kernel)) (bH.cons 1 bH.nil) (aY (dv 0)) (λ_ _ _ _ _=>(rZ (Qe.pt (gh (aE rB (dv 1) kR) (iG (aE (vo (by exact hr.units)) (aj (dv 0) aa) (dv 1))))))) (λ_ _ _ _ _=>(dv 0))))),?_⟩
 rintro ds Q Ed ⟨ps,col,rfl,h⟩;walk_at "s";unfold gD at h;obtain⟨cs,hc,hl,h⟩:=h;walk_at "x";refine PD.comp_map ps LS (λp=>cs p.2.2.1) LS (λR q=>?_) (by rw[sizeLine_eq];lia) (λp hp K hk=>?_) (λp hp _ K hk=>?_) h
 ·walk_at "x";exact q
 ·unfold LS;rcases hc with⟨rfl,rfl⟩| ⟨k,rfl,rfl⟩
  ·walk_at "x";exact hk
  ·walk_at "x";exact hk
 ·walk_at "x";exact hk
def ED (F:aw K "total" "total" hJ f fd) (C:MW K mg κ)  (MM:o4 P w K mg base κ) (NG:mg "sum" = none):aJ P w K mg base (CX1 P w) 2 f fd ["dots", "colour"] (aM K (jX κ)):=by
 refine aw.okN F EY (by walk_at "l") λ_ _ _ _ _ _ hr=>⟨_,(ak (av (aP (vZ rfl) (by rfl) NG boot_sum (ae (cf (by rfl) (by exact bP (osc:=ao hJ) (xs:=["dot"]) (ns:=[]) (by decide +kernel)) bH.nil (aY (aq MM hr (ae (dv 0) (ae (dv 1) ah)))) (λ_ _ _ _ _=>dS) (λ_ _ _ _ _=>(aj (dv 0) aa))) ah)))),?_⟩
 rintro ds Q Ed ⟨ps,col,rfl,h⟩;walk_at "s";unfold l8 at h;obtain⟨cs,hc,hl,h⟩:=h;have hu:=hc.unt;unfold RV at h;walk_at "x";refine PD.comp_map (ps.filter λp=>cs p.2.2.1) LS (λ_=>true) (λp=>.int p.2.2.2) (λR q=>?_) (by have:=ZR (λp:Dt=>cs p.2.2.1) ps;rw[sizeLine_eq];lia) (λp hp K hk=>?_) (λp hp _ K hk=>?_) ⟨true,(ps.filter λp=>cs p.2.2.1).map λp=>p.2.2.2,by simp[OH,Function.comp_def],h⟩
 ·walk_at "x";simp only[hu];exact⟨cs,hc,hl,q⟩
 ·walk_at "x";exact hk
 ·unfold LS;walk_at "x";exact hk
def AK (F:aw K "weighed" "weighed" fZ f fd) (C:MW K mg κ)  (MM:o4 P w K mg base κ) (Mg:lK P w K mg base κ) (Oc:Bm P w K mg base κ) (LV:j4 P w K mg base κ)  : aJ P w K mg base (CX1 P w) 3 f fd ["dots", "gauge", "colour"] (aM K (gP κ)):=by
 refine aw.okN F ml (by walk_at "l") λ_ _ _ _ _ _ hr=>⟨_,(ai (D1 3 ml.nd (sJ (cu aa) aa (sJ aa aa (sJ aa aa IH)))) (ai (bL PassesOwn.never rfl (aY (aq MM hr (ae (dv 0) (ae (dv 2) ah)))) (bf 4 ml.nd) (ak (F8 3 (by exact vh hr) (aq Oc hr (ae (dv 1) (ae (aq Mg hr (ae (aq LV hr (ae (dv 4) ah)) ah)) ah))) (aj (dv 4) aa)))) (ak (av (bT (ae (wF 3 (by exact vh hr) (cu aa)) (ae (wF 3 (by exact vh hr) aa) (ae (wF 3 (by exact vh hr) aa) ah)))))))),?_⟩
 rintro ds Q Ed ⟨ps,g0,g1,g2,col,rfl,h⟩;walk_at "s";unfold gF at h;obtain⟨cs,hc,hl,h0,h1,h2,hg,h⟩:=h;have hu:=hc.unt;walk_at "x";refine⟨[(.inl (-1),.int 0),(.inl 0,.int 0),(.inl 1,.int 0)],rfl,by decide,by decide,?_⟩;refine PD.oq (ps.filter λp=>cs p.2.2.1) LS (λdone ρ=>∃v,ρ=[some (.val (.lst false (ps.map LS))),some (.val (T3 g0 g1 g2)),some (.val col),some (.ob (.dk [(.inl (-1),.int (w3 g0 g1 g2 (-1) done)),(.inl 0,.int (w3 g0 g1 g2 0 done)),(.inl 1,.int (w3 g0 g1 g2 1 done))])),v]) (λR q=>?_) ⟨none,rfl⟩ ?_ ?_
 ·walk_at "x";simp only[hu];exact⟨cs,hc,hl,q⟩
 ·rintro done p Ly hp NZ ⟨v,rfl⟩;have G:=hg p (Rb.mp hp).1;have e:g0*1+g1*p.1+g2*p.2.1=gv g0 g1 g2 p:=by unfold gv;lia
  walk_at "x";refine⟨h0,h1,h2,Bd.mono (m:=2) (by unfold Bd;decide) (by decide),G.x.mono (by decide),G.y.mono (by decide),?_⟩;rw[e];have sn:=HG g0 g1 g2;rcases WG (gv g0 g1 g2 p)with z|z|z
  ·refine⟨.inl (-1),_,by rw[z];rfl,rfl,?_⟩;unfold LS;walk_at "x";refine⟨by rw[sizeLine_eq];show 3<16777216;decide,some (.val (.tup [.int p.1,.int p.2.1,.int p.2.2.1,.int p.2.2.2])),?_⟩;rw[Ku,sn,sn,sn,z];simp
  ·refine⟨.inl 0,_,by rw[z];rfl,rfl,?_⟩;unfold LS;walk_at "x";refine⟨by rw[sizeLine_eq];show 3<16777216;decide,some (.val (.tup [.int p.1,.int p.2.1,.int p.2.2.1,.int p.2.2.2])),?_⟩;rw[Kv,sn,sn,sn,z];simp
  ·refine⟨.inl 1,_,by rw[z];rfl,rfl,?_⟩;unfold LS;walk_at "x";refine⟨by rw[sizeLine_eq];show 3<16777216;decide,some (.val (.tup [.int p.1,.int p.2.1,.int p.2.2.1,.int p.2.2.2])),?_⟩;rw[Kw,sn,sn,sn,z];simp
 ·rintro Ly ⟨v,rfl⟩;walk_at "x";exact⟨.inl (-1),_,rfl,rfl,.inl 0,_,rfl,rfl,.inl 1,_,rfl,rfl,RS _ _ _,h⟩
def Ez (F:aw K "chain" "chain" tH f fd) (C:MW K mg κ)  (QH:FV P w K mg base κ) (LD:mg "len" = none):aJ P w K mg base (CX1 P w) 2 f fd ["places"] (aM K (qg κ)):=by
 refine aw.okN F qb (by walk_at "l") λ_ _ _ _ _ _ hr=>⟨_,(ai (jF 1 qb.nd ah) (ai (bL PassesOwn.never rfl (aY (dv 0)) (bf 2 qb.nd) (ai (pN PassesOwn.never (Gb 1 (Qe.pt (qQ (aE rA (aP bK (by rfl) LD Qk (ae (dv 1) ah)) aa) (og (aE vq (aq QH hr (ae (aj (dv 1) (cu aa)) (ae (aj (dv 1) (cu aa)) (ae (dv 2) ah)))) aa))))) (ak (IJ 1))) (ak (dA 1 (dv 2))))) (cI 1 (ak (av (dv 1)))))),?_⟩
 rintro ds Q Ed ⟨ps,rfl,h⟩;walk_at "s";unfold jL at h;obtain⟨hl,hb,h⟩:=h;walk_at "x";refine⟨OE _,?_⟩;refine PD.oq ps Oa (λdone ρ=>∃v:Option Sl,ρ=[some (.val (.lst false (ps.map Oa))),some (.own ((bE [] done).reverse.map Oa)),v]/\(bE [] done).length<=done.length/\∀p∈bE [] done,SB p) ?_ ?_ ?_ ?_
 ·intro R hR;walk_at "x";exact hR
 ·exact⟨none,rfl,Mw _,by simp[bE]⟩
 ·rintro done x Ly hx NZ ⟨v,rfl,hL,hS⟩;walk_at "x";refine⟨λm ρ=>∃st:yat,ρ=[some (.val (.lst false (ps.map Oa))),some (.own (st.reverse.map Oa)),some (.val (Oa x))]/\m=st.length/\b6 st x=b6 (bE [] done) x/\st.length<=done.length/\∀p∈st,SB p,⟨_,_,rfl,rfl,rfl,hL,hS⟩,?_⟩;rintro m ρ ⟨st,rfl,rfl,hp,hM,hB⟩;have stop:b6 st x=st->((st.reverse.map Oa).length<sizeLine/\∃v:Option Sl,([some (.val (.lst false (ps.map Oa))),some (.own (st.reverse.map Oa++[Oa x])),some (.val (Oa x))]:Ro)=[some (.val (.lst false (ps.map Oa))),some (.own ((bE [] (done++[x])).reverse.map Oa)),v]/\(bE [] (done++[x])).length<=(done++[x]).length/\∀p∈bE [] (done++[x]),SB p):=λe=>by
   have e2:bE [] (done++[x])=x::st:=by rw[o6,<- hp,e]
   rw[e2];refine⟨by rw[LJ,TN,sizeLine_eq];lia,_,by rw[VL,OQ];rfl,by simp;lia,λp hq=>?_⟩;rcases L9.mp hq with z|z
   ·rw[z];exact hb x hx
   ·exact hB p z
  walk_at "x";rcases st with _|⟨b,_|⟨a,r⟩⟩
  ·rw[Lw (by simp)];exact stop rfl
  ·rw[Lw (by simp)];exact stop rfl
  ·rw[Lx (by simp;lia)];have eL:(b::a::r).reverse.map Oa=r.reverse.map Oa++[Oa a]++[Oa b]:=by simp
   have Ba:=hB a (by simp);have Bb:=hB b (by simp);have Bx:=hb x hx;have o1:Bd 1000 1:=by unfold Bd;decide
   refine⟨_,by rw[eL];exact Br _ _ _,_,by rw[eL];exact DD _ _,?_⟩
   try simp only[qr]
   show mF κ [T3 1 a.1 a.2,T3 1 b.1 b.2,T3 1 x.1 x.2] _ _;rw[pD,jM];refine⟨o1,Ba.x.mono (by decide),Ba.y.mono (by decide),o1,Bb.x.mono (by decide),Bb.y.mono (by decide),o1,Bx.x.mono (by decide),Bx.y.mono (by decide),?_⟩;rw[dI];refine⟨_,rfl,?_⟩;by_cases c:sw 1 a.1 a.2 1 b.1 b.2 1 x.1 x.2<=0
   ·have c':cr a b x<=0:=c;rw[Lx (by simpa using c)];refine⟨by simp,(a::r).length,by simp,a::r,?_,rfl,?_,?_,λp hq=>hB p (MO _ hq)⟩
    ·rw[eL,List.dropLast_concat];simp
    ·rw[<- hp];conv=>rhs;unfold b6
     rw[Lx c']
    ·simp at hM ⊢;lia
   ·have c':¬cr a b x<=0:=c;rw[Lw (by simpa using c)];exact stop (by unfold b6;rw[Lw c'])
 ·rintro Ly ⟨v,rfl,_⟩;walk_at "x";exact h
def G0 (F:aw K "hull" "hull" rK f fd) (C:MW K mg κ)  (Pm:FR P w K mg base κ) (Mg:lK P w K mg base κ) (LD:mg "len" = none) (Oo:mg "set" = none) (MH:mg "sorted" = none):aJ P w K mg base (CX1 P w) 3 f fd ["spots"] (aM K (tQ κ)):=by
 refine aw.okN F zK (by walk_at "l") λ_ _ _ _ _ _ hr=>⟨_,(ai (lQ 1 zK.nd (by rfl) (by exact bP (osc:=ao rK) (xs:=["spot"]) (ns:=[]) (by decide +kernel)) bH.nil (aY ((qO rfl (by exact Ce hr) (by rfl) MH (by rfl) Oo (dv 0))).SE) (λ_ _ _ _ _=>dS) (λ_ _ _ _ _=>(aq Mg hr (ae (dv 0) ah)))) (ai (aQ (aE cE (aP bK (by rfl) LD Qk (ae (dv 1) ah)) aa) (ak (av (dv 1))) aF) (ak (av (af aG (Qo.SE (fR (aq Pm hr (ae (dv 1) ah)) eV (eW (cu aa)))) (Qo.SE (fR (aq Pm hr (ae (Qo.SE (IG (dv 1))) ah)) eV (eW (cu aa))))))))),?_⟩
 rintro ds Q Ed ⟨ps,rfl,h⟩;walk_at "s";unfold oI at h;obtain⟨hl,hb,h⟩:=h;walk_at "x";refine wu (P:=λys=>cF ys ps/\ys.length<=ps.length) Qq Oa (λR hR=>?_) (λys hy=>by rw[sizeLine_eq];omega) (λys hy x hx K k=>?_) λys hy=>?_
 ·refine⟨false,ps.map SK,by rw[FH],by rw[LJ];omega,λk hk=>?_,λzs hz=>?_⟩
  ·obtain⟨p,_,e⟩:=Ms.mp hk;rw[<- e];exact List.cons_ne_nil _ _
  ·obtain⟨ys,rfl,hy⟩:=C1 hz;rw[<- FH];exact⟨true,_,rfl,hR ys ⟨hy,l5 hy⟩⟩
 ·unfold Qq;walk_at "x";exact k
 ·have ly:=hy.2;have bs:∀p∈ys,SB p:=λp hp=>hb p ((hy.1.2 p).mp hp)
  have hQ:=h ys hy.1 hy.2;have l1:=jJ [] ys;have l2:=jJ [] ys.reverse;simp only[List.length_nil,TN]at l1 l2;unfold aS at hQ;walk_at "x";rw[LJ];split
  ·rename_i c;rw[Lx (by omega)]at hQ;exact hQ
  ·rename_i c;rw[Lw (by omega)]at hQ;refine⟨by omega,bs,?_⟩;rw[<- List.map_reverse,r9,pC,jL];refine⟨by rw[TN];omega,λp hp=>bs p (SX.mp hp),true,_,rfl,?_⟩;rw[wz,wz];refine⟨?_,?_⟩
   ·rw[Ue,Ue,LJ,LJ,TN,TN,sizeLine_eq];omega
   ·rw[<- List.map_dropLast,<- List.map_dropLast,<- OQ];exact hQ
def rD (F:aw K "on_two_spots" "on_two_spots" gZ f fd) (C:MW K mg κ)  (LV:j4 P w K mg base κ)  : aJ P w K mg base (CX1 P w) 2 f fd ["dots", "pair"] (aM K (gO κ)):=by
 refine aw.okN F rO (by walk_at "l") λ_ _ _ _ _ _ hr=>⟨_,(ak (av (cH (AD (by exact hr.units)) (aq LV hr (ae (aj (dv 0) (aj (dv 1) aa)) ah)) (aq LV hr (ae (aj (dv 0) (aj (dv 1) aa)) ah))))),?_⟩
 rintro ds Q Ed ⟨ps,ij,rfl,h⟩;walk_at "s";unfold d4 at h;obtain⟨h1,h2,h⟩:=h;unfold QG;walk_at "x";refine vg h1 ?_;walk_at "x";refine vg h2 ?_;walk_at "x";refine⟨(CJ _ _).ok,(CJ _ _).ok,?_⟩;rw[Ju];exact h
def uS (F:aw K "spot_pairs" "spot_pairs" eI f fd) (C:MW K mg κ)  (Nl:sr P w K mg base κ) (QI:FT P w K mg base κ) (LD:mg "len" = none):aJ P w K mg base (CX1 P w) 3 f fd ["dots"] (aM K (i9 κ)):=by
 refine aw.okN F mT (by walk_at "l") λ_ _ _ _ _ _ hr=>⟨_,(ai (lQ 1 mT.nd (by rfl) (by exact bP (osc:=ao eI) (xs:=["pick"]) (ns:=[]) (by decide +kernel)) bH.nil (aY (aq QI hr (ae (aP bK (by rfl) LD Qk (ae (dv 0) ah)) (ae aa ah)))) (λ_ _ _ _ _=>dS) (λ_ _ _ _ _=>(bT (ae (aj (dv 0) aa) (ae (aj (dv 0) aa) ah))))) (ak (av (cf (by rfl) (by exact bP (osc:=ao eI) (xs:=["pair"]) (ns:=["dots"]) (by decide +kernel)) (bH.cons 0 bH.nil) (aY (dv 1)) (λ_ _ _ _ _=>(rZ (cw (aq Nl hr (ae (dv 1) (ae (dv 0) ah)))))) (λ_ _ _ _ _=>(dv 0)))))),?_⟩
 rintro ds Q Ed ⟨ps,rfl,h⟩;walk_at "s";unfold fL at h;obtain⟨hl,h⟩:=h;have hz:(T9 ps.length).length<=sizeLine:=by
  have e:=oD ps.length 2;rw[Ek,LJ]at e;have:ps.length ^ 2<=60 ^ 2:=Nat.pow_le_pow_left hl 2;rw[sizeLine_eq]
  lia
 walk_at "x";refine PD.comp_map (T9 ps.length) (λij=>Qs [ij.1,ij.2]) (λ_=>true) QG (λR q=>?_) hz (λij NO K hK=>?_) (λij NO _ K hK=>?_) ?_
 ·walk_at "x";refine⟨ps.length,2,by rw[LJ],rfl,hl,by decide,?_⟩;rw[Ek,OH];exact q
 ·walk_at "x";exact hK
 ·unfold Qs;walk_at "x";exact⟨sz2 _ _,hK⟩
 ·rw[RK.mpr (λ_ _=>rfl)];walk_at "x";refine PD.comp_map (T9 ps.length) QG (λij=>decide (NB (gp ps ij.1)≠NB (gp ps ij.2))) QG (λR q=>?_) hz (λij NO K hK=>?_) (λij NO _ K hK=>?_) h
  ·walk_at "x";exact q
  ·have m:=zB.mp (show(ij.1,ij.2)∈T9 ps.length from NO);walk_at "x";exact⟨by lia,by lia,hK⟩
  ·walk_at "x";exact hK
def xh (F:aw K "pair_line" "pair_line" kI f fd) (C:MW K mg κ)  (RB:HN P w K mg base κ) (Mg:lK P w K mg base κ) (LV:j4 P w K mg base κ)  : aJ P w K mg base (CX1 P w) 4 f fd ["dots", "pair"] (aM K (jW κ)):=by
 refine aw.okN F xK (by walk_at "l") λ_ _ _ _ _ _ hr=>⟨_,(ak (av (aq RB hr (ae (aq Mg hr (ae (aq LV hr (ae (aj (dv 0) (aj (dv 1) aa)) ah)) ah)) (ae (aq Mg hr (ae (aq LV hr (ae (aj (dv 0) (aj (dv 1) aa)) ah)) ah)) ah))))),?_⟩
 rintro ds Q Ed ⟨ps,ij,rfl,h⟩;walk_at "s";unfold gE at h;obtain⟨h1,h2,hG,ne,h⟩:=h;have G1:=hG _ (kT h1);have G2:=hG _ (kT h2);unfold QG;walk_at "x";refine vg h1 ?_;walk_at "x";refine vg h2 ?_;walk_at "x";have one:Bd 200 1:=Bd.mono (m:=2) (by unfold Bd;decide) (by decide);generalize gp ps ij.1=p at *;generalize gp ps ij.2=q at *;refine⟨one,G1.x.mono (by decide),G1.y.mono (by decide),one,G2.x.mono (by decide),G2.y.mono (by decide),?_,?_⟩
 ·rintro⟨e1,e2⟩;refine ne ?_;unfold NB;simp only[Rc]
  lia
 ·exact h
def yB (F:aw K "split_by" "split_by" jq f fd) (C:MW K mg κ)  (OW:sv P w K mg base "weighed" 3 ["dots", "gauge", "colour"] "colour" (gP κ)) (Oo:mg "set" = none) (MH:mg "sorted" = none):aJ P w K mg base (CX1 P w) 4 f fd ["dots", "lines"] (aM K (kM κ)):=by
 refine aw.okN F yG (by walk_at "l") λ_ _ _ _ _ _ hr=>⟨_,(ak (av (cf (by rfl) (by exact bP (osc:=ao jq) (xs:=["each"]) (ns:=["dots"]) (by decide +kernel)) (bH.cons 0 bH.nil) (aY ((qO rfl (by exact Ce hr) (by rfl) MH (by rfl) Oo (dv 1))).SE) (λ_ _ _ _ _=>dS) (λ_ _ _ _ _=>(af aG (bT (ae (dv 0) ah)) (nc OW (hr.mono (by decide)) (ae (dv 1) (ae (dv 0) ah)))))))),?_⟩
 rintro ds Q Ed ⟨ps,ls,rfl,h⟩;walk_at "s";unfold fz at h;obtain⟨hl,hG,hn,hb,h⟩:=h;walk_at "x";refine wu (P:=λys=>cG ys ls) LL (xB ps) (λR hR=>?_) (λys hy=>by have:=j7 hy;rw[sizeLine_eq];lia) (λys hy x hx K k=>?_) λys hy=>?_
 ·refine⟨false,ls.map Sn,by rw[FK],by rw[LJ];exact hn,λk hk=>?_,λzs hz=>?_⟩
  ·obtain⟨p,_,e⟩:=Ms.mp hk;rw[<- e];exact List.cons_ne_nil _ _
  ·obtain⟨ys,rfl,hy⟩:=C2 hz;rw[FK];exact⟨true,_,rfl,hR ys hy⟩
 ·obtain⟨b0,b1,b2⟩:=hb x ((hy.2 x).mp hx);walk_at "x";refine⟨Vh _,?_⟩;show gP κ [.lst false (ps.map LS),T3 x.1 x.2.1 x.2.2,.Mj] _ _;rw[mV,gF];refine⟨λ_=>true,.inl ⟨rfl,rfl⟩,hl,b0,b1,b2,hG,?_⟩;walk_at "x";exact⟨by rw[sizeLine_eq];show 4<=_;lia,k⟩
 ·exact h ys hy
def uR (F:aw K "pair_lines" "pair_lines" gI f fd) (C:MW K mg κ)  (Od:xX P w K mg base κ) (NR:vK P w K mg base κ)  : aJ P w K mg base (CX1 P w) 5 f fd ["dots"] (aM K (i8 κ)):=by
 refine aw.okN F uU (by walk_at "l") λ_ _ _ _ _ _ hr=>⟨_,(ak (av (cf (by rfl) (by exact bP (osc:=ao gI) (xs:=["pair"]) (ns:=["dots"]) (by decide +kernel)) (bH.cons 0 bH.nil) (aY (aq NR hr (ae (dv 0) ah))) (λ_ _ _ _ _=>dS) (λ_ _ _ _ _=>(aq Od hr (ae (dv 1) (ae (dv 0) ah))))))),?_⟩
 rintro ds Q Ed ⟨ps,rfl,h⟩;walk_at "s";unfold fK at h;obtain⟨hl,hG,h⟩:=h;have hz:(Vy ps).length<=sizeLine:=by
  have:=zv ps;unfold sW at this;rw[LJ]at this;have:ps.length*ps.length<=30*30:=Nat.mul_le_mul hl hl;rw[sizeLine_eq]
  lia
 walk_at "x";refine PD.comp_map (Vy ps) QG (λ_=>true) (λij=>LL (SQ (gp ps ij.1) (gp ps ij.2))) (λR q=>?_) hz (λij NO K hK=>?_) (λij NO _ K hK=>?_) ?_
 ·walk_at "x";exact⟨by lia,q⟩
 ·walk_at "x";exact hK
 ·obtain⟨a,b,c⟩:=k7.mp NO;walk_at "x";exact⟨by lia,b,hG,c,hK⟩
 ·rw[RK.mpr (λ_ _=>rfl)];unfold sW at h;rw[OH]at h;exact h
def p4 (F:aw K "place_between" "place_between" gJ f fd) (C:MW K mg κ)  (QJ:FU P w K mg base κ) (NQ:yS P w K mg base κ)  : aJ P w K mg base (CX1 P w) 4 f fd ["one", "other", "gauge"] (aM K (dM κ)):=by
 refine aw.okN F fX (by walk_at "l") λ_ _ _ _ _ _ hr=>⟨_,(ai (ay 3 fX.nd (aq NQ hr (ae (dv 2) (ae (dv 0) ah)))) (ai (ay 4 fX.nd (aq NQ hr (ae (dv 2) (ae (dv 1) ah)))) (ak (av (aq QJ hr (ae (af aU (af ax (dv 4) (aj (dv 0) aa)) (af ax (dv 3) (aj (dv 1) aa))) (ae (af aU (af ax (dv 4) (aj (dv 0) aa)) (af ax (dv 3) (aj (dv 1) aa))) (ae (af aU (af ax (dv 4) (aj (dv 0) aa)) (af ax (dv 3) (aj (dv 1) aa))) ah)))))))),?_⟩
 rintro ds Q Ed ⟨a0,a1,a2,b0,b1,b2,g0,g1,g2,rfl,h⟩;walk_at "s";unfold cC at h;obtain⟨Ri,RC,RZ,Rj,RD,R0,Sk,Ry,UM,hw,h⟩:=h;have m:∀{x:Int},Bd 200 x->Bd 1000 x:=λh=>h.mono (by decide)
 have hv:Bd 402 (g0*a0+g1*a1+g2*a2):=((Sk.mul Ri).add (Ry.mul RC)).add ((UM.mul RZ).mono (by decide));have ht:Bd 402 (g0*b0+g1*b1+g2*b2):=((Sk.mul Rj).add (Ry.mul RD)).add ((UM.mul R0).mono (by decide));walk_at "x";refine⟨m Sk,m Ry,m UM,m Ri,m RC,m RZ,m Sk,m Ry,m UM,m Rj,m RD,m R0,Qg ht Ri,Qg hv Rj,Qg ht RC,Qg hv RD,Qg ht RZ,Qg hv R0,hw,?_,?_,?_,?_⟩
 ·exact((ht.mul Ri).sub (hv.mul Rj)).mono (by decide)
 ·exact((ht.mul RC).sub (hv.mul RD)).mono (by decide)
 ·exact((ht.mul RZ).sub (hv.mul R0)).mono (by decide)
 ·exact h
def AE (F:aw K "clipped" "clipped" kf f fd) (C:MW K mg κ)  (M7:qz P w K mg base κ) (Oc:Bm P w K mg base κ) (LD:mg "len" = none) (LH:mg "range" = none):aJ P w K mg base (CX1 P w) 5 f fd ["corners", "gauge"] (aM K (jt κ)):=by
 refine aw.okN F gL (by walk_at "l") λ_ _ _ _ _ _ hr=>⟨_,(ai (jF 2 gL.nd ah) (ai (bL PassesOwn.never rfl (eE (by rfl) LH (ae (aP bK (by rfl) LD Qk (ae (dv 0) ah)) ah)) (bf 3 gL.nd) (ai (ay 4 gL.nd (aj (dv 0) (af aU (dv 3) aa))) (ai (ay 5 gL.nd (aj (dv 0) (dv 3))) (ai (aQ (aE cE (af ax (aq Oc hr (ae (dv 1) (ae (dv 4) ah))) (aq Oc hr (ae (dv 1) (ae (dv 5) ah)))) aa) (ak (dA 2 (aq M7 hr (ae (dv 4) (ae (dv 5) (ae (dv 1) ah)))))) aF) (ak (aQ (aE FA (aq Oc hr (ae (dv 1) (ae (dv 5) ah))) aa) (ak (dA 2 (dv 5))) aF)))))) (cI 2 (ak (av (cf (by rfl) (by exact bP (osc:=ao kf) (xs:=["index"]) (ns:=["kept"]) (by decide +kernel)) (bH.cons 2 bH.nil) (eE (by rfl) LH (ae (aP bK (by rfl) LD Qk (ae (dv 2) ah)) ah)) (λ_ _ _ _ _=>(rZ (aE (Ew (by exact hr.units)) (aj (dv 1) (dv 0)) (Qo.SE (fR (dv 1) eV (eW (dv 0))))))) (λ_ _ _ _ _=>(aj (dv 1) (dv 0))))))))),?_⟩
 rintro ds Q Ed ⟨cs,g0,g1,g2,rfl,h⟩;walk_at "s";unfold gB at h;obtain⟨hl,hc,Sk,Ry,UM,h⟩:=h;have m:∀{x:Int},Bd 200 x->Bd 1000 x:=λh=>h.mono (by decide)
 have cb:∀p∈cs,Bd 200 p.1/\Bd 200 p.2.1/\Bd 200 p.2.2:=λp hp=>⟨(hc p hp).2.b.mono (by decide),(hc p hp).2.x.mono (by decide),(hc p hp).2.y.mono (by decide)⟩
 have at_:∀{zs:yau} {k:Nat} {p:Tr},zs[k]?=some p->NY (zs.map LL) (k:Int)=some (LL p):=fun {zs k p} hp=>dU (by rw[OD,hp];rfl)
 walk_at "x";refine⟨OE _,?_⟩;refine dD (List.range' 0 cs.length) (λ(k:Nat)=>D.int (k:Int)) (λj ρ=>∃v3 v4 v5:Option Sl,ρ=[some (.val (.lst false (cs.map LL))),some (.val (T3 g0 g1 g2)),some (.own ((aH (g0,g1,g2) (bX (g0,g1,g2)) (cs.getLastD (0,0,0)) (cs.take j)).map LL)),v3,v4,v5]) (λR q=>?_) ⟨none,none,none,rfl⟩ ?_ ?_
 ·walk_at "x";rw[LJ,p8];exact⟨⟨by lia,by lia⟩,q⟩
 ·rintro j k Ly hj ⟨v3,v4,v5,rfl⟩ KK hKK;obtain⟨P4,ek⟩:=OC.mp hj;rw[QU]at P4;rw[WU,QX,Nat.one_mul]at ek;subst ek;have hcj:cs[j]?=some cs[j]:=MZ P4;have eP:NY (cs.map LL) ((j:Int) - 1)=some (LL ((cs.take j).getLastD (cs.getLastD (0,0,0)))):=by
   have:=vT (cs.map LL) j 1 (by rw[LJ];exact P4) (by rw[LJ];lia);rw[show((j:Int) - 1)=((j:Int) - ((1:Nat):Int))from rfl,this,LJ,OD];have e2:cs[(j+cs.length - 1) % cs.length]?=some ((cs.take j).getLastD (cs.getLastD (0,0,0))):=by
    cases j with
    |zero =>
     have:(0+cs.length - 1) % cs.length=cs.length - 1:=by rw[QX];exact Pf (by lia)
     rw[this,List.take_zero,List.getLastD_nil,<- zDS,XF];cases hq:cs.getLast? with
     |none=>rw[ZM]at hq;rw[hq]at P4;exact absurd P4 (by simp)
     |some z=>rfl
    |succ j =>
     have:(j+1+cs.length - 1) % cs.length=j:=by rw[show j+1+cs.length - 1=j+cs.length by lia,VN];exact Pf (by lia)
     rw[this,XF,List.getLast?_take];simp;rw[MZ (by lia)];rfl
   rw[e2];rfl
  have hP:(cs.take j).getLastD (cs.getLastD (0,0,0))∈cs:=by
   rw[XF];cases hq:(cs.take j).getLast? with
   |some z=>exact(VM j cs).subset (ZW hq)
   |none =>
    rw[Option.getD_none,XF];cases hr:cs.getLast? with
    |some z=>exact ZW hr
    |none=>rw[ZM]at hr;rw[hr]at P4;exact absurd P4 (by simp)
  have wl:=qt (g0,g1,g2) (bX (g0,g1,g2)) (cs.take j) (cs.getLastD (0,0,0));have tl:(cs.take j).length<=cs.length:=by rw[P8];lia
  have ws:=Dr (g0,g1,g2) (bX (g0,g1,g2)) (cs.getLastD (0,0,0)) (cs.take j) cs[j];rw[show cs.take j++[cs[j]]=cs.take (j+1)by rw[List.take_succ,hcj];rfl]at ws;generalize (cs.take j).getLastD (cs.getLastD (0,0,0))=p at eP hP ws;have hQ:cs[j]∈cs:=Qw _;generalize Pu:cs[j]=c at hcj hQ ws;generalize aH (g0,g1,g2) (bX (g0,g1,g2)) (cs.getLastD (0,0,0)) (cs.take j)=K at wl ws ⊢;obtain⟨p1,p2,p3⟩:=cb p hP;obtain⟨c1,c2,c3⟩:=cb c hQ;have kl:K.length<=2000000:=by lia
  have fin:∀(K2:yau) (d1 d2:D),K2.length<=2000001->aH (g0,g1,g2) (bX (g0,g1,g2)) (cs.getLastD (0,0,0)) (cs.take (j+1))=K2++(if 0<=Lv (g0,g1,g2) c then[c]else[])->ip κ [T3 g0 g1 g2,LL c] (λx=>gw (λi j=>D.bl (decide (j<=i))) x (D.int 0) λx=>∃k,x=D.bl k/\if k=true then(K2.map LL).length<sizeLine/\KK [some (.val (.lst false (cs.map LL))),some (.val (T3 g0 g1 g2)),some (.own (K2.map LL++[LL c])),some (.val (.int j)),some (.val d1),some (.val d2)]else KK [some (.val (.lst false (cs.map LL))),some (.val (T3 g0 g1 g2)),some (.own (K2.map LL)),some (.val (.int j)),some (.val d1),some (.val d2)]) λ_=>False:=λK2 d1 d2 kl e=>by
   show ip κ [T3 g0 g1 g2,T3 c.1 c.2.1 c.2.2] _ _;rw[ju,gU];refine⟨m Sk,m Ry,m UM,m c1,m c2,m c3,?_⟩;rw[dI];refine⟨_,rfl,?_⟩;have es:(0<=sg (g0*c.1+g1*c.2.1+g2*c.2.2))↔0<=Lv (g0,g1,g2) c:=JU _;by_cases q:0<=Lv (g0,g1,g2) c
   ·rw[Lx q]at e;rw[Lx (NL (es.mpr q))];exact⟨by rw[LJ,sizeLine_eq];lia,hKK _ ⟨_,_,_,by rw[e,OQ];rfl⟩⟩
   ·rw[Lw q,QM]at e;rw[Lw (by rw[decide_eq_true_eq];exact λz=>q (es.mp z))];exact hKK _ ⟨_,_,_,by rw[e]⟩
  walk_at "x";refine⟨_,eP,_,at_ hcj,?_⟩;rw[bF,bF];show ip κ [T3 g0 g1 g2,T3 p.1 p.2.1 p.2.2] _ _;rw[ju,gU];refine⟨m Sk,m Ry,m UM,m p1,m p2,m p3,?_⟩;show ip κ [T3 g0 g1 g2,T3 c.1 c.2.1 c.2.2] _ _;rw[ju,gU];refine⟨m Sk,m Ry,m UM,m c1,m c2,m c3,?_⟩;have es:(sg (g0*p.1+g1*p.2.1+g2*p.2.2)*sg (g0*c.1+g1*c.2.1+g2*c.2.2)<0)↔Lv (g0,g1,g2) p*Lv (g0,g1,g2) c<0:=JT _ _;have sb1:∀x:Int,Bd 64 (sg x):=λx=>by unfold sg Bd;split;exact(by decide);split<;>decide
  rw[zH,dI];refine⟨.inl (sb1 _),_,rfl,?_⟩;by_cases q:Lv (g0,g1,g2) p*Lv (g0,g1,g2) c<0
  ·rw[Lx (NL (es.mpr q))];rw[Lx q]at ws;show dM κ [T3 p.1 p.2.1 p.2.2,T3 c.1 c.2.1 c.2.2,T3 g0 g1 g2] _ _;rw[gQ,cC];refine⟨p1,p2,p3,c1,c2,c3,Sk,Ry,UM,?_,by rw[LJ,sizeLine_eq];lia,?_⟩
   ·rcases xU (hc p hP).1 (hc c hQ).1 q with⟨_,_,z⟩| ⟨_,_,z⟩<;>exact λe=>by rw[e]at z;exact R6 _ z
   ·have:=fin (K++[bX (g0,g1,g2) p c]) (LL p) (LL c) (by simp;lia) (by rw[ws,Pn]);rw[OQ]at this;exact this
  ·rw[Lw (by rw[decide_eq_true_eq];exact λz=>q (es.mp z))];rw[Lw q,PR]at ws;exact fin K (LL p) (LL c) (by lia) ws
 ·rintro Ly ⟨v3,v4,v5,rfl⟩;rw[QU,VP];have wl:=qt (g0,g1,g2) (bX (g0,g1,g2)) cs (cs.getLastD (0,0,0));have ec:cD (g0,g1,g2) cs=Pk [] (aH (g0,g1,g2) (bX (g0,g1,g2)) (cs.getLastD (0,0,0)) cs):=by
   unfold cD;cases hq:cs.getLast? with
   |none =>
    rw[ZM]at hq;subst hq;rfl
   |some z=>rw[XF,hq];rfl
  rw[ec]at h;generalize aH (g0,g1,g2) (bX (g0,g1,g2)) (cs.getLastD (0,0,0)) cs=K at wl h ⊢;have gt:∀k,k<K.length->K[k]?=some (K.getD k (0,0,0)):=λk hk=>by rw[OZ,MZ hk];rfl
  have ct:∀k,k<=K.length->PD.cutD (K.map LL) none (some (k:Int))=(K.take k).map LL:=λk hk=>by unfold PD.cutD;rw[HT.EU,HT.lx,X3,Nat.sub_zero,LJ,R4 hk,List.map_take]
  have ea:∀(l:yau) (x:Tr),(l.map LL).any (λz=>eqD z (LL x))=l.any λy=>decide (y=x):=λl x=>by
   rw[List.any_map];congr 1
   funext y
   exact B5 y x
  walk_at "x";refine PD.comp_map (List.range' 0 K.length) (λ(k:Nat)=>D.int (k:Int)) (λk=>!(K.take k).any λy=>decide (y=K.getD k (0,0,0))) (λk=>LL (K.getD k (0,0,0))) (λR q=>?_) (by rw[QU,sizeLine_eq];lia) (λk hk K' hK=>?_) (λk hk _ K' hK=>?_) ?_
  ·walk_at "x";rw[LJ,p8];exact⟨⟨by lia,by lia⟩,q⟩
  ·have SM:k<K.length:=by rw[UZ]at hk;lia
   walk_at "x";refine⟨_,at_ (gt k SM),?_⟩;rw[ct k (by lia)];refine⟨?_,?_⟩
   ·exact(k8 _).okI
   ·exact⟨(Pj.map k8).ok,_,.inr ⟨_,rfl⟩,_,rfl,by rw[ea];exact hK⟩
  ·have SM:k<K.length:=by rw[UZ]at hk;lia
   walk_at "x";exact⟨_,at_ (gt k SM),hK⟩
  ·have dr:=wC (0,0,0) K [];rw[List.length_nil,PR]at dr;rw[<- dr,OH]at h;exact h
def CK (F:aw K "common" "common" p9 f fd) (C:MW K mg κ)  (OX:Bi P w K mg base κ)  : aJ P w K mg base (CX1 P w) 6 f fd ["corners", "gauges"] (aM K (nT κ)):=by
 refine aw.okN F nQ (by walk_at "l") λ_ _ _ _ _ _ hr=>⟨_,(ai (bL PassesOwn.never rfl (aY (dv 1)) (bf 2 nQ.nd) (ak (ay 0 nQ.nd (aq OX hr (ae (dv 0) (ae (dv 2) ah)))))) (ak (av (dv 0)))),?_⟩
 rintro ds Q Ed ⟨cs,gs,rfl,h⟩;walk_at "s";unfold j8 at h;obtain⟨hg,hj,hb,h⟩:=h;walk_at "x";refine PD.jG gs LL (λj ρ=>∃(t:Bool) (v:Option Sl),ρ=[some (.val (.lst t ((bB (gs.take j) cs).map LL))),some (.val (.lst false (gs.map LL))),v]) (λR q=>?_) ⟨false,none,rfl⟩ ?_ ?_
 ·walk_at "x";exact q
 ·rintro j g Ly he ⟨t,v,rfl⟩;obtain⟨NZ,eg⟩:=OC.mp he;obtain⟨c1,c2⟩:=hj j NZ;obtain⟨b1,b2,b3⟩:=hb g (OL he);walk_at "x";show jt κ [.lst false ((bB (gs.take j) cs).map LL),T3 g.1 g.2.1 g.2.2] _ _;rw[mU,gB];refine⟨c1,c2,b1,b2,b3,?_⟩;have e:bB (gs.take (j+1)) cs=cD g (bB (gs.take j) cs):=by
   unfold bB;rw[List.take_succ,he];simp[List.foldl_append]
  exact⟨true,_,by rw[e]⟩
 ·rintro Ly ⟨t,v,rfl⟩;rw[VP];walk_at "x";exact h t
def JA (F:aw K "led" "led" AU f fd) (C:MW K mg κ)  (RE:HQ P w K mg base κ) (LD:mg "len" = none) (LH:mg "range" = none):aJ P w K mg base (CX1 P w) 3 f fd ["corners"] (aM K (xQ κ)):=by
 refine aw.okN F rN (by walk_at "l") λ_ _ _ _ _ _ hr=>⟨_,(ai (ay 1 rN.nd aa) (ai (bL PassesOwn.never rfl (eE (by rfl) LH (ae (aP bK (by rfl) LD Qk (ae (dv 0) ah)) ah)) (bf 2 rN.nd) (ak (aQ (aE cE (aq RE hr (ae (aj (dv 0) (dv 2)) (ae (aj (dv 0) (dv 1)) ah))) aa) (ak (ay 1 rN.nd (dv 2))) aF))) (ak (av (af aG (Qo.SE (fR (dv 0) (eW (dv 1)) eV)) (Qo.SE (fR (dv 0) eV (eW (dv 1))))))))),?_⟩
 rintro ds Q Ed ⟨cs,rfl,h⟩;walk_at "s";unfold rH at h;obtain⟨hl,hc,h⟩:=h;have bd:∀p∈cs,Bd 1000 p.1/\Bd 1000 p.2.1/\Bd 1000 p.2.2:=λp hp=>⟨(hc p hp).b.mono (by decide),(hc p hp).x.mono (by decide),(hc p hp).y.mono (by decide)⟩
 have at_:∀{k:Nat},k<cs.length->NY (cs.map LL) (k:Int)=some (LL (cs.getD k (0,0,0)))/\cs.getD k (0,0,0)∈cs:=fun {k} hk=>by
  have e:cs[k]?=some (cs.getD k (0,0,0)):=by rw[OZ,MZ hk];rfl
  exact⟨dU (by rw[OD,e];rfl),OL e⟩
 walk_at "x";refine PD.jG (List.range' 0 cs.length) (λ(k:Nat)=>D.int (k:Int)) (λj ρ=>∃v:Option Sl,ρ=[some (.val (.lst false (cs.map LL))),some (.val (.int ((ldI cs j:Nat):Int))),v]) (λR q=>?_) ⟨none,rfl⟩ ?_ ?_
 ·walk_at "x";rw[LJ,p8];exact⟨⟨by omega,by omega⟩,q⟩
 ·rintro j k Ly hj ⟨v,rfl⟩;obtain⟨P4,ek⟩:=OC.mp hj;rw[QU]at P4;rw[WU,QX,Nat.one_mul]at ek;subst ek;have li:=(k6 cs j).1;obtain⟨a1,m1⟩:=at_ P4;obtain⟨a2,m2⟩:=at_ (show ldI cs j<cs.length by omega);have es:=Av cs j;unfold stI at es;walk_at "x";refine⟨_,a1,_,a2,?_⟩;rw[bF,bF];generalize cs.getD j (0,0,0)=a at *;generalize cs.getD (ldI cs j) (0,0,0)=b at *;show oO κ [T3 a.1 a.2.1 a.2.2,T3 b.1 b.2.1 b.2.2] _ _;rw[rX,lr];refine⟨(bd a m1).1,(bd a m1).2.1,(bd a m1).2.2,(bd b m2).1,(bd b m2).2.1,(bd b m2).2.2,?_⟩;rw[dI];refine⟨_,rfl,?_⟩;by_cases q:ZD a b<0
  ·rw[Lx q]at es;rw[Lx (NL (show rk a.1 a.2.1 a.2.2 b.1 b.2.1 b.2.2<0 from q)),es];exact⟨_,rfl⟩
  ·rw[Lw q]at es;rw[Lw (by rw[decide_eq_true_eq];exact q),es];exact⟨_,rfl⟩
 ·rintro Ly ⟨v,rfl⟩;rw[QU];have li:=(k6 cs cs.length).1;walk_at "x";rw[BJ _ (by rw[LJ];exact li),Ij _ (by rw[LJ];exact li),<- List.map_drop,<- List.map_take,<- OQ];refine⟨?_,h⟩;rw[LJ,LJ,Qy,P8,sizeLine_eq];omega
def uN (F:aw K "axis_lines" "axis_lines" eG f fd) (C:MW K mg κ)    : aJ P w K mg base (CX1 P w) 1 f fd ["dots"] (aM K (i5 κ)):=by
 refine aw.okN F uT (by walk_at "l") λ_ _ _ _ _ _ hr=>⟨_,(ak (av (af aG (cf (by rfl) (by exact bP (osc:=ao eG) (xs:=["dot"]) (ns:=[]) (by decide +kernel)) bH.nil (aY (dv 0)) (λ_ _ _ _ _=>dS) (λ_ _ _ _ _=>(bT (ae (cu (aj (dv 0) aa)) (ae aa (ae aa ah)))))) (cf (by rfl) (by exact bP (osc:=ao eG) (xs:=["dot"]) (ns:=[]) (by decide +kernel)) bH.nil (aY (dv 0)) (λ_ _ _ _ _=>dS) (λ_ _ _ _ _=>(bT (ae (cu (aj (dv 0) aa)) (ae aa (ae aa ah))))))))),?_⟩
 rintro ds Q Ed ⟨ps,rfl,h⟩;walk_at "s";unfold fG at h;obtain⟨hl,h⟩:=h;walk_at "x";refine PD.comp_map ps LS (λ_=>true) (λp=>LL (-p.1,1,0)) (λR q=>?_) (by rw[sizeLine_eq];lia) (λx hx K hK=>?_) (λx hx _ K hK=>?_) ?_
 ·walk_at "x";exact q
 ·walk_at "x";exact hK
 ·unfold LS;walk_at "x";exact⟨RS _ _ _,hK⟩
 rw[RK.mpr (λ_ _=>rfl)];refine PD.comp_map ps LS (λ_=>true) (λp=>LL (-p.2.1,0,1)) (λR q=>?_) (by rw[sizeLine_eq];lia) (λx hx K hK=>?_) (λx hx _ K hK=>?_) ?_
 ·walk_at "x";exact q
 ·walk_at "x";exact hK
 ·unfold LS;walk_at "x";exact⟨RS _ _ _,hK⟩
 rw[RK.mpr (λ_ _=>rfl),Bq];unfold Zy at h;rw[OQ,OH,OH]at h;exact⟨by rw[LJ,LJ,sizeLine_eq];lia,h⟩
def yx (F:aw K "opposite" "opposite" mh f fd) (C:MW K mg κ)    : aJ P w K mg base (CX1 P w) 1 f fd ["gauge"] (aM K (iC κ)):=by
 refine aw.okN F yE (by walk_at "l") λ_ _ _ _ _ _ hr=>⟨_,(ak (av (bT (ae (cu (aj (dv 0) aa)) (ae (cu (aj (dv 0) aa)) (ae (cu (aj (dv 0) aa)) ah)))))),?_⟩
 rintro ds Q Ed ⟨g0,g1,g2,rfl,h⟩;walk_at "s";unfold fy at h;walk_at "x";exact⟨RS _ _ _,h⟩
def sZ (F:aw K "half_planes" "half_planes" iV f fd) (C:MW K mg κ)  (NS:vF P w K mg base κ) (Ox:zZ P w K mg base κ) (NU:vJ P w K mg base κ) (Oy:z7 P w K mg base κ)  : aJ P w K mg base (CX1 P w) 6 f fd ["dots"] (aM K (ib κ)):=by
 refine aw.okN F hU (by walk_at "l") λ_ _ _ _ _ _ hr=>⟨_,(ai (jF 1 hU.nd ah) (ai (bL PassesOwn.never rfl (aY (aq Oy hr (ae (dv 0) (ae (af aG (aq NU hr (ae (dv 0) ah)) (aq NS hr (ae (dv 0) ah))) ah)))) (bf 2 hU.nd) (ai (dA 1 (bT (ae (aj (dv 2) aa) (ae (aj (dv 2) aa) (ae (af aG (aj (dv 2) aa) (aj (dv 2) aa)) ah))))) (ak (dA 1 (bT (ae (aq Ox hr (ae (aj (dv 2) aa) ah)) (ae (aj (dv 2) aa) (ae (af aG (aj (dv 2) aa) (aj (dv 2) aa)) ah)))))))) (cI 1 (ak (av (dv 1)))))),?_⟩
 rintro ds Q Ed ⟨ps,rfl,h⟩;walk_at "s";unfold fb at h;obtain⟨hl,hG,h⟩:=h;have la:=sV hl;have gbL:∀g∈QS ps,Bd 1000 g.1/\Bd 1000 g.2.1/\Bd 1000 g.2.2:=λg hg=>by
  rcases MC.mp hg with z|z
  ·obtain⟨ij,NO,rfl⟩:=Ms.mp z;obtain⟨a,b,c⟩:=k7.mp NO;have F:=vj (hG _ (kT (show ij.1<ps.length by lia))) (hG _ (kT b)) c;exact⟨F.b0,F.b1,F.b2⟩
  ·have b1:Bd 1000 1:=Bd.mono (m:=2) (by unfold Bd;decide) (by decide);have b0:Bd 1000 0:=Bd.mono (m:=2) (by unfold Bd;decide) (by decide);rcases MC.mp z with z|z<;>obtain⟨p,hp,rfl⟩:=Ms.mp z
   ·exact⟨((hG p hp).x.neg).mono (by decide),b1,b0⟩
   ·exact⟨((hG p hp).y.neg).mono (by decide),b0,b1⟩
 walk_at "x";refine⟨OE _,?_⟩;refine Gm (P:=λzs=>cG zs (QS ps)) (xB ps) (λR hR=>?_) λzs hz=>?_
 ·walk_at "x";refine⟨by lia,hG,by lia,by rw[LJ,LJ,sizeLine_eq];unfold QS at la;rw[Nz]at la;lia,?_⟩;rw[<- OQ,sd,lF,fz];exact⟨by lia,hG,NM la (by decide),gbL,λys hy=>⟨_,_,rfl,hR ys hy⟩⟩
 have lz:=j7 hz;refine jH zs (xB ps) (λdone ρ=>∃v:Option Sl,ρ=[some (.val (.lst false (ps.map LS))),some (.own ((bY ps done).map cA)),v]) (λR q=>q) ⟨none,rfl⟩ ?_ ?_
 ·rintro done g Ly hg NZ ⟨v,rfl⟩ K hK;have ld:=(tG (ps:=ps) (zs:=done) 0).1;have e:bY ps (done++[g])=bY ps done++[(g,wl ps g 1,wl ps g 1+wl ps g 0)]++[(OG g,wl ps g (-1),wl ps g (-1)+wl ps g 0)]:=by
   unfold bY;rw[List.flatMap_append,List.flatMap_singleton,Pn];rfl
  have eo:D.tup [T3 (-g.1) (-g.2.1) (-g.2.2),.int (wl ps g (-1)),.int (wl ps g (-1)+wl ps g 0)]=cA (OG g,wl ps g (-1),wl ps g (-1)+wl ps g 0):=rfl;unfold xB;walk_at "x";refine⟨by rw[sizeLine_eq];show 3<=_;decide,by rw[LJ,sizeLine_eq];lia,?_⟩;show iC κ [T3 g.1 g.2.1 g.2.2] _ _;rw[lE,fy];refine⟨by rw[sizeLine_eq];show 3<=_;decide,by rw[Nz,LJ,sizeLine_eq];show _+1<_;lia,hK _ ⟨some (.val (.tup [LL g,.int (wl ps g (-1)),.int (wl ps g 0),.int (wl ps g 1)])),?_⟩⟩;rw[e,OQ,OQ,eo];rfl
 ·rintro Ly ⟨v,rfl⟩;walk_at "x";exact h zs hz
def G5 (F:aw K "rims" "rims" rL f fd) (C:MW K mg κ)    : aJ P w K mg base (CX1 P w) 1 f fd ["planes", "weight"] (aM K (tV κ)):=by
 refine aw.okN F Hr (by walk_at "l") λ_ _ _ _ _ _ hr=>⟨_,(ak (av (cf (by rfl) (by exact bP (osc:=ao rL) (xs:=["row"]) (ns:=["weight"]) (by decide +kernel)) (bH.cons 1 bH.nil) (aY (dv 0)) (λ_ _ _ _ _=>(rZ (D5 cE vq (aj (dv 0) aa) (dv 1) (aj (dv 0) aa)))) (λ_ _ _ _ _=>(aj (dv 0) aa))))),?_⟩
 rintro ds Q Ed ⟨xs,w,rfl,h⟩;walk_at "s";unfold oK at h;obtain⟨hl,h⟩:=h;walk_at "x";refine PD.comp_map xs cA (λx=>decide (x.2.1<w/\w<=x.2.2)) (λx=>LL x.1) (λR q=>?_) (by rw[sizeLine_eq];lia) (λx hx K hK=>?_) (λx hx _ K hK=>?_) ?_
 ·walk_at "x";exact q
 ·unfold cA;walk_at "x";by_cases c:x.2.1<w
  ·rw[Lx c,decide_eq_decide.mpr (show w<=x.2.2↔x.2.1<w/\w<=x.2.2 from⟨λz=>⟨c,z⟩,λz=>z.2⟩)];exact hK
  ·rw[Lw c,<- R5 (show¬(x.2.1<w/\w<=x.2.2)from λz=>c z.1)];exact hK
 ·unfold cA;walk_at "x";exact hK
 ·unfold cZ at h;rw[OH]at h;exact h
def AG (F:aw K "hull_of" "hull_of" nM f fd) (C:MW K mg κ)  (RF:HM P w K mg base κ) (Oz:z8 P w K mg base κ)  : aJ P w K mg base (CX1 P w) 4 f fd ["dots"] (aM K (mB κ)):=by
 refine aw.okN F AW (by walk_at "l") λ_ _ _ _ _ _ hr=>⟨_,(ak (av (aq RF hr (ae (aq Oz hr (ae (dv 0) ah)) ah)))),?_⟩
 rintro ds Q Ed ⟨ps,rfl,h⟩;walk_at "s";unfold ji at h;obtain⟨hl,hG,h⟩:=h;walk_at "x";refine⟨by lia,by rw[LJ];lia,λp hp=>?_,λys hy _=>?_⟩
 ·obtain⟨q,hq,rfl⟩:=Ms.mp hp;exact⟨(hG q hq).x,(hG q hq).y⟩
 ·have:=h ys hy;rw[OH]at this;exact this
def p5 (F:aw K "region_within" "region_within" gK f fd) (C:MW K mg κ)  (PN:Dw P w K mg base κ) (OY:Bk P w K mg base κ) (TJ:J5 P w K mg base κ) (RG:HR P w K mg base κ) (Og:sv P w K mg base "total" 2 ["dots", "colour"] "colour" (jX κ))  : aJ P w K mg base (CX1 P w) 7 f fd ["dots", "planes", "least"] (aM K (fY κ)):=by
 refine aw.okN F jQ (by walk_at "l") λ_ _ _ _ _ _ hr=>⟨_,(ai (ay 3 jQ.nd (af aG (af aU (nc Og (hr.mono (by decide)) (ae (dv 0) ah)) (dv 2)) aa)) (ak (av (aq TJ hr (ae (aq PN hr (ae (aq OY hr (ae (dv 0) ah)) (ae (aq RG hr (ae (dv 1) (ae (dv 3) ah))) ah))) ah))))),?_⟩
 rintro ds Q Ed ⟨ps,xs,l,rfl,h⟩;walk_at "s";unfold dJ at h;obtain⟨Dk,⟨zs,hz,rfl⟩,h⟩:=h;have:=Dk.le;walk_at "x";refine⟨λ_=>true,.inl ⟨rfl,rfl⟩,by lia,Dk.le,Dk.gd,λys hy=>?_⟩;obtain⟨hG,lG⟩:=lh Dk hz (RV (λ_=>true) ps - l+1);have R:=k9 Dk hG lG hy;have lz:=j7 hz;have la:=sV Dk.le;have lp:=(tG (ps:=ps) (zs:=zs) 0).1;have fin:=R.Rh (cZ (bY ps zs) (RV (λ_=>true) ps - l+1)).length;rw[VP]at fin;exact⟨by lia,by lia,λj _=>⟨(R.Rh j).2.1,λp hp=>⟨((R.Rh j).2.2 p hp).1.pos,((R.Rh j).2.2 p hp).2⟩⟩,λg hg=>⟨(hG g hg).1.c.mono (by decide),(hG g hg).1.a.mono (by decide),(hG g hg).1.b.mono (by decide)⟩,λ_=>⟨fin.2.1,λp hp=>(fin.2.2 p hp).2,h zs ys hz hy⟩⟩
def CL (F:aw K "region" "region" qa f fd) (C:MW K mg κ)  (Nw:uH P w K mg base κ) (M8:qC P w K mg base κ) (Og:sv P w K mg base "total" 2 ["dots", "colour"] "colour" (jX κ))  : aJ P w K mg base (CX1 P w) 8 f fd ["dots", "least"] (aM K (nV κ)):=by
 refine aw.okX F C5 (by walk_at "l") λ_ _ _ _ _ _ Ed hr pm px hx=>⟨_,(ai (aQ (Qe.pt (gh (aE cE (dv 1) aa) (iG (aE rA (dv 1) (nc Og (hr.mono (by decide)) (ae (dv 0) ah)))))) (ak (D4 pm (by rfl) C.Nf C.Nk rfl (ae IF ah))) aF) (ak (av (aq M8 hr (ae (dv 0) (ae (aq Nw hr (ae (dv 0) ah)) (ae (dv 1) ah))))))),?_⟩
 rintro ds Q ⟨ps,l,rfl,h⟩;walk_at "s";unfold j9 at h;rcases h with⟨h60,hl,h⟩| ⟨Dk,l1,l2,h⟩
 ·walk_at "x";by_cases c:l<1
  ·rw[Lx c];exact⟨Vh _,h⟩
  ·rw[Lw c];refine⟨λ_=>true,.inl ⟨rfl,rfl⟩,h60,?_⟩;rw[Lx (show RV (λ_=>true) ps<l from hl.resolve_left c)];exact⟨Vh _,h⟩
 have:=Dk.le;walk_at "x";rw[Lw (by lia)];refine⟨λ_=>true,.inl ⟨rfl,rfl⟩,by lia,?_⟩;rw[Lw (show¬RV (λ_=>true) ps<l by have:l<=RV (λ_=>true) ps:=l2;lia)];exact⟨Dk.le,Dk.gd,λzs hz=>⟨Dk,⟨zs,hz,rfl⟩,h⟩⟩
def xf (F:aw K "_law_whole" "_law_whole" kH f fd) (C:MW K mg κ)   (OA:mg "bool" = none) (Nb:mg "int" = none) (Lz:mg "isinstance" = none):aJ P w K mg base (CX1 P w) 1 f fd ["_law_found"] (aM K (jT κ)):=by
 refine aw.okN F xI (by walk_at "l") λ_ _ _ _ _ _ hr=>⟨_,(ak (av (m9 (j5 (by rfl) Lz (by rfl) Nb boot_int (.inl rfl) (dv 0)) (nh (ng (j5 (by rfl) Lz (by rfl) OA boot_bool (.inr (.inl rfl)) (dv 0))))))),?_⟩
 rintro ds Q Ed ⟨a,rfl,h⟩;walk_at "s";unfold gC at h;walk_at "x";exact h
def tm (F:aw K "_law_cell_at" "_law_cell_at" iX f fd) (C:MW K mg κ)   (LD:mg "len" = none):aJ P w K mg base (CX1 P w) 1 f fd ["_law_script", "_law_k"] (aM K (ie κ)):=by
 refine aw.okN F tM (by walk_at "l") λ_ _ _ _ _ _ hr=>⟨_,(ai (aQ (aE cE (dv 1) (aP bK (by rfl) LD Qk (ae (dv 0) ah))) (ak (av (aj (dv 0) (dv 1)))) aF) (ak (av aa))),?_⟩
 rintro ds Q Ed ⟨ns,k,rfl,h⟩;walk_at "s";unfold fc at h;obtain⟨hk,hn,h⟩:=h;walk_at "x";by_cases hl:k<((ns.map D.int).length:Int)
 ·rw[Lx (by simpa using hl)];rw[LJ]at hl;exact⟨_,DC hk hl,h _⟩
 ·rw[Lw (by simpa using hl)];exact h 0
def tw (F:aw K "_law_divisor" "_law_divisor" iZ f fd) (C:MW K mg κ)   (Ob:mg "abs" = none):aJ P w K mg base (CX1 P w) 1 f fd ["_law_one", "_law_other"] (aM K (ik κ)):=by
 refine aw.okN F fh (by walk_at "l") λ_ _ _ _ _ _ hr=>⟨_,(ai (ay 2 fh.nd (aP vX (by rfl) Ob boot_abs (ae (dv 0) ah))) (ai (ay 3 fh.nd (aP vX (by rfl) Ob boot_abs (ae (dv 1) ah))) (ai (pN PassesOwn.never (aE iH (dv 3) aa) (ak (II 2 3 rfl fh.nd (by decide) (ae (dv 3) (ae (af aO (dv 2) (dv 3)) ah))))) (ak (av (dv 2)))))),?_⟩
 rintro ds Q Ed ⟨a,b,rfl,h⟩;walk_at "s";unfold fg at h;walk_at "x";refine⟨λm ρ=>∃(x y:Int),ρ=[some (.val (.int a)),some (.val (.int b)),some (.val (.int x)),some (.val (.int y))]/\Int.gcd x y=Int.gcd a b/\m=y.natAbs/\0<=x/\0<=y,⟨_,_,_,rfl,PM.Gw a b,rfl,by lia,by lia⟩,?_⟩;rintro m ρ ⟨x,y,rfl,hg,rfl,hx,Vr⟩;walk_at "x";by_cases hy:y=0
 ·subst hy;rw[PM.uk]at hg;have:x=((x.natAbs:Nat):Int):=by lia
  rw[Lx rfl,this,hg];exact h
 ·rw[Lw hy];refine⟨hy,?_⟩;exact⟨_,PM.ui x hy,y,x.fmod y,rfl,(PM.wQ x y).trans hg,rfl,Vr,ZP x (by lia)⟩
def AH (F:aw K "_law_dot" "_law_dot" nN f fd) (C:MW K mg κ)   (Nb:mg "int" = none):aJ P w K mg base (CX1 P w) 1 f fd ["_law_cell", "_law_kind", "_law_heavy"] (aM K (mC κ)):=by
 refine aw.okN F bu (by walk_at "l") λ_ _ _ _ _ _ hr=>⟨_,(ai (ay 3 bu.nd (af aO (af aG (af ax (dv 0) aa) aa) aa)) (ai (ay 4 bu.nd (af aO (dv 3) aa)) (ai (ay 5 bu.nd (af aO (af bA (dv 3) aa) aa)) (ai (aQ (aE bD (dv 1) aa) (ai (ay 4 bu.nd (af aU (af aO (dv 3) aa) aa)) (ak (ay 5 bu.nd (af aU (af aO (af bA (dv 3) aa) aa) aa)))) aF) (ai (aQ (aE bD (dv 1) aa) (ai (ay 4 bu.nd (af aU (af ax aa (af aO (dv 3) aa)) aa)) (ak (ay 5 bu.nd (af aU aa (af aO (dv 3) aa))))) aF) (ai (aQ (aE bD (dv 1) aa) (ai (ay 4 bu.nd (af aG (af aU (af aO (af ax (dv 0) aa) (af aU (af ax aa (af gr aa aa)) aa)) (af gr aa aa)) aa)) (ak (ay 5 bu.nd (af aG (af aU (af aO (af ax (dv 0) aa) (af aU (af ax aa (af gr aa aa)) aa)) (af gr aa aa)) aa)))) aF) (ai (aQ (aE bD (dv 1) aa) (ai (ay 4 bu.nd (af aU aa (iE m6 (by rfl) Nb boot_int (ae (cH bD (af aO (dv 3) aa) aa) ah)))) (ak (ay 5 bu.nd (af aU aa (af ax aa (iE m6 (by rfl) Nb boot_int (ae (cH bD (af aO (dv 3) aa) aa) ah))))))) aF) (ai (aQ (aE bD (dv 1) aa) (ai (ay 4 bu.nd (af aU (af aO (dv 3) aa) aa)) (ak (ay 5 bu.nd (af aU (af ax (dv 4) (dv 4)) (af ax aa (iE m6 (by rfl) Nb boot_int (ae (cH bD (af aO (af bA (dv 3) aa) aa) aa) ah))))))) aF) (ai (ay 6 bu.nd (aj (iF (ae aa (ae (af aG aa (af aO (af bA (dv 3) aa) aa)) (ae (af aG aa (af aO (af ax (dv 0) aa) aa)) ah)))) (dv 2))) (ak (av (bT (ae (dv 4) (ae (dv 5) (ae (af aO (af bA (dv 3) aa) aa) (ae (dv 6) ah)))))))))))))))),?_⟩
 rintro ds Q Ed ⟨c,k,v,rfl,h⟩;walk_at "s";unfold jj at h;obtain⟨h0,h2,h⟩:=h;have lit:∀{m:Int},m.natAbs<2 ^ 64->CM c m:=λhm=>.inr (.inl hm)
 have cl:∀{a m:Int},a.natAbs<2 ^ 64->CM a m:=λhm=>.inl hm
 refine nR (λLy=>∃n x y:Int,(0<=n/\n<2147483647)/\Bd 40 x/\Bd 40 y/\Ly=[some (.val (.int c)),some (.val (.int k)),some (.val (.int v)),some (.val (.int n)),some (.val (.int x)),some (.val (.int y)),none]) (λLy e=>?_) λK hK=>?_
 rotate_left
 ·walk_at "x";have hn:=fm (a:=c*48271+11) (b:=2147483647) (by decide);generalize (c*48271+11).fmod 2147483647=n at hn ⊢;have f1:=fm (a:=n) (b:=3) (by decide);have f2:=fm (a:=n.fdiv 3) (b:=3) (by decide);exact⟨lit (by decide),by decide,by decide,CD.lit,by decide,hK _ ⟨n,_,_,hn,by unfold Bd;omega,by unfold Bd;omega,rfl⟩⟩
 obtain⟨n,x,y,hn,hx,hy,rfl⟩:=e;refine bO (λLy=>∃x y:Int,Bd 40 x/\Bd 40 y/\Ly=[some (.val (.int c)),some (.val (.int k)),some (.val (.int v)),some (.val (.int n)),some (.val (.int x)),some (.val (.int y)),none]) (λLy e=>?_) λK hK=>?_
 rotate_left
 ·walk_at "x";split
  ·have f1:=fm (a:=n) (b:=9) (by decide);have f2:=fm (a:=n.fdiv 9) (b:=9) (by decide);exact⟨by decide,CD.lit,by decide,hK _ ⟨_,_,by unfold Bd;omega,by unfold Bd;omega,rfl⟩⟩
  ·exact hK _ ⟨x,y,hx,hy,rfl⟩
 obtain⟨x,y,hx,hy,rfl⟩:=e;refine bO (λLy=>∃x y:Int,Bd 40 x/\Bd 40 y/\Ly=[some (.val (.int c)),some (.val (.int k)),some (.val (.int v)),some (.val (.int n)),some (.val (.int x)),some (.val (.int y)),none]) (λLy e=>?_) λK hK=>?_
 rotate_left
 ·walk_at "x";split
  ·have f1:=fm (a:=n) (b:=9) (by decide);exact⟨by decide,cl (by decide),by decide,hK _ ⟨_,_,by unfold Bd;omega,by unfold Bd;omega,rfl⟩⟩
  ·exact hK _ ⟨x,y,hx,hy,rfl⟩
 obtain⟨x,y,hx,hy,rfl⟩:=e;refine bO (λLy=>∃x y:Int,Bd 40 x/\Bd 40 y/\Ly=[some (.val (.int c)),some (.val (.int k)),some (.val (.int v)),some (.val (.int n)),some (.val (.int x)),some (.val (.int y)),none]) (λLy e=>?_) λK hK=>?_
 rotate_left
 ·walk_at "x";split
  ·rw[p12];have f1:=fm (a:=c*7919) (b:=2*1000000000000 - 1) (by decide);have f2:=fm (a:=c*104729) (b:=2*1000000000000 - 3) (by decide);exact⟨lit (by decide),Ah,cl (by decide),by decide,Ah,lit (by decide),Ah,cl (by decide),by decide,Ah,hK _ ⟨_,_,by unfold Bd;omega,by unfold Bd;omega,rfl⟩⟩
  ·exact hK _ ⟨x,y,hx,hy,rfl⟩
 obtain⟨x,y,hx,hy,rfl⟩:=e;refine bO (λLy=>∃x y:Int,Bd 40 x/\Bd 40 y/\Ly=[some (.val (.int c)),some (.val (.int k)),some (.val (.int v)),some (.val (.int n)),some (.val (.int x)),some (.val (.int y)),none]) (λLy e=>?_) λK hK=>?_
 rotate_left
 ·walk_at "x";split
  ·exact⟨by decide,by decide,cl (by decide),hK _ ⟨_,_,by unfold Bd;split<;>omega,by unfold Bd;split<;>omega,rfl⟩⟩
  ·exact hK _ ⟨x,y,hx,hy,rfl⟩
 obtain⟨x,y,hx,hy,rfl⟩:=e;refine bO (λLy=>∃x y:Int,Bd 40 x/\Bd 40 y/\Ly=[some (.val (.int c)),some (.val (.int k)),some (.val (.int v)),some (.val (.int n)),some (.val (.int x)),some (.val (.int y)),none]) (λLy e=>?_) λK hK=>?_
 rotate_left
 ·walk_at "x";split
  ·have f1:=fm (a:=n) (b:=21) (by decide);have bm:Bd 4 (n.fmod 21 - 10):=by unfold Bd;omega
   exact⟨by decide,WJ bm bm,CD.lit,by decide,cl (by decide),hK _ ⟨_,_,bm.mono (by decide),(Bd.sub ((bm.mul bm).mono (n:=20) (by decide)) (by unfold Bd;split<;>decide)).mono (by decide),rfl⟩⟩
  ·exact hK _ ⟨x,y,hx,hy,rfl⟩
 obtain⟨x,y,hx,hy,rfl⟩:=e;walk_at "x";have f1:=fm (a:=n.fdiv 192) (b:=7) (by decide);have f2:=fm (a:=c*31) (b:=999999999) (by decide);have f3:=fm (a:=n.fdiv 64) (b:=3) (by decide);refine⟨CD.lit,by decide,lit (by decide),by decide,RS _ _ _,?_⟩;refine Bs h0 (by show v<3;omega) λd hd=>?_
 obtain⟨w,rfl,hw⟩:∃w:Int,d=.int w/\0<w:=by
  simp only[L9,QV,or_false]at hd;rcases hd with rfl|rfl|rfl
  ·exact⟨_,rfl,by decide⟩
  ·exact⟨_,rfl,by omega⟩
  ·exact⟨_,rfl,by omega⟩
 exact⟨CD.lit,by decide,sz4 _ _ _ _,h (x,y,(n.fdiv 64).fmod 3,w) ⟨hx.mono (by decide),hy.mono (by decide),f3.1,(show(n.fdiv 64).fmod 3<=2 by omega)⟩ hx hy hw⟩
def yw (F:aw K "_law_dots" "_law_dots" mf f fd) (C:MW K mg κ)  (LG:mO P w K mg base κ) (Oh:Bl P w K mg base κ)  : aJ P w K mg base (CX1 P w) 2 f fd ["_law_script", "_law_start", "_law_most"] (aM K (kK κ)):=by
 refine aw.okN F dY (by walk_at "l") λ_ _ _ _ _ _ hr=>⟨_,(ai (ay 3 dY.nd (aq LG hr (ae (dv 0) (ae aa ah)))) (ai (ay 4 dY.nd (af aO (dv 3) aa)) (ai (ay 5 dY.nd (af aO (af bA (dv 3) aa) aa)) (ai (jF 6 dY.nd (ae (aq Oh hr (ae (aq LG hr (ae (dv 0) (ae aa ah))) (ae (dv 4) (ae (dv 5) ah)))) ah)) (ai (bL PassesOwn.never rfl (aY (Qo.SE (fR (dv 0) (eW (dv 1)) (eW (af aU (af aG (dv 1) (dv 2)) aa))))) (bf 7 dY.nd) (ak (dA 6 (aq Oh hr (ae (dv 7) (ae (dv 4) (ae (dv 5) ah))))))) (cI 6 (ak (av (dv 6))))))))),?_⟩
 rintro ds Q Ed ⟨ns,s,m,rfl,h⟩;walk_at "s";unfold iy at h;obtain⟨hn,rfl,hm,h⟩:=h;obtain⟨M,rfl,M0,M1⟩:∃M:Nat,m=(M:Int)/\0<M/\M<=20:=by
  rcases hm with rfl|rfl
  ·exact⟨8,rfl,by decide,by decide⟩
  ·exact⟨16,rfl,by decide,by decide⟩
 walk_at "x";refine⟨by decide,hn,λf=>?_⟩;walk_at "x";have f3:=fm (a:=f.fdiv 6) (b:=3) (by decide);refine⟨by decide,CD.lit,by decide,by decide,hn,λc1=>⟨f3.1,by omega,λp0 g0 x0 y0 w0=>?_⟩⟩;walk_at "x";have eh:(8+(M:Int) - 1)=((M+7:Nat):Int):=by omega
 have lc:(wy ns (some 8) (some ((M+7:Nat):Int))).length<=M - 1:=by unfold wy;rw[P8];have e1:HT.Oj ns.length 0 (some 8)=min 8 ns.length:=HT.lx _ _ 8;have e2:HT.Oj ns.length ns.length (some ((M+7:Nat):Int))=min (M+7) ns.length:=HT.lx _ _ (M+7);rw[e1,e2];omega
 refine⟨Vh _,?_⟩;refine jH (wy ns (some 8) (some ((M+7:Nat):Int))) D.int (λdone ρ=>∃(ps:List Dt) (v7:Option Sl),ρ=[some (.val (.lst false (ns.map D.int))),some (.val (.int 8)),some (.val (.int (M:Int))),some (.val (.int f)),some (.val (.int (f.fmod 6))),some (.val (.int ((f.fdiv 6).fmod 3))),some (.own (ps.map LS)),v7]/\ps.length=done.length+1/\∀p∈ps,GD p/\(Bd 40 p.1/\Bd 40 p.2.1)/\0<p.2.2.2) (λR q=>?_) ⟨[p0],none,rfl,rfl,λq hq=>by rw[NI.mp hq];exact⟨g0,⟨x0,y0⟩,w0⟩⟩ ?_ ?_
 ·walk_at "x";rw[eh,DR];exact q
 ·rintro done c Ly hc NZ ⟨ps,v7,rfl,hl,hG⟩ K hK;walk_at "x";refine⟨f3.1,by omega,λp gp xp yp wp=>⟨by rw[LJ,sizeLine_eq];omega,hK _ ⟨ps++[p],_,by rw[OQ];rfl,by simp[hl],λq hq=>?_⟩⟩⟩;rcases MC.mp hq with z|z
  ·exact hG q z
  ·rw[NI]at z;subst z;exact⟨gp,⟨xp,yp⟩,wp⟩
 ·rintro Ly ⟨ps,v7,rfl,hl,hG⟩;walk_at "x";exact h ps ⟨λp hp=>(hG p hp).1,λp hp=>(hG p hp).2.1,λp hp=>(hG p hp).2.2,by omega,List.ne_nil_of_length_pos (by omega)⟩
def w8 (F:aw K "_law_depth" "_law_depth" kE f fd) (C:MW K mg κ)   (Nb:mg "int" = none) (Oe:mg "min" = none):aJ P w K mg base (CX1 P w) 1 f fd ["_law_dots_here", "_law_here"] (aM K (dj κ)):=by
 refine aw.okN F aK (by walk_at "l") λ_ _ _ _ _ _ hr=>⟨_,(ai (ay 2 aK.nd aa) (ai (jF 3 aK.nd ah) (ai (bL PassesOwn.never rfl (aY (dv 0)) (Ca (n:=4) rfl (fT (bf 6 aK.nd) (fT (bf 7 aK.nd) (fT (bf 8 aK.nd) (fT (bf 9 aK.nd) zh))))) (ai (ay 10 aK.nd (af aU (af ax (dv 6) (aj (dv 1) aa)) (aj (dv 1) aa))) (ai (ay 11 aK.nd (af aU (af ax (dv 7) (aj (dv 1) aa)) (aj (dv 1) aa))) (ak (aQ (Qe.pt (qQ (aE bD (dv 10) aa) (og (aE bD (dv 11) aa)))) (ak (ay 2 aK.nd (af aG (dv 2) (dv 9)))) (ak (dA 3 (bT (ae (dv 10) (ae (dv 11) (ae (dv 9) ah))))))))))) (cI 3 (ai (ay 4 aK.nd kR) (ai (bL PassesOwn.never rfl (aY (dv 3)) (bf 5 aK.nd) (ai (jF 12 aK.nd (ae aa (ae aa (ae aa (ae aa ah))))) (ai (bL PassesOwn.never rfl (aY (dv 3)) (Ca (n:=3) rfl (fT (bf 10 aK.nd) (fT (bf 11 aK.nd) (fT (bf 9 aK.nd) zh)))) (ai (ay 14 aK.nd (af aU (af ax (aj (dv 5) aa) (dv 11)) (af ax (aj (dv 5) aa) (dv 10)))) (ai (ay 15 aK.nd (af aG (af ax (aj (dv 5) aa) (dv 10)) (af ax (aj (dv 5) aa) (dv 11)))) (ai (ay 16 aK.nd (aj (iF (ae (iE m6 (by rfl) Nb boot_int (ae (cH cE (dv 15) aa) ah)) (ae aa ah))) (iE m6 (by rfl) Nb boot_int (ae (cH rA (dv 14) aa) ah)))) (ai (aQ (aE cE (dv 14) aa) (ak (ay 16 aK.nd aa)) aF) (ak (D3 12 (dv 16) (y6 12 (af aG (aj (dv 12) (dv 16)) (dv 9)))))))))) (cI 12 (ai (ay 13 aK.nd (af aG (aP (vY rfl) (by rfl) Oe boot_min (ae (aj (dv 12) aa) (ae (aj (dv 12) aa) ah))) (aP (vY rfl) (by rfl) Oe boot_min (ae (aj (dv 12) aa) (ae (aj (dv 12) aa) ah))))) (ak (aQ (Qe.pt (gh (aE rB (dv 4) kR) (iG (aE cE (dv 13) (dv 4))))) (ak (ay 4 aK.nd (dv 13))) aF))))))) (ai (aQ (aE rB (dv 4) kR) (ak (av (dv 2))) aF) (ak (av (af aG (dv 2) (dv 4))))))))))),?_⟩
 rintro ds Q Ed ⟨ps,h0,h1,h2,rfl,h⟩;walk_at "s";unfold cB at h;obtain⟨hl,hG,hW,hH,h⟩:=h;walk_at "x";refine⟨OE _,?_⟩;refine jH ps LS (λdone ρ=>∃v6 v7 v8 v9 v10 v11:Option Sl,ρ=[some (.val (.lst false (ps.map LS))),some (.val (T3 h0 h1 h2)),some (.val (.int (sm aZ (h0,h1,h2) done))),some (.own ((PK (h0,h1,h2) done).map (RX (h0,h1,h2)))),none,none,v6,v7,v8,v9,v10,v11,none,none,none,none,none]) (λR q=>?_) ⟨none,none,none,none,none,none,rfl⟩ ?_ ?_
 ·walk_at "x";exact q
 ·rintro done p Ly hp NZ ⟨v6,v7,v8,v9,v10,v11,rfl⟩ K hK;have G:=hG p hp;have e1:p.1*h0 - h1=(L5 (h0,h1,h2) p).1:=by unfold L5;dsimp only;rw[M4]
  have e2:p.2.1*h0 - h2=(L5 (h0,h1,h2) p).2:=by unfold L5;dsimp only;rw[M4]
  have ln:=CG (h0,h1,h2) done;generalize hps:List.map LS ps=L;unfold LS;walk_at "x";subst hps;rw[e1,e2];refine⟨WJ G.x hH.a,WJ G.y hH.a,?_⟩;have app:L5 (h0,h1,h2) p≠(0,0)->∃v6 v7 v8 v9 v10 v11:Option Sl,[some (Sl.val (.lst false (ps.map LS))),some (.val (T3 h0 h1 h2)),some (.val (.int (sm aZ (h0,h1,h2) done))),some (.own ((PK (h0,h1,h2) done).map (RX (h0,h1,h2))++[RX (h0,h1,h2) p])),none,none,some (.val (.int p.1)),some (.val (.int p.2.1)),some (.val (.int p.2.2.1)),some (.val (.int p.2.2.2)),some (.val (.int (L5 (h0,h1,h2) p).1)),some (.val (.int (L5 (h0,h1,h2) p).2)),none,none,none,none,none]=[some (Sl.val (.lst false (ps.map LS))),some (.val (T3 h0 h1 h2)),some (.val (.int (sm aZ (h0,h1,h2) (done++[p])))),some (.own ((PK (h0,h1,h2) (done++[p])).map (RX (h0,h1,h2)))),none,none,v6,v7,v8,v9,v10,v11,none,none,none,none,none]:=λz=>⟨_,_,_,_,_,_,by rw[jy,Lw (show¬aZ (L5 (h0,h1,h2) p)from z),O1,Eu _ z,OQ];rfl⟩
  have sz:((PK (h0,h1,h2) done).map (RX (h0,h1,h2))).length<sizeLine:=by rw[LJ,sizeLine_eq];lia
  by_cases z1:(L5 (h0,h1,h2) p).1=0
  ·rw[Lx z1];by_cases z2:(L5 (h0,h1,h2) p).2=0
   ·rw[Lx z2];have z:L5 (h0,h1,h2) p=(0,0):=N2 z1 z2;exact hK _ ⟨_,_,_,_,_,_,by rw[jy,Lx (show aZ (L5 (h0,h1,h2) p)from z),Et _ z]⟩
   ·rw[Lw z2];exact⟨RS _ _ _,sz,hK _ (app λz=>z2 (by rw[z]))⟩
  ·rw[Lw z1];exact⟨RS _ _ _,sz,hK _ (app λz=>z1 (by rw[z]))⟩
 ·rintro Ly ⟨v6,v7,v8,v9,v10,v11,rfl⟩;walk_at "x";have lq:=CG (h0,h1,h2) ps;have qin:∀q∈PK (h0,h1,h2) ps,q∈ps/\L5 (h0,h1,h2) q∈RW (h0,h1,h2) ps:=λq hq=>⟨(Rb.mp hq).1,by rw[<- AB];exact Ms.mpr ⟨q,hq,rfl⟩⟩
  refine jH (PK (h0,h1,h2) ps) (RX (h0,h1,h2)) (λdone ρ=>∃(v5 v6 v7 v8 v9 v10 v11 v12 UN WN WO WQ:Option Sl) (lv:D),ρ=[some (.val (.lst false (ps.map LS))),some (.val (T3 h0 h1 h2)),some (.val (.int (sm aZ (h0,h1,h2) ps))),some (.val (.lst true ((PK (h0,h1,h2) ps).map (RX (h0,h1,h2))))),some (.val lv),v5,v6,v7,v8,v9,v10,v11,v12,UN,WN,WO,WQ]/\((done=[]/\lv=.Mj)∨∃ m:Int,lv=.int m/\(∃q∈done,q∈PK (h0,h1,h2) ps/\m=TH (h0,h1,h2) ps (L5 (h0,h1,h2) q))/\∀q∈done,m<=TH (h0,h1,h2) ps (L5 (h0,h1,h2) q))) (λR q=>?_) ⟨_,_,_,_,_,_,_,_,_,_,_,_,_,rfl,.inl ⟨rfl,rfl⟩⟩ ?_ ?_
  ·walk_at "x";exact q
  ·rintro done q Ly hq NZ ⟨v5,v6,v7,v8,v9,v10,v11,v12,UN,WN,WO,WQ,lv,rfl,hlv⟩ K hK;obtain⟨hqp,hqu⟩:=qin q hq;have wv:=WBh.ar hH (hG q hqp);walk_at "x";refine⟨sz4 _ _ _ _,?_⟩;generalize hv:L5 (h0,h1,h2) q=v at *;have eq:RX (h0,h1,h2) q=.tup [.int v.1,.int v.2,.int q.2.2.2]:=by unfold RX;rw[hv]
   rw[eq];refine jH (PK (h0,h1,h2) ps) (RX (h0,h1,h2)) (λdn ρ=>∃(v6 v7 v8 v9 v10 v11 UN WN WO WQ:Option Sl),ρ=[some (.val (.lst false (ps.map LS))),some (.val (T3 h0 h1 h2)),some (.val (.int (sm aZ (h0,h1,h2) ps))),some (.val (.lst true ((PK (h0,h1,h2) ps).map (RX (h0,h1,h2))))),some (.val lv),some (.val (.tup [.int v.1,.int v.2,.int q.2.2.2])),v6,v7,v8,v9,v10,v11,some (.own [.int (sm (aA v) (h0,h1,h2) dn),.int (sm (aB v) (h0,h1,h2) dn),.int (sm (aL v) (h0,h1,h2) dn),.int (sm (aR v) (h0,h1,h2) dn)]),UN,WN,WO,WQ]) (λR q=>?_) ⟨_,_,_,_,_,_,_,_,_,_,rfl⟩ ?_ ?_
   ·walk_at "x";exact q
   ·rintro dn p Ly hp NZ ⟨v6,v7,v8,v9,v10,v11,UN,WN,WO,WQ,rfl⟩ K hK;obtain⟨Y6,hpu⟩:=qin p hp;have wp:=WBh.ar hH (hG p Y6);have pn:=se hpu;have ep:RX (h0,h1,h2) p=.tup [.int (L5 (h0,h1,h2) p).1,.int (L5 (h0,h1,h2) p).2,.int p.2.2.2]:=rfl;have sA:=jy (aA v) (h0,h1,h2) dn p;have sB:=jy (aB v) (h0,h1,h2) dn p;have sL:=jy (aL v) (h0,h1,h2) dn p;have sR:=jy (aR v) (h0,h1,h2) dn p;rw[sA,sB,sL,sR]at hK;rw[ep];generalize L5 (h0,h1,h2) p=a at *;rw[D7];show kx _ _ _ _;have e1:v.1*a.2 - v.2*a.1=tn v a:=by unfold tn;rw[M4 v.2]
    have e2:v.1*a.1+v.2*a.2=LB v a:=rfl;refine nR (λLy=>∃k:Int,k=(if 0<tn v a then 2 else if LB v a<0 then 1 else 0)/\Ly=[some (.val (.lst false (ps.map LS))),some (.val (T3 h0 h1 h2)),some (.val (.int (sm aZ (h0,h1,h2) ps))),some (.val (.lst true ((PK (h0,h1,h2) ps).map (RX (h0,h1,h2))))),some (.val lv),some (.val (.tup [.int v.1,.int v.2,.int q.2.2.2])),v6,v7,v8,some (.val (.int p.2.2.2)),some (.val (.int a.1)),some (.val (.int a.2)),some (.own [.int (sm (aA v) (h0,h1,h2) dn),.int (sm (aB v) (h0,h1,h2) dn),.int (sm (aL v) (h0,h1,h2) dn),.int (sm (aR v) (h0,h1,h2) dn)]),UN,some (.val (.int (tn v a))),some (.val (.int (LB v a))),some (.val (.int k))]) (λLy e=>?_) λK2 UO=>?_
    rotate_left
    ·walk_at "x";rw[e1,e2];refine⟨WJ wv.a wp.b,WJ wv.b wp.a,WJ wv.a wp.a,WJ wv.b wp.b,sz2 _ _,?_⟩;by_cases c2:0<tn v a
     ·exact⟨.int 2,by rw[Lx c2];exact at1 _ _ _,UO _ ⟨2,by rw[Lx c2],rfl⟩⟩
     ·exact⟨_,by rw[Lw c2];exact Xk _ _,UO _ ⟨_,by rw[Lw c2],rfl⟩⟩
    obtain⟨k,ek,rfl⟩:=e;refine bO (λLy=>∃k:Int,k=(if tn v a<0 then 3 else if 0<tn v a then 2 else if LB v a<0 then 1 else 0)/\Ly=[some (.val (.lst false (ps.map LS))),some (.val (T3 h0 h1 h2)),some (.val (.int (sm aZ (h0,h1,h2) ps))),some (.val (.lst true ((PK (h0,h1,h2) ps).map (RX (h0,h1,h2))))),some (.val lv),some (.val (.tup [.int v.1,.int v.2,.int q.2.2.2])),v6,v7,v8,some (.val (.int p.2.2.2)),some (.val (.int a.1)),some (.val (.int a.2)),some (.own [.int (sm (aA v) (h0,h1,h2) dn),.int (sm (aB v) (h0,h1,h2) dn),.int (sm (aL v) (h0,h1,h2) dn),.int (sm (aR v) (h0,h1,h2) dn)]),UN,some (.val (.int (tn v a))),some (.val (.int (LB v a))),some (.val (.int k))]) (λLy e=>?_) λK2 UO=>?_
    rotate_left
    ·walk_at "x";split
     ·rename_i c1;exact UO _ ⟨3,by rw[Lx c1],rfl⟩
     ·rename_i c1;exact UO _ ⟨k,by rw[Lw c1];exact ek,rfl⟩
    clear ek k;obtain⟨k,ek,rfl⟩:=e;have nA:tn v a≠0->¬aA v a:=λz y=>z y.1
    have nB:tn v a≠0->¬aB v a:=λz y=>z y.1
    walk_at "x";by_cases c1:tn v a<0
    ·rw[Lx c1]at ek;subst ek;rw[Lw (nA (by lia)),Lw (nB (by lia)),Lw (show¬aL v a from λz=>by have:0<tn v a:=z;lia),Lx (show aR v a from c1),O1,O1,O1]at hK;exact⟨_,rfl,show fP _=true/\_ from⟨rfl,3,3,rfl,rfl,hK _ ⟨_,_,_,_,_,_,_,_,_,_,rfl⟩⟩⟩
    rw[Lw c1]at ek;rw[Lw (show¬aR v a from c1)]at hK;by_cases c2:0<tn v a
    ·rw[Lx c2]at ek;subst ek;rw[Lw (nA (by lia)),Lw (nB (by lia)),Lx (show aL v a from c2),O1,O1,O1]at hK;exact⟨_,rfl,show fP _=true/\_ from⟨rfl,2,2,rfl,rfl,hK _ ⟨_,_,_,_,_,_,_,_,_,_,rfl⟩⟩⟩
    rw[Lw c2]at ek;rw[Lw (show¬aL v a from c2)]at hK;by_cases c3:LB v a<0
    ·rw[Lx c3]at ek;subst ek;rw[Lw (show¬aA v a from λz=>z.2.1 c3),Lx (show aB v a from⟨by lia,c3⟩),O1,O1,O1]at hK;exact⟨_,rfl,show fP _=true/\_ from⟨rfl,1,1,rfl,rfl,hK _ ⟨_,_,_,_,_,_,_,_,_,_,rfl⟩⟩⟩
    ·rw[Lw c3]at ek;subst ek;rw[Lx (show aA v a from⟨by lia,c3,pn⟩),Lw (show¬aB v a from λz=>c3 z.2),O1,O1,O1]at hK;exact⟨_,rfl,show fP _=true/\_ from⟨rfl,0,0,rfl,rfl,hK _ ⟨_,_,_,_,_,_,_,_,_,_,rfl⟩⟩⟩
   ·rintro Ly ⟨v6,v7,v8,v9,v10,v11,UN,WN,WO,WQ,rfl⟩;rw[rR (P:=aA v) (λ_=>J6),rR (P:=aB v) (λ_=>qE),rR (P:=aL v) (λ_=>u9),rR (P:=aR v) (λ_=>J9)];have lt:min (sm (aA v) (h0,h1,h2) ps) (sm (aB v) (h0,h1,h2) ps)+min (sm (aL v) (h0,h1,h2) ps) (sm (aR v) (h0,h1,h2) ps)=TH (h0,h1,h2) ps v:=rfl;rcases hlv with⟨rfl,rfl⟩| ⟨m,rfl,⟨q1,d1,z1,e⟩,hle⟩
    ·walk_at "x";rw[lt];exact hK _ ⟨_,_,_,_,_,_,_,_,_,_,_,_,_,rfl,.inr ⟨_,rfl,⟨q,by simp,hq,by rw[hv]⟩,λx hx=>by
      have:x=q:=by simpa using hx
      subst this;rw[hv];exact Np _⟩⟩
    ·walk_at "x";rw[lt];by_cases c:TH (h0,h1,h2) ps v<m
     ·rw[Lx c];exact hK _ ⟨_,_,_,_,_,_,_,_,_,_,_,_,_,rfl,.inr ⟨_,rfl,⟨q,by simp,hq,by rw[hv]⟩,λx hx=>by
       rcases MC.mp hx with y|y
       ·have:=hle x y;lia
       ·rw[NI]at y;subst y;rw[hv];exact Np _⟩⟩
     ·rw[Lw c];exact hK _ ⟨_,_,_,_,_,_,_,_,_,_,_,_,_,rfl,.inr ⟨m,rfl,⟨q1,by simp[d1],z1,e⟩,λx hx=>by
       rcases MC.mp hx with y|y
       ·exact hle x y
       ·rw[NI]at y;subst y;rw[hv]
        lia⟩⟩
  ·rintro Ly ⟨v5,v6,v7,v8,v9,v10,v11,v12,UN,WN,WO,WQ,lv,rfl,hlv⟩;rcases hlv with⟨hnil,rfl⟩| ⟨m,rfl,⟨q,hq,hqz,e⟩,hle⟩
   ·walk_at "x";refine h _ λg hg=>(hg.none_ ?_).symm
    rw[<- AB,hnil];rfl
   ·walk_at "x";refine h _ λg hg=>DZ hW hg ⟨_,(qin q hq).2,e⟩ λw hw=>?_
    rw[<- AB]at hw;obtain⟨p,hp,rfl⟩:=Ms.mp hw;exact hle p hp
def uO (F:aw K "_law_lowest" "_law_lowest" jN f fd) (C:MW K mg κ)  (LY:mP P w K mg base κ)  : aJ P w K mg base (CX1 P w) 2 f fd ["_law_by", "_law_x", "_law_y"] (aM K (i6 κ)):=by
 refine aw.okN F mR (by walk_at "l") λ_ _ _ _ _ _ hr=>⟨_,(ai (ay 3 mR.nd (aq LY hr (ae (aq LY hr (ae (dv 0) (ae (dv 1) ah))) (ae (dv 2) ah)))) (ak (av (bT (ae (af bA (dv 0) (dv 3)) (ae (af bA (dv 1) (dv 3)) (ae (af bA (dv 2) (dv 3)) ah))))))),?_⟩
 rintro ds Q Ed ⟨b,x,y,rfl,h⟩;walk_at "s";unfold fH at h;obtain⟨hb,bb,bx,Wv,h⟩:=h;walk_at "x";refine Lf hb (bb.mono (by decide)) ?_;have hz:¬(b=0/\x=0/\y=0):=λz=>by lia
 obtain⟨p,q,r,ep,-,-,-,hp,-⟩:=(AN (Int.ne_of_gt hb) (bb.mono (by decide)) (bx.mono (by decide)) (Wv.mono (by decide))).ex;have d1:=dW (n:=105) (PM.cX (l:=b) hz) (PM.cW (PM.gn b x y)) bb;have d2:=dW (n:=105) (PM.cX (l:=b) hz) (PM.cW (PM.iS b x y)) bx;have d3:=dW (n:=105) (PM.cX (l:=b) hz) (PM.cW (PM.iT b x y)) Wv;have ee:T3 (b.fdiv (PM.ML b x y b)) (x.fdiv (PM.ML b x y b)) (y.fdiv (PM.ML b x y b))=T3 p q r:=ep;unfold T3 at ee;simp only[D.tup.injEq,PQ,D.int.injEq,and_true]at ee;exact h (b.fdiv (PM.ML b x y b),x.fdiv (PM.ML b x y b),y.fdiv (PM.ML b x y b)) ⟨by rw[ee.1];exact hp,d1.mono (by decide),d2.mono (by decide),d3.mono (by decide)⟩ (xq (w:=(b,x,y)) (Int.ne_of_gt hb))
def nE (F:aw K "_law_drawn_place" "_law_drawn_place" fu f fd) (C:MW K mg κ)  (Mq:vG P w K mg base κ) (LD:mg "len" = none):aJ P w K mg base (CX1 P w) 3 f fd ["_law_dots_here", "_law_cell"] (aM K (eJ κ)):=by
 refine aw.okN F bM (by walk_at "l") λ_ _ _ _ _ _ hr=>⟨_,(ai (ay 2 bM.nd (af aO (af aG (af ax (dv 1) aa) aa) aa)) (ai (ay 3 bM.nd (aj (dv 0) (af aO (af bA (dv 2) aa) (aP bK (by rfl) LD Qk (ae (dv 0) ah))))) (ai (ay 4 bM.nd (aj (dv 0) (af aO (af bA (dv 2) aa) (aP bK (by rfl) LD Qk (ae (dv 0) ah))))) (ai (ay 5 bM.nd (aj (dv 0) (af aO (af bA (dv 2) aa) (aP bK (by rfl) LD Qk (ae (dv 0) ah))))) (ai (aQ (aE bD (af aO (dv 2) aa) aa) (ak (av (bT (ae aa (ae (aj (dv 3) aa) (ae (aj (dv 3) aa) ah)))))) aF) (ai (aQ (aE bD (af aO (dv 2) aa) aa) (ak (av (aq Mq hr (ae aa (ae (af aG (aj (dv 3) aa) (aj (dv 4) aa)) (ae (af aG (aj (dv 3) aa) (aj (dv 4) aa)) ah)))))) aF) (ai (aQ (aE cE (af aO (dv 2) aa) aa) (ak (av (aq Mq hr (ae aa (ae (af aG (af aG (aj (dv 3) aa) (aj (dv 4) aa)) (aj (dv 5) aa)) (ae (af aG (af aG (aj (dv 3) aa) (aj (dv 4) aa)) (aj (dv 5) aa)) ah)))))) aF) (ai (aQ (aE bD (af aO (dv 2) aa) aa) (ak (av (aq Mq hr (ae aa (ae (af aG (af ax aa (aj (dv 3) aa)) (af ax aa (aj (dv 4) aa))) (ae (af aG (af ax aa (aj (dv 3) aa)) (af ax aa (aj (dv 4) aa))) ah)))))) aF) (ai (aQ (aE bD (af aO (dv 2) aa) aa) (ak (av (aq Mq hr (ae (af aG aa (af aO (af bA (dv 2) aa) aa)) (ae (af aU (af aO (dv 2) aa) aa) (ae (af aU (af aO (af bA (dv 2) aa) aa) aa) ah)))))) aF) (ai (ay 6 bM.nd (af aG aa (af aO (dv 1) (af gr aa aa)))) (ak (av (aq Mq hr (ae (dv 6) (ae (af aU (af aO (af ax (dv 1) aa) (af aG (af ax aa (af gr aa aa)) aa)) (af gr aa aa)) (ae (af aU (af aO (af ax (dv 1) aa) (af aG (af ax aa (af gr aa aa)) aa)) (af gr aa aa)) ah)))))))))))))))),?_⟩
 rintro ds Q Ed ⟨ps,c,rfl,h⟩;walk_at "s";unfold cL at h;obtain⟨h0,hl,hG,h⟩:=h;have lit:∀{m:Int},m.natAbs<2 ^ 64->CM c m:=λhm=>.inr (.inl hm)
 have cl:∀{m x:Int},m.natAbs<2 ^ 64->CM m x:=λhm=>.inl hm
 have L0:(0:Int)<(ps.length:Int):=by omega
 have ne:(ps.length:Int)≠0:=by omega
 refine nR (λLy=>∃n:Int,∃p∈ps,∃q∈ps,Ly=[some (.val (.lst false (ps.map LS))),some (.val (.int c)),some (.val (.int n)),some (.val (.tup [.int p.1,.int p.2.1,.int p.2.2.1,.int p.2.2.2])),some (.val (.tup [.int q.1,.int q.2.1,.int q.2.2.1,.int q.2.2.2])),none,none]) (λLy e=>?_) λK hK=>?_
 rotate_left
 ·walk_at "x";rw[LJ];refine⟨lit (by decide),by decide,CD.lit,ne,?_⟩;generalize (c*69621+7).fmod 2147483629=n;have f1:=fm (a:=n.fdiv 8) L0;have f2:=fm (a:=n.fdiv 256) L0;exact vS f1.1 f1.2 λp hp=>⟨CD.lit,ne,vS f2.1 f2.2 λq hq=>hK _ ⟨n,p,hp,q,hq,rfl⟩⟩
 obtain⟨n,p,hp,q,hq,rfl⟩:=e;refine bO (λLy=>∃r∈ps,Ly=[some (.val (.lst false (ps.map LS))),some (.val (.int c)),some (.val (.int n)),some (.val (.tup [.int p.1,.int p.2.1,.int p.2.2.1,.int p.2.2.2])),some (.val (.tup [.int q.1,.int q.2.1,.int q.2.2.1,.int q.2.2.2])),some (.val (.tup [.int r.1,.int r.2.1,.int r.2.2.1,.int r.2.2.2])),none]) (λLy e=>?_) λK hK=>?_
 rotate_left
 ·walk_at "x";rw[LJ];have f3:=fm (a:=n.fdiv 8192) L0;exact⟨CD.lit,ne,vS f3.1 f3.2 λr hr=>hK _ ⟨r,hr,rfl⟩⟩
 obtain⟨r,hr,rfl⟩:=e;have P:=hG p hp;have Q':=hG q hq;have R:=hG r hr;have sm:∀{m:Int},m.natAbs<2 ^ 20->Bd 105 m:=λhm=>Bd.mono (m:=20) hm (by decide)
 have a2:∀{x y:Int},Bd 60 x->Bd 60 y->Bd 105 (x+y):=λhx hy=>(hx.add hy).mono (by decide)
 have a3:∀{x y z:Int},Bd 60 x->Bd 60 y->Bd 60 z->Bd 105 (x+y+z):=λhx hy hz=>((hx.add hy).add (hz.mono (by decide))).mono (by decide)
 have a5:∀{x y:Int},Bd 60 x->Bd 60 y->Bd 105 (3*x+2*y):=λhx hy=>(Bd.add ((Bd.mul (m:=2) (by unfold Bd;decide) hx).mono (n:=70) (by decide)) ((Bd.mul (m:=2) (by unfold Bd;decide) hy).mono (n:=70) (by decide))).mono (by decide)
 refine jR ?_ λK hK=>?_
 rotate_left
 ·walk_at "x";refine⟨by decide,?_⟩;split
  ·exact⟨RS _ _ _,h (1,p.1,p.2.1) ⟨(show(0:Int)<1 by decide),Bd.mono (m:=2) (show Bd 2 (1:Int)by unfold Bd;decide) (by decide),P.x.mono (by decide),P.y.mono (by decide)⟩ (FD (p.1,p.2.1))⟩
  ·exact hK
 refine jR ?_ λK hK=>?_
 rotate_left
 ·walk_at "x";refine⟨by decide,?_⟩;split
  ·exact⟨by decide,sm (by decide),a2 P.x Q'.x,a2 P.y Q'.y,h⟩
  ·exact hK
 refine jR ?_ λK hK=>?_
 rotate_left
 ·walk_at "x";refine⟨by decide,?_⟩;split
  ·exact⟨by decide,sm (by decide),a3 P.x Q'.x R.x,a3 P.y Q'.y R.y,h⟩
  ·exact hK
 refine jR ?_ λK hK=>?_
 rotate_left
 ·walk_at "x";refine⟨by decide,?_⟩;split
  ·exact⟨cl (by decide),cl (by decide),cl (by decide),cl (by decide),by decide,sm (by decide),a5 P.x Q'.x,a5 P.y Q'.y,h⟩
  ·exact hK
 refine jR ?_ λK hK=>?_
 rotate_left
 ·walk_at "x";refine⟨by decide,?_⟩;split
  ·exact(by have f4:=fm (a:=n.fdiv 64) (b:=9) (by decide);have f5:=fm (a:=n) (b:=37) (by decide);have f6:=fm (a:=n.fdiv 37) (b:=37) (by decide);exact⟨CD.lit,by decide,by decide,CD.lit,by decide,by omega,sm (by omega),sm (by omega),sm (by omega),h⟩)
  ·exact hK
 walk_at "x";rw[p18,p30];have f7:=fm (a:=c) (b:=1000000000000000000) (by decide);have f8:=fm (a:=c*7919) (b:=2*1000000000000000000000000000000+1) (by decide);have f9:=fm (a:=c*104729) (b:=2*1000000000000000000000000000000+3) (by decide);have bg:∀{m:Int},m.natAbs<2 ^ 102->Bd 105 m:=λhm=>Bd.mono (m:=102) hm (by decide)
 exact⟨K4,by decide,lit (by decide),Ai,cl (by decide),by decide,Ai,lit (by decide),Ai,cl (by decide),by decide,Ai,by omega,bg (by omega),bg (by omega),bg (by omega),h⟩
def rC (F:aw K "_law_is_place" "_law_is_place" gW f fd) (C:MW K mg κ)  (LY:mP P w K mg base κ) (MY:xW P w K mg base κ) (Lz:mg "isinstance" = none) (LD:mg "len" = none) (NV:mg "tuple" = none):aJ P w K mg base (CX1 P w) 2 f fd ["_law_found"] (aM K (d6 κ)):=by
 refine aw.okN F rM (by walk_at "l") λ_ _ _ _ _ _ hr=>⟨_,(ai (aQ (Qe.pt (gh (cU (cw (j5 (by rfl) Lz (by rfl) NV boot_tuple (.inr (.inr (.inl rfl))) (dv 0)))) (iG (aE iH (aP bK (by rfl) LD Qk (ae (dv 0) ah)) aa)))) (ak (av cc)) aF) (ai (aQ (Qe.pt (gh (cU (cw (aq MY hr (ae (aj (dv 0) aa) ah)))) (gh (cU (cw (aq MY hr (ae (aj (dv 0) aa) ah)))) (gh (cU (cw (aq MY hr (ae (aj (dv 0) aa) ah)))) (iG (aE cE (aj (dv 0) aa) aa)))))) (ak (av cc)) aF) (ak (av (cH bD (aq LY hr (ae (aq LY hr (ae (aj (dv 0) aa) (ae (aj (dv 0) aa) ah))) (ae (aj (dv 0) aa) ah))) aa))))),?_⟩
 rintro ds Q Ed ⟨h0,h1,h2,rfl,h⟩;walk_at "s";unfold cM at h;obtain⟨⟨hp,hg⟩,h⟩:=h;have Vm:0<h0:=hp;have g1:(((Int.gcd (Int.gcd h0 h1:Int) h2:Nat)):Int)=1:=by
  have e':((PM.g3 h0 h1 h2:Nat):Int)=1:=by rw[show PM.g3 h0 h1 h2=1 from hg];rfl
  exact e'
 walk_at "x";rw[Lx (by rfl),Lw (by lia),NL g1];exact h
def xc (F:aw K "_law_swing" "_law_swing" kG f fd) (C:MW K mg κ)    : aJ P w K mg base (CX1 P w) 1 f fd ["_law_one", "_law_two", "_law_three"] (aM K (eK κ)):=by
 refine aw.okN F jP (by walk_at "l") λ_ _ _ _ _ _ hr=>⟨_,(ai (ay 3 jP.nd (af ax (aj (dv 2) aa) (af aU (af ax (aj (dv 0) aa) (aj (dv 1) aa)) (af ax (aj (dv 1) aa) (aj (dv 0) aa))))) (ai (ay 3 jP.nd (af aU (dv 3) (af ax (aj (dv 2) aa) (af aU (af ax (aj (dv 0) aa) (aj (dv 1) aa)) (af ax (aj (dv 1) aa) (aj (dv 0) aa)))))) (ak (av (af aG (dv 3) (af ax (aj (dv 2) aa) (af aU (af ax (aj (dv 0) aa) (aj (dv 1) aa)) (af ax (aj (dv 1) aa) (aj (dv 0) aa))))))))),?_⟩
 rintro ds Q Ed ⟨a0,a1,a2,b0,b1,b2,c0,c1,c2,rfl,h⟩;walk_at "s";unfold dg at h;obtain⟨Ri,RC,RZ,Rj,RD,R0,ZF,Ww,Si,h⟩:=h;walk_at "x";have e:c0*(a1*b2 - b1*a2) - c1*(a0*b2 - b0*a2)+c2*(a0*b1 - b0*a1)=L7 (a0,a1,a2) (b0,b1,b2) (c0,c1,c2):=by unfold L7 Lv LR;grind
 rw[e];exact⟨Qg RC R0,Qg RD RZ,Qg ZF ((RC.mul R0).sub (RD.mul RZ)),Qg Ri R0,Qg Rj RZ,Qg Ww ((Ri.mul R0).sub (Rj.mul RZ)),Qg Ri RD,Qg Rj RC,Qg Si ((Ri.mul RD).sub (Rj.mul RC)),h⟩
def w9 (F:aw K "_law_first" "_law_first" kF f fd) (C:MW K mg κ)    : aJ P w K mg base (CX1 P w) 1 f fd ["_law_one", "_law_other"] (aM K (gM κ)):=by
 refine aw.okN F xH (by walk_at "l") λ_ _ _ _ _ _ hr=>⟨_,(ai (aQ (aE iH (af ax (aj (dv 0) aa) (aj (dv 1) aa)) (af ax (aj (dv 1) aa) (aj (dv 0) aa))) (ak (av (cH cE (af ax (aj (dv 0) aa) (aj (dv 1) aa)) (af ax (aj (dv 1) aa) (aj (dv 0) aa))))) aF) (ak (av (cH cE (af ax (aj (dv 0) aa) (aj (dv 1) aa)) (af ax (aj (dv 1) aa) (aj (dv 0) aa)))))),?_⟩
 rintro ds Q Ed ⟨a0,a1,a2,b0,b1,b2,rfl,h⟩;walk_at "s";unfold eF at h;obtain⟨Ri,RC,RZ,Rj,RD,R0,h⟩:=h;walk_at "x";refine⟨Qg RC Rj,Qg RD Ri,?_⟩;by_cases c:a1*b0=b1*a0
 ·rw[Lx c];refine⟨Qg RZ Rj,Qg R0 Ri,h _ ?_⟩;rw[decide_eq_true_eq];show _↔(a1*b0<b1*a0∨(a1*b0=b1*a0/\a2*b0<b2*a0))
  lia
 ·rw[Lw c];refine⟨Qg RC Rj,Qg RD Ri,h _ ?_⟩;rw[decide_eq_true_eq];show _↔(a1*b0<b1*a0∨(a1*b0=b1*a0/\a2*b0<b2*a0))
  lia
def tu (F:aw K "_law_corners" "_law_corners" iY f fd) (C:MW K mg κ)  (Mz:oZ P w K mg base κ) (Nm:sk P w K mg base κ) (Md:kj P w K mg base κ) (Lz:mg "isinstance" = none) (LD:mg "len" = none) (MV:mg "list" = none) (LH:mg "range" = none):aJ P w K mg base (CX1 P w) 3 f fd ["_law_found"] (aM K (ig κ)):=by
 refine aw.okN F dh (by walk_at "l") λ_ _ _ _ _ _ hr=>⟨_,(ai (aQ (cU (cw (j5 (by rfl) Lz (by rfl) MV boot_list (.inr (.inr (.inr (.inl rfl)))) (dv 0)))) (ak (av cc)) aF) (ai (bL PassesOwn.never rfl (aY (dv 0)) (bf 1 dh.nd) (ak (aQ (cU (cw (aq Nm hr (ae (dv 1) ah)))) (ak (av cc)) aF))) (ai (bL PassesOwn.never rfl (aY (Qo.SE (fR (dv 0) (eW aa) eV))) (bf 1 dh.nd) (ak (aQ (cU (cw (aq Mz hr (ae (aj (dv 0) aa) (ae (dv 1) ah))))) (ak (av cc)) aF))) (ai (aQ (aE cE (aP bK (by rfl) LD Qk (ae (dv 0) ah)) aa) (ak (av cc)) aF) (ai (bL PassesOwn.never rfl (eE (by rfl) LH (ae (aP bK (by rfl) LD Qk (ae (dv 0) ah)) ah)) (bf 2 dh.nd) (ak (bL PassesOwn.never rfl (eE (by rfl) LH (ae (aP bK (by rfl) LD Qk (ae (dv 0) ah)) ah)) (bf 3 dh.nd) (ak (aQ (Qe.pt (qQ (aE (AD (by exact hr.units)) (dv 3) (dv 2)) (og (aE iH (dv 3) (af aO (af aG (dv 2) aa) (aP bK (by rfl) LD Qk (ae (dv 0) ah))))))) (ak (aQ (aE vq (aq Md hr (ae (aj (dv 0) (dv 2)) (ae (aj (dv 0) (af aO (af aG (dv 2) aa) (aP bK (by rfl) LD Qk (ae (dv 0) ah)))) (ae (aj (dv 0) (dv 3)) ah)))) aa) (ak (av cc)) aF)) aF))))) (ak (av cc))))))),?_⟩
 rintro ds Q Ed ⟨cs,rfl,h⟩;walk_at "s";unfold fe at h;obtain⟨R,h⟩:=h;have B:=R.b2;have hl:=R.len;walk_at "x";refine dD cs LL (λj ρ=>∃v:Option Sl,ρ=[some (.val (.lst false (cs.map LL))),v,none,none]) (λR q=>?_) ⟨none,rfl⟩ ?_ ?_
 ·walk_at "x";exact q
 ·rintro j p Ly hj ⟨v,rfl⟩ K hK;have P:=R.pr p (OL hj);walk_at "x";show d6 κ [T3 p.1 p.2.1 p.2.2] _ _;rw[iL,cM];refine⟨P,true,rfl,?_⟩;rw[Lw (by decide)];exact hK _ ⟨_,rfl⟩
 rintro Ly ⟨v,rfl⟩;walk_at "x";refine dD (cs.drop 1) LL (λj ρ=>∃v:Option Sl,ρ=[some (.val (.lst false (cs.map LL))),v,none,none]) (λR q=>?_) ⟨_,rfl⟩ ?_ ?_
 ·walk_at "x";rw[F1,<- List.map_drop];exact q
 ·rintro j x Ly hj ⟨v,rfl⟩ K hK;obtain⟨a,r,e⟩:∃a r,cs=a::r:=by
   cases cs with
   |nil=>simp at hj
   |cons a r=>exact⟨a,r,rfl⟩
  have xm:x∈r:=by have:=OL hj;rw[e]at this;exact this
  have lt:=R.fst a r e x xm;obtain⟨x1,x2,x3⟩:=B a (by rw[e];simp);obtain⟨y1,y2,y3⟩:=B x (by rw[e];exact MO _ xm);walk_at "x";refine⟨LL a,by rw[e];exact Xk _ _,?_⟩;rw[bF];show gM κ [T3 a.1 a.2.1 a.2.2,T3 x.1 x.2.1 x.2.2] _ _;rw[kg,eF];refine⟨x1,x2,x3,y1,y2,y3,λk hk=>⟨k,rfl,?_⟩⟩;rw[hk.mpr lt,Lw (by decide)];exact hK _ ⟨_,rfl⟩
 rintro Ly ⟨v,rfl⟩;walk_at "x";rw[LJ];by_cases c3:(cs.length:Int)<3
 ·rw[Lx c3];exact h
 rw[Lw c3];have h3:3<=cs.length:=by lia
 refine dD (List.range' 0 cs.length) (λ(k:Nat)=>D.int (k:Int)) (λj ρ=>∃v2 v3:Option Sl,ρ=[some (.val (.lst false (cs.map LL))),v,v2,v3]) (λR q=>?_) ⟨_,_,rfl⟩ ?_ ?_
 ·walk_at "x";rw[LJ,p8];exact⟨⟨by lia,by lia⟩,q⟩
 ·rintro k k' Ly hk ⟨v2,v3,rfl⟩ K hK;obtain⟨SM,ek⟩:=OC.mp hk;rw[QU]at SM;rw[WU,QX,Nat.one_mul]at ek;subst ek;walk_at "x";refine dD (List.range' 0 cs.length) (λ(k:Nat)=>D.int (k:Int)) (λj ρ=>∃v3:Option Sl,ρ=[some (.val (.lst false (cs.map LL))),v,some (.val (.int (k:Int))),v3]) (λR q=>?_) ⟨_,rfl⟩ ?_ ?_
  ·walk_at "x";rw[LJ,p8];exact⟨⟨by lia,by lia⟩,q⟩
  ·rintro j j' Ly hj ⟨v3,rfl⟩ K2 UO;obtain⟨P4,ej⟩:=OC.mp hj;rw[QU]at P4;rw[WU,QX,Nat.one_mul]at ej;subst ej;have l1:(k+1) % cs.length<cs.length:=P9 _ (by lia);have em:((k:Int)+1).fmod (cs.length:Int)=(((k+1) % cs.length:Nat):Int):=by
    rw[Int.fmod_eq_emod_of_nonneg _ (by lia)];rfl
   obtain⟨a1,m1⟩:=ZE SM;obtain⟨a2,m2⟩:=ZE l1;obtain⟨a3,m3⟩:=ZE P4;walk_at "x";rw[LJ,em];by_cases c1:j=k
   ·rw[Lx (by lia)];exact UO _ ⟨_,rfl⟩
   rw[Lw (by lia)];refine⟨by lia,?_⟩;by_cases c2:j=(k+1) % cs.length
   ·rw[Lx (by lia)];exact UO _ ⟨_,rfl⟩
   rw[Lw (by lia)];have lf:=R.rg.ZC h3 SM P4 c1 c2;refine⟨_,a1,by lia,_,a2,_,a3,?_⟩;rw[bF,bF,bF];obtain⟨x1,x2,x3⟩:=B _ m1;obtain⟨y1,y2,y3⟩:=B _ m2;obtain⟨z1,z2,z3⟩:=B _ m3;generalize cs.getD k (0,0,0)=p at *;generalize cs.getD ((k+1) % cs.length) (0,0,0)=q at *;generalize cs.getD j (0,0,0)=r at *;show eK κ [T3 p.1 p.2.1 p.2.2,T3 q.1 q.2.1 q.2.2,T3 r.1 r.2.1 r.2.2] _ _;rw[gN,dg];refine⟨x1,x2,x3,y1,y2,y3,z1,z2,z3,?_⟩;rw[dI];refine⟨_,rfl,?_⟩;rw[Lw (by rw[decide_eq_true_eq];exact O7.mpr lf)];exact UO _ ⟨_,rfl⟩
  ·rintro Ly ⟨v3,rfl⟩;exact hK _ ⟨_,_,rfl⟩
 ·rintro Ly ⟨v2,v3,rfl⟩;walk_at "x";exact h
def tj (F:aw K "_law_between" "_law_between" iW f fd) (C:MW K mg κ)  (Mz:oZ P w K mg base κ) (Md:kj P w K mg base κ)  : aJ P w K mg base (CX1 P w) 2 f fd ["_law_one", "_law_other", "_law_here"] (aM K (fk κ)):=by
 refine aw.okN F tL (by walk_at "l") λ_ _ _ _ _ _ hr=>⟨_,(ai (aQ (aE iH (aq Md hr (ae (dv 0) (ae (dv 1) (ae (dv 2) ah)))) aa) (ak (av cc)) aF) (ak (av (m9 (ng (aq Mz hr (ae (dv 2) (ae (dv 0) ah)))) (nh (ng (aq Mz hr (ae (dv 1) (ae (dv 2) ah))))))))),?_⟩
 rintro ds Q Ed ⟨a0,a1,a2,b0,b1,b2,c0,c1,c2,rfl,h⟩;walk_at "s";unfold da at h;obtain⟨Ri,RC,RZ,Rj,RD,R0,ZF,Ww,Si,h⟩:=h;walk_at "x";refine⟨Ri,RC,RZ,Rj,RD,R0,ZF,Ww,Si,?_⟩;by_cases c:L7 (a0,a1,a2) (b0,b1,b2) (c0,c1,c2)=0
 ·rw[Lx c];refine⟨ZF,Ww,Si,Ri,RC,RZ,λk hk=>?_⟩;cases k with
  |true =>
   rw[Lw (by decide)];exact h false ⟨λz=>absurd z (by decide),λz=>absurd (hk.mp rfl) z.2.1⟩
  |false =>
   rw[Lx rfl];refine⟨Rj,RD,R0,ZF,Ww,Si,λk2 Vs=>h _ ?_⟩;cases k2 with
   |true=>exact⟨λz=>absurd z (by decide),λz=>absurd (Vs.mp rfl) z.2.2⟩
   |false=>exact⟨λ_=>⟨c,λz=>absurd (hk.mpr z) (by decide),λz=>absurd (Vs.mpr z) (by decide)⟩,λ_=>rfl⟩
 ·rw[Lw c];exact h false ⟨λz=>absurd z (by decide),λz=>absurd z.1 c⟩
def uQ (F:aw K "_law_within" "_law_within" jO f fd) (C:MW K mg κ)  (Nx:uI P w K mg base κ) (Md:kj P w K mg base κ) (LD:mg "len" = none) (LH:mg "range" = none):aJ P w K mg base (CX1 P w) 3 f fd ["_law_found", "_law_here"] (aM K (fM κ)):=by
 refine aw.okN F mS (by walk_at "l") λ_ _ _ _ _ _ hr=>⟨_,(ai (aQ (aE bD (aP bK (by rfl) LD Qk (ae (dv 0) ah)) aa) (ak (av cc)) aF) (ai (aQ (aE bD (aP bK (by rfl) LD Qk (ae (dv 0) ah)) aa) (ak (av (cH (vo (by exact hr.units)) (aj (dv 0) aa) (dv 1)))) aF) (ai (aQ (aE bD (aP bK (by rfl) LD Qk (ae (dv 0) ah)) aa) (ak (av (aq Nx hr (ae (aj (dv 0) aa) (ae (aj (dv 0) aa) (ae (dv 1) ah)))))) aF) (ai (bL PassesOwn.never rfl (eE (by rfl) LH (ae (aP bK (by rfl) LD Qk (ae (dv 0) ah)) ah)) (bf 2 mS.nd) (ak (aQ (aE cE (aq Md hr (ae (aj (dv 0) (af aU (dv 2) aa)) (ae (aj (dv 0) (dv 2)) (ae (dv 1) ah)))) aa) (ak (av cc)) aF))) (ak (av cc)))))),?_⟩
 rintro ds Q Ed ⟨cs,h0,h1,h2,rfl,h⟩;walk_at "s";unfold dP at h;obtain⟨R,H,P,h⟩:=h;have H':Bd 200 h0/\Bd 200 h1/\Bd 200 h2:=⟨H.a.mono (by decide),H.b.mono (by decide),H.c.mono (by decide)⟩;have B:=R.b2;have hl:=R.len;walk_at "x";rw[LJ];rcases cs with _|⟨a,_|⟨b,_|⟨c,r⟩⟩⟩
 ·rw[Lx (show((([]:yau).length:Nat):Int)=0 from rfl)];exact h false ⟨λz=>absurd z (by decide),λz=>absurd rfl (Cg z P.pos)⟩
 ·rw[Lw (by show¬((1:Nat):Int)=0;decide),Lx (show(([a].length:Nat):Int)=1 from rfl)];refine⟨_,Xk _ _,(k8 a).ok,h _ ?_⟩;rw[Gy (R.pr a (by simp)) P,show eqD (LL a) (T3 h0 h1 h2)=_ from B5 a (h0,h1,h2),decide_eq_true_eq]
 ·rw[Lw (by show¬((2:Nat):Int)=0;decide),Lw (by show¬((2:Nat):Int)=1;decide),Lx (show(([a,b].length:Nat):Int)=2 from rfl)];refine⟨_,Xk _ _,_,at1 _ _ _,?_⟩;rw[bF,bF];obtain⟨x1,x2,x3⟩:=B a (by simp);obtain⟨y1,y2,y3⟩:=B b (by simp);show fk κ [T3 a.1 a.2.1 a.2.2,T3 b.1 b.2.1 b.2.2,T3 h0 h1 h2] _ _;rw[ja,da];refine⟨x1,x2,x3,y1,y2,y3,H'.1,H'.2.1,H'.2.2,λk hk=>h k ?_⟩;rw[Gz (R.pr a (by simp)).pos (R.pr b (by simp)).pos P.pos (R.fst a [b] rfl b (by simp))];exact hk
 generalize hcs:a::b::c::r=cs at *;have h3:3<=cs.length:=by rw[<- hcs];show 3<=r.length+1+1+1;lia
 rw[Lw (by lia),Lw (by lia),Lw (by lia)];have IP:=wU R.rg h3 (X:=(h0,h1,h2));refine dD (List.range' 0 cs.length) (λ(k:Nat)=>D.int (k:Int)) (λj ρ=>(∀k,k<j->0<=L7 (cs.getD ((k+cs.length - 1) % cs.length) (0,0,0)) (cs.getD k (0,0,0)) (h0,h1,h2))/\∃v:Option Sl,ρ=[some (.val (.lst false (cs.map LL))),some (.val (T3 h0 h1 h2)),v]) (λR q=>?_) ⟨λk hk=>absurd hk (by lia),none,rfl⟩ ?_ ?_
 ·walk_at "x";rw[LJ,p8];exact⟨⟨by lia,by lia⟩,q⟩
 ·rintro j k Ly hj ⟨ih,v,rfl⟩ K hK;obtain⟨P4,ek⟩:=OC.mp hj;rw[QU]at P4;rw[WU,QX,Nat.one_mul]at ek;subst ek;have lp:(j+cs.length - 1) % cs.length<cs.length:=P9 _ (by lia);obtain⟨a1,m1⟩:=ZE lp;obtain⟨a2,m2⟩:=ZE P4;have eP:NY (cs.map LL) ((j:Int) - 1)=some (LL (cs.getD ((j+cs.length - 1) % cs.length) (0,0,0))):=by
   have:=vT (cs.map LL) j 1 (by rw[LJ];exact P4) (by rw[LJ];lia);rw[show((j:Int) - 1)=((j:Int) - ((1:Nat):Int))from rfl,this,LJ,OD,MZ lp,VB lp];rfl
  walk_at "x";refine⟨_,eP,_,a2,?_⟩;rw[bF,bF];have st:0<=L7 (cs.getD ((j+cs.length - 1) % cs.length) (0,0,0)) (cs.getD j (0,0,0)) (h0,h1,h2)->∀k,k<j+1->0<=L7 (cs.getD ((k+cs.length - 1) % cs.length) (0,0,0)) (cs.getD k (0,0,0)) (h0,h1,h2):=λz k hk=>by
   rcases XR (XS hk)with y|y
   ·exact ih k y
   ·rw[y];exact z
  have no:L7 (cs.getD ((j+cs.length - 1) % cs.length) (0,0,0)) (cs.getD j (0,0,0)) (h0,h1,h2)<0->Q (.bl false):=λz=>h false ⟨λy=>absurd y (by decide),λy=>by have:=IP.mp y j P4;lia⟩
  obtain⟨x1,x2,x3⟩:=B _ m1;obtain⟨y1,y2,y3⟩:=B _ m2;generalize cs.getD ((j+cs.length - 1) % cs.length) (0,0,0)=p at *;generalize cs.getD j (0,0,0)=q at *;show eK κ [T3 p.1 p.2.1 p.2.2,T3 q.1 q.2.1 q.2.2,T3 h0 h1 h2] _ _;rw[gN,dg];refine⟨x1,x2,x3,y1,y2,y3,H'.1,H'.2.1,H'.2.2,?_⟩;rw[dI];refine⟨_,rfl,?_⟩;by_cases c:L7 p q (h0,h1,h2)<0
  ·rw[Lx (NL c)];exact no c
  ·rw[Lw (by rw[decide_eq_true_eq];exact c)];exact hK _ ⟨st (by lia),_,rfl⟩
 ·rintro Ly ⟨ih,v,rfl⟩;rw[QU]at ih;walk_at "x";exact h true ⟨λ_=>IP.mpr ih,λ_=>rfl⟩
def tB (F:aw K "_law_refused" "_law_refused" i4 f fd) (C:MW K mg κ)  (MJ:pI P w K mg base κ) (Mr:mg "ValueError" = none) (Lz:mg "isinstance" = none):aJ P w K mg base (CX1 P w) 9 f fd ["_law_dots_here", "_law_least"] (aM K (fq κ)):=by
 refine aw.okN F fi (by walk_at "l") λ_ _ _ _ _ _ hr=>⟨_,(ai (ay 2 fi.nd kR) (ai (Ga 3 MJ (hr.mono (by decide)) fi.nd C.MG (ae (dv 0) (ae (dv 1) ah)) (λ_=>(ak (ay 2 fi.nd (dv 3))))) (ai (aQ (Qe.pt (gh (aE rB (dv 2) kR) (gh (cU (cw (jd (by rfl) Lz (tD (v:=.ref κ.NoSuch) (by rfl) C.Nf rfl) (λu h=>h) (dv 2)))) (iG (cU (cw (jd (by rfl) Lz (zD (v:=.ty "ValueError") (by rfl) Mr (by rfl) rfl) (λu h=>h) (dv 2)))))))) (ak (av cc)) aF) (ak (av (m9 (ng (jd (by rfl) Lz (tD (v:=.ref κ.TooFew) (by rfl) C.NC rfl) (λu h=>h) (dv 2))) (nh (ng (jd (by rfl) Lz (tD (v:=.ref κ.NoPlace) (by rfl) C.Nj rfl) (λu h=>h) (dv 2)))))))))),?_⟩
 rintro ds Q Ed ⟨ps,l,rfl,h⟩;walk_at "s";unfold de at h;obtain⟨hl,hw,h⟩:=h;walk_at "x";refine .inl ⟨hl,hw,κ.NoSuch,rfl,C.ND,C.LQ,?_⟩;simp only[Z9 C.Mc,Z9 C.LP,Z9 C.Mb,Z9 C.L6];walk_at "x";exact h
def uP (F:aw K "_law_region" "_law_region" gH f fd) (C:MW K mg κ)  (Ny:uJ P w K mg base κ) (MA:oY P w K mg base κ) (NW:vI P w K mg base κ) (MJ:pI P w K mg base κ) (MV:mg "list" = none) (NG:mg "sum" = none):aJ P w K mg base (CX1 P w) 9 f fd ["_law_dots_here", "_law_least", "_law_places"] (aM K (i7 κ)):=by
 refine aw.okN F dR (by walk_at "l") λ_ _ _ _ _ _ hr=>⟨_,(ai (ay 3 dR.nd (aq MJ hr (ae ((y9 (by rfl) MV (dv 0))).SE (ae (dv 1) ah)))) (ai (ay 4 dR.nd (aP (vZ rfl) (by rfl) NG boot_sum (ae (cf (by rfl) (by exact bP (osc:=ao gH) (xs:=["_law_dot_here"]) (ns:=[]) (by decide +kernel)) bH.nil (aY (dv 0)) (λ_ _ _ _ _=>dS) (λ_ _ _ _ _=>(aj (dv 0) aa))) ah))) (ai (aQ (Qe.pt (gh (cU (cw (aq Ny hr (ae (dv 3) ah)))) (iG (Qe.pt (qQ (aE (vo (by exact hr.units)) (dv 3) (iF ah)) (og (aE vq (af ax aa (dv 1)) (af aG (dv 4) aa)))))))) (ak (av cc)) aF) (ai (bL PassesOwn.never rfl (aY (dv 3)) (bf 5 dR.nd) (ak (aQ (aE cE (aq MA hr (ae (dv 0) (ae (dv 5) ah))) (dv 1)) (ak (av cc)) aF))) (ai (bL PassesOwn.never rfl (aY (dv 2)) (bf 5 dR.nd) (ak (aQ (aE (AD (by exact hr.units)) (aq NW hr (ae (dv 3) (ae (dv 5) ah))) (cH FA (aq MA hr (ae (dv 0) (ae (dv 5) ah))) (dv 1))) (ak (av cc)) aF))) (ak (av cc))))))),?_⟩
 rintro ds Q Ed ⟨ps,l,hs,rfl,h⟩;walk_at "s";unfold fJ at h;obtain⟨Dk,l1,l2,hh,hp,h⟩:=h;have l20:=Dk.le;walk_at "x";refine⟨Dk,l1,l2,λzs ys hz hy=>?_⟩;have DI:=fun {X g:Tr}=>DY Dk hz hy l1 l2 (X:=X) (g:=g)
 have ne:=Js Dk hz hy l1;obtain⟨hG,lG⟩:=lh Dk hz (aT ps - l+1);have S:=k9 Dk hG lG hy;have Rh:=S.Rh (cZ (bY ps zs) (aT ps - l+1)).length;have ex:=S.ex (cZ (bY ps zs) (aT ps - l+1)).length;have nd:=S.nd (cZ (bY ps zs) (aT ps - l+1)).length;rw[VP]at Rh ex nd;have R:=EN Rh.1 nd ex (λp hp=>(Rh.2.2 p hp).1) (λp hp=>(Rh.2.2 p hp).2) Rh.2.1;have mem:∀{x:Tr},x∈dH (gz ps zs ys (aT ps - l+1))↔x∈gz ps zs ys (aT ps - l+1):=jx;have hbR:∀p∈dH (gz ps zs ys (aT ps - l+1)),HB p:=λp hp=>⟨(R.pr p hp).pos,(R.cb p hp).b.mono (by decide),(R.cb p hp).x.mono (by decide),(R.cb p hp).y.mono (by decide)⟩
 have ic:∀X:Tr,QF (dH (gz ps zs ys (aT ps - l+1))) X↔QF (gz ps zs ys (aT ps - l+1)) X:=λX=>⟨λI d hd=>I d λp hp=>hd p (mem.mp hp),λI d hd=>I d λp hp=>hd p (mem.mpr hp)⟩
 have lne:3*l<=aT ps+2->dH (gz ps zs ys (aT ps - l+1)) ≠ []:=λq e=>by have:=sQ (gz ps zs ys (aT ps - l+1));rw[e,List.length_nil]at this;exact ne (by lia) (UQ this.symm)
 generalize dH (gz ps zs ys (aT ps - l+1))=M at *;refine PD.comp_map ps LS (λ_=>true) (λp=>.int p.2.2.2) (λR q=>?_) (by rw[sizeLine_eq];lia) (λp hp K hK=>?_) (λp hp _ K hK=>?_) ?_
 ·walk_at "x";exact q
 ·walk_at "x";exact hK
 ·unfold LS;walk_at "x";exact hK
 rw[RK.mpr (λ_ _=>rfl)];have ew:(ps.map λp=>p.2.2.2).sum=aT ps:=by unfold aT RV;rw[RK.mpr (λ_ _=>rfl)]
 refine⟨true,ps.map λp=>p.2.2.2,by rw[OH];rfl,R,OE _,(Pj.map k8).ok,(Pj.lst (iO.nil 0)).ok,?_⟩;rw[ew];refine Ee (.inl (by unfold Bd;decide)) (λq z=>lne z (by
  cases M with
  |nil=>rfl
  |cons a r=>rw[MR,ze,Gg]at q;exact absurd q (by decide))) ?_
 refine dD M LL (λj ρ=>∃v:Option Sl,ρ=[some (Sl.val (D.lst false (ps.map LS))),some (Sl.val (D.int l)),some (Sl.val (D.lst false (hs.map LL))),some (Sl.val (D.lst true (M.map LL))),some (Sl.val (D.int (aT ps))),v]) (λR q=>?_) ⟨_,rfl⟩ ?_ ?_
 ·walk_at "x";exact q
 ·rintro j p Ly hj ⟨v,rfl⟩ K hK;have pm:=OL hj;have B:=hbR p pm;obtain⟨g,hg⟩:=Cj p ps;have dp:=(DI B.pos hg).mpr (zo (mem.mp pm));walk_at "x";show dj κ [.lst false (ps.map LS),T3 p.1 p.2.1 p.2.2] _ _;rw[d5,cB];refine⟨by lia,Dk.gd,Dk.nn,B,λn hn=>?_⟩;rw[hn g hg,dI];refine⟨_,rfl,?_⟩;rw[Lw (by rw[decide_eq_true_eq];lia)];exact hK _ ⟨_,rfl⟩
 rintro Ly ⟨v,rfl⟩;walk_at "x";refine dD hs LL (λj ρ=>∃v:Option Sl,ρ=[some (Sl.val (D.lst false (ps.map LS))),some (Sl.val (D.int l)),some (Sl.val (D.lst false (hs.map LL))),some (Sl.val (D.lst true (M.map LL))),some (Sl.val (D.int (aT ps))),v]) (λR q=>?_) ⟨_,rfl⟩ ?_ ?_
 ·walk_at "x";exact q
 ·rintro j p Ly hj ⟨v,rfl⟩ K hK;obtain⟨B,P⟩:=hp p (OL hj);obtain⟨g,hg⟩:=Cj p ps;have dp:=DI B.pos hg;walk_at "x";show fM κ [.lst false (M.map LL),T3 p.1 p.2.1 p.2.2] _ _;rw[jU,dP];refine⟨R,B,P,λk hk=>?_⟩;show dj κ [.lst false (ps.map LS),T3 p.1 p.2.1 p.2.2] _ _;rw[d5,cB];refine⟨by lia,Dk.gd,Dk.nn,B,λn hn=>?_⟩;rw[hn g hg,dI];have ek:k=decide (l<=Om g ps):=by
   rw[Uh,hk,decide_eq_true_eq,dp];exact ic p
  subst ek;walk_at "x";exact hK _ ⟨_,rfl⟩
 ·rintro Ly ⟨v,rfl⟩;walk_at "x";exact h
def Jz (F:aw K "law" "law" gG f fd) (C:MW K mg κ)  (LG:mO P w K mg base κ) (MA:oY P w K mg base κ) (OB:zY P w K mg base κ) (MQ:oR P w K mg base κ) (MX:uK P w K mg base κ) (Nd:vH P w K mg base κ) (MJ:pI P w K mg base κ) (MV:mg "list" = none) (PO:mg "max" = none) (Oe:mg "min" = none) (LH:mg "range" = none) (NG:mg "sum" = none):aJ P w K mg base (CX1 P w) 10 f fd ["_law_script"] (aM K rS):=by
 refine aw.okN F dQ (by walk_at "l") λ_ _ _ _ _ _ hr=>⟨_,(ai (ay 1 dQ.nd aa) (ai (aQ (aE bD (af aO (af bA (aq LG hr (ae (dv 0) (ae aa ah))) aa) aa) aa) (ak (ay 1 dQ.nd aa)) aF) (ai (ay 2 dQ.nd (aq OB hr (ae (dv 0) (ae aa (ae (dv 1) ah))))) (ai (ay 3 dQ.nd (aP (vZ rfl) (by rfl) NG boot_sum (ae (cf (by rfl) (by exact bP (osc:=ao gG) (xs:=["_law_dot_here"]) (ns:=[]) (by decide +kernel)) bH.nil (aY (dv 2)) (λ_ _ _ _ _=>dS) (λ_ _ _ _ _=>(aj (dv 0) aa))) ah))) (ai (lQ 4 dQ.nd (by rfl) (by exact bP (osc:=ao gG) (xs:=["_law_k"]) (ns:=["_law_script", "_law_dots_here"]) (by decide +kernel)) (bH.cons 0 (bH.cons 2 bH.nil)) (um (by rfl) LH (ae aa (ae aa ah))) (λ_ _ _ _ _=>dS) (λ_ _ _ _ _=>(aq MQ hr (ae (dv 2) (ae (aq LG hr (ae (dv 1) (ae (dv 0) ah))) ah))))) (ai (ay 5 dQ.nd (af aG aa (af aO (af bA (aq LG hr (ae (dv 0) (ae aa ah))) aa) (dv 3)))) (ai (aQ (aE bD (af aO (aq LG hr (ae (dv 0) (ae aa ah))) aa) aa) (ai (ay 5 dQ.nd (af aG (aq MA hr (ae (dv 2) (ae (aj (dv 4) aa) ah))) (af aO (af bA (aq LG hr (ae (dv 0) (ae aa ah))) aa) aa))) (ak (ay 5 dQ.nd (aP (vY rfl) (by rfl) Oe boot_min (ae (aP (Ib rfl) (by rfl) PO boot_max (ae (dv 5) (ae aa ah))) (ae (dv 3) ah)))))) aF) (ai (aQ (Qe.pt (gh (cU (cw (aq Nd hr (ae (dv 2) (ae (dv 5) (ae (dv 4) ah)))))) (iG (cU (cw (aq Nd hr (ae (dv 2) (ae (af bA (af aG (dv 3) aa) aa) (ae (dv 4) ah))))))))) (ak (av cc)) aF) (ai (bL PassesOwn.never rfl (aY (iF (ae aa (ae (af aU aa (dv 5)) (ae (af aG (dv 3) aa) (ae (af aG (dv 3) (dv 5)) ah)))))) (bf 6 dQ.nd) (ak (aQ (cU (cw (aq MX hr (ae (dv 2) (ae (dv 6) ah))))) (ak (av cc)) aF))) (ai (F9 7 dQ.nd (F7 MJ (hr.mono (by decide)) (ae (dv 2) (ae (dv 5) ah)))) (ai (ay 8 dQ.nd (y6 7 ((y9 (by rfl) MV (dv 7))).SE)) (ai (dA 7 (bT (ae aa (ae aa (ae aa ah))))) (cI 7 (ak (av (m9 (aq MX hr (ae (iF ah) (ae aa ah))) (nh (cH (vo (by exact hr.units)) (aq MJ hr (ae (dv 2) (ae (dv 5) ah))) (dv 8))))))))))))))))))),?_⟩
 rintro ds Q Ed ⟨ns,rfl,hl,h⟩;walk_at "s";refine bO (λLy=>Ly=[some (.val (.lst false (ns.map D.int))),some (.val (.int 8)),none,none,none,none,none,none,none]) (λLy e=>?_) λK hK=>?_
 rotate_left
 ·walk_at "x";exact hK _ rfl
 subst e;refine bO (λLy=>∃m:Int,(m=8∨m=16)/\Ly=[some (.val (.lst false (ns.map D.int))),some (.val (.int m)),none,none,none,none,none,none,none]) (λLy e=>?_) λK hK=>?_
 rotate_left
 ·walk_at "x";refine⟨by decide,hl,λv=>⟨CD.lit,by decide,?_⟩⟩;split
  ·exact hK _ ⟨16,.inr rfl,rfl⟩
  ·exact hK _ ⟨8,.inl rfl,rfl⟩
 obtain⟨m,hm,rfl⟩:=e;refine bO (λLy=>∃ps:List Dt,gc ps/\Ly=[some (.val (.lst false (ns.map D.int))),some (.val (.int m)),some (.val (.lst true (ps.map LS))),none,none,none,none,none,none]) (λLy e=>?_) λK hK=>?_
 rotate_left
 ·walk_at "x";exact⟨hl,hm,λps Dk=>hK _ ⟨ps,Dk,rfl⟩⟩
 obtain⟨ps,Dk,rfl⟩:=e;have l0:=List.length_pos_iff.mpr Dk.ne;have l20:=Dk.le;have w0:=FY Dk;have f3:(aT ps+2).fdiv 3=(aT ps+2) / 3:=Int.fdiv_eq_ediv_of_nonneg _ (by decide);have ew:(ps.map λp=>p.2.2.2).sum=aT ps:=by unfold aT RV;rw[RK.mpr (λ_ _=>rfl)]
 refine bO (λLy=>Ly=[some (.val (.lst false (ns.map D.int))),some (.val (.int m)),some (.val (.lst true (ps.map LS))),some (.val (.int (aT ps))),none,none,none,none,none]) (λLy e=>?_) λK hK=>?_
 rotate_left
 ·walk_at "x";refine PD.comp_map ps LS (λ_=>true) (λp=>.int p.2.2.2) (λR q=>?_) (by rw[sizeLine_eq];lia) (λp hp K hK=>?_) (λp hp _ K hK=>?_) ?_
  ·walk_at "x";exact q
  ·walk_at "x";exact hK
  ·unfold LS;walk_at "x";exact hK
  rw[RK.mpr (λ_ _=>rfl)];refine⟨true,ps.map λp=>p.2.2.2,by rw[OH];rfl,?_⟩;rw[ew];exact hK _ rfl
 subst e;refine bO (λLy=>∃hs:yau,hs.length=6/\(∀h∈hs,HB h/\Pr h)/\Ly=[some (.val (.lst false (ns.map D.int))),some (.val (.int m)),some (.val (.lst true (ps.map LS))),some (.val (.int (aT ps))),some (.val (.lst true (hs.map LL))),none,none,none,none]) (λLy e=>?_) λK hK=>?_
 rotate_left
 ·walk_at "x";refine BG (List.range' 2 6) (λ(k:Nat)=>D.int (k:Int)) LL (λh=>HB h/\Pr h) (λR q=>?_) (by rw[sizeLine_eq];decide) (λk hk K hK=>?_) λhs hn hP=>hK _ ⟨hs,hn,hP,rfl⟩
  ·walk_at "x";exact⟨⟨by lia,by lia⟩,⟨by lia,by lia⟩,q⟩
  ·walk_at "x";exact⟨by lia,hl,λv=>⟨l0,by lia,Dk.gd,λh B P=>hK h ⟨B,P⟩⟩⟩
 obtain⟨hs,h6,hp,rfl⟩:=e;refine bO (λLy=>∃l:Int,1<=l/\l<=aT ps/\Ly=[some (.val (.lst false (ns.map D.int))),some (.val (.int m)),some (.val (.lst true (ps.map LS))),some (.val (.int (aT ps))),some (.val (.lst true (hs.map LL))),some (.val (.int l)),none,none,none]) (λLy e=>?_) λK hK=>?_
 rotate_left
 ·walk_at "x";refine⟨by decide,hl,λv=>⟨CD.lit,by lia,hK _ ⟨_,?_,?_,rfl⟩⟩⟩
  ·have:=fm (a:=v.fdiv 7) w0
   lia
  ·have:=fm (a:=v.fdiv 7) w0
   lia
 obtain⟨l,l1,l2,rfl⟩:=e;refine bO (λLy=>∃l:Int,1<=l/\l<=aT ps/\Ly=[some (.val (.lst false (ns.map D.int))),some (.val (.int m)),some (.val (.lst true (ps.map LS))),some (.val (.int (aT ps))),some (.val (.lst true (hs.map LL))),some (.val (.int l)),none,none,none]) (λLy e=>?_) λK hK=>?_
 rotate_left
 ·walk_at "x";refine⟨by decide,hl,λv=>⟨by decide,?_⟩⟩;split
  ·obtain⟨q,r,eh⟩:∃q r,hs=q::r:=by
    cases hs with
    |nil=>exact absurd h6 (by simp)
    |cons q r=>exact⟨q,r,rfl⟩
   refine⟨LL q,by rw[eh];exact Xk _ _,?_⟩;rw[bF];show dj κ [.lst false (ps.map LS),T3 q.1 q.2.1 q.2.2] _ _;rw[d5,cB];refine⟨by lia,Dk.gd,Dk.nn,(hp q (by rw[eh];simp)).1,λn hn=>⟨by decide,hl,λv=>⟨CD.lit,by decide,?_⟩⟩⟩;walk_at "x";exact hK _ ⟨_,by lia,by lia,rfl⟩
  ·exact hK _ ⟨l,l1,l2,rfl⟩
 obtain⟨l,l1,l2,rfl⟩:=e;walk_at "x";refine⟨Dk,l1,l2,by lia,hp,CD.lit,Dk,by lia,by lia,by lia,hp,?_⟩;refine PD.jG [0,0 - l,aT ps+1,aT ps+l] D.int (λj ρ=>∃v:Option Sl,ρ=[some (.val (.lst false (ns.map D.int))),some (.val (.int m)),some (.val (.lst true (ps.map LS))),some (.val (.int (aT ps))),some (.val (.lst true (hs.map LL))),some (.val (.int l)),v,none,none]) (λR q=>?_) ⟨_,rfl⟩ ?_ ?_
 ·walk_at "x";exact⟨sz4 _ _ _ _,q⟩
 ·rintro j x Ly hj ⟨v,rfl⟩;have xm:=OL hj;simp only[L9,QV,or_false]at xm;walk_at "x";exact⟨by lia,by lia,_,rfl⟩
 rintro Ly ⟨v,rfl⟩;walk_at "x";refine⟨Dk,l1,l2,λzs ys hz hy=>?_⟩;obtain⟨hG,lG⟩:=lh Dk hz (aT ps - l+1);have Rh:=(k9 Dk hG lG hy).Rh (cZ (bY ps zs) (aT ps - l+1)).length;rw[VP]at Rh;have ll:=sQ (gz ps zs ys (aT ps - l+1));have okM:okD (.lst true ((dH (gz ps zs ys (aT ps - l+1))).map LL)):=(Pj.map k8).ok;refine⟨zC _,by rw[fP];exact vP _,RS _ _ _,by rw[LJ,sizeLine_eq,ll];exact VH Rh.2.1 (by decide),OE _,?_⟩;show fq κ [.lst false (([]:List Dt).map LS),.int 1] _ _;rw[jb,de];refine⟨by decide,.inr (by decide),true,rfl,?_⟩;rw[Lx rfl];refine⟨Dk,l1,l2,λzs' ys' Qp Sa=>?_⟩;rw[CY Qp hz,CZ Sa hy,wL];exact⟨okM,okM,h⟩
end
def all_mk {l:PySem.W.OpenLaw} {K:yac} (X:K.In h) (G:h.Ns mainGlobals mg) (hfa:mg "law" = some (.ref fa))
  {od16:Option Addr} {sl16:Array (yan)} {oc16:Value}
 {tc16:Value} {td16:Option Addr} {ts16:Array (yan)}
  {od17:Option Addr} {sl17:Array (yan)} {oc17:Value}
 {tc17:Value} {td17:Option Addr} {ts17:Array (yan)}
  {od52:Option Addr} {sl52:Array (yan)} {oc52:Value}
  (e0:FL K "sign" xG)
  (e1:FL K "common_divisor" fV)
  (e2:FL K "reduced" nO)
  (e3:FL K "picks" oN)
  (e4:FL K "value" tK)
  (e5:FL K "side" xF)
  (e6:FL K "is_level" me)
  (e7:FL K "crossed" nL)
  (e8:FL K "line" xD)
  (e9:FL K "place" tI)
  (e10:FL K "place_of" mi)
  (e11:FL K "rank" xE)
  (e12:FL K "swing" tJ)
  (e13:FL K "spot_of" nP)
  (e14:FL K "spots_of" jr)
  (e15:FL K "of_colour" iB)
  (a16:PySem.W.nsIn K mainGlobals "total" = some (some (.ref f16))) (l16:K.lookup f16=some ⟨oc16,od16,.func (PySem.W.fnOf "total" "total" (cT hJ) (bZ hJ) (ao hJ) (.ref dt16) kV16 dc16 pm16 an16 cd16 ct16),sl16⟩) (c16:PySem.W.codeIn K cd16 "total" = true) (k16:PySem.W.keepIn K (.ref f16)=true)
  (ZG:K.lookup dt16=some ⟨tc16,td16,.seq #[.none] tn16,ts16⟩)
  (a17:PySem.W.nsIn K mainGlobals "weighed" = some (some (.ref f17))) (l17:K.lookup f17=some ⟨oc17,od17,.func (PySem.W.fnOf "weighed" "weighed" (cT fZ) (bZ fZ) (ao fZ) (.ref dt17) kV17 dc17 pm17 an17 cd17 ct17),sl17⟩) (c17:PySem.W.codeIn K cd17 "weighed" = true) (k17:PySem.W.keepIn K (.ref f17)=true)
  (ZH:K.lookup dt17=some ⟨tc17,td17,.seq #[.none] tn17,ts17⟩)
  (e18:FL K "chain" tH)
  (e19:FL K "hull" rK)
  (e20:FL K "on_two_spots" gZ)
  (e21:FL K "spot_pairs" eI)
  (e22:FL K "pair_line" kI)
  (e23:FL K "split_by" jq)
  (e24:FL K "pair_lines" gI)
  (e25:FL K "place_between" gJ)
  (e26:FL K "clipped" kf)
  (e27:FL K "common" p9)
  (e28:FL K "led" AU)
  (e29:FL K "axis_lines" eG)
  (e30:FL K "opposite" mh)
  (e31:FL K "half_planes" iV)
  (e32:FL K "rims" rL)
  (e33:FL K "hull_of" nM)
  (e34:FL K "region_within" gK)
  (e35:FL K "region" qa)
  (e36:FL K "_law_whole" kH)
  (e37:FL K "_law_cell_at" iX)
  (e38:FL K "_law_divisor" iZ)
  (e39:FL K "_law_dot" nN)
  (e40:FL K "_law_dots" mf)
  (e41:FL K "_law_depth" kE)
  (e42:FL K "_law_lowest" jN)
  (e43:FL K "_law_drawn_place" fu)
  (e44:FL K "_law_is_place" gW)
  (e45:FL K "_law_swing" kG)
  (e46:FL K "_law_first" kF)
  (e47:FL K "_law_corners" iY)
  (e48:FL K "_law_between" iW)
  (e49:FL K "_law_within" jO)
  (e50:FL K "_law_refused" i4)
  (e51:FL K "_law_region" gH)
  (a52:PySem.W.nsIn K mainGlobals "law" = some (some (.ref f52))) (l52:K.lookup f52=some ⟨oc52,od52,.func (PySem.W.fnOf "law" "law" (cT gG) (bZ gG) (ao gG) .none kV52 dc52 pm52 an52 ZI ct52),sl52⟩) (c52:PySem.W.codeIn K ZI "law" = true) (k52:PySem.W.keepIn K (.ref f52)=true)
  (MG:PySem.W.nsIn K mainGlobals "PlaneError" = some (some (.ref NX)))
  (Nj:PySem.W.nsIn K mainGlobals "NoPlace" = some (some (.ref Qt)))
  (Of:PySem.W.nsIn K mainGlobals "NoLine" = some (some (.ref Q9)))
  (NC:PySem.W.nsIn K mainGlobals "TooFew" = some (some (.ref Ra)))
  (Nf:PySem.W.nsIn K mainGlobals "NoSuch" = some (some (.ref Mi)))
  (Nk:PySem.W.excIn K Mi Be "ValueError.__new__" = true)
  (ND:PX.D6 K Mi=true)
  (L8:PySem.W.kitOne K (.ref Mi) (.ref NX)=some true)
  (L6:PySem.W.kitOne K (.ref Mi) (.ref Qt)=some false)
  (Mu:PySem.W.kitOne K (.ref Mi) (.ref Q9)=some false)
  (Mb:PySem.W.kitOne K (.ref Mi) (.ref Ra)=some false)
  (Mc:PySem.W.kitOne K (.ref Mi) (.ref Mi)=some true)
  (LP:PySem.W.kitOne K (.ref Mi) (.type "ValueError")=some true)
  (LQ:PySem.W.exmOne K (.ref Mi) (.ref NX)=some true)
  (Mv:PySem.W.exmOne K (.ref Mi) (.ref Mi)=some true)
  (Mr:PySem.W.nsIn K mainGlobals "ValueError" = some none) (Ob:PySem.W.nsIn K mainGlobals "abs" = some none) (OA:PySem.W.nsIn K mainGlobals "bool" = some none) (Nb:PySem.W.nsIn K mainGlobals "int" = some none) (Lz:PySem.W.nsIn K mainGlobals "isinstance" = some none) (LD:PySem.W.nsIn K mainGlobals "len" = some none) (MV:PySem.W.nsIn K mainGlobals "list" = some none) (PO:PySem.W.nsIn K mainGlobals "max" = some none) (Oe:PySem.W.nsIn K mainGlobals "min" = some none) (LH:PySem.W.nsIn K mainGlobals "range" = some none) (Oo:PySem.W.nsIn K mainGlobals "set" = some none) (MH:PySem.W.nsIn K mainGlobals "sorted" = some none) (NG:PySem.W.nsIn K mainGlobals "sum" = some none) (NV:PySem.W.nsIn K mainGlobals "tuple" = some none) :
  ∃ fd:FuncData,(∀(s:Shared) (v:Value),BindsTo s fd ⟨[v],[]⟩ [("_law_script", v)])/\∀base:Heap,K.In base->base.Ns mainGlobals mg->aJ l.prog w K mg base (CX1 l.prog w) 10 fa fd ["_law_script"] (aM K rS):=by
 have e:=hfa.symm.trans (PySem.W.mg_of X G a52);cases e;have Mr:=PySem.W.mg_none_of X G Mr;have Ob:=PySem.W.mg_none_of X G Ob;have OA:=PySem.W.mg_none_of X G OA;have Nb:=PySem.W.mg_none_of X G Nb;have Lz:=PySem.W.mg_none_of X G Lz;have LD:=PySem.W.mg_none_of X G LD;have MV:=PySem.W.mg_none_of X G MV;have PO:=PySem.W.mg_none_of X G PO;have Oe:=PySem.W.mg_none_of X G Oe;have LH:=PySem.W.mg_none_of X G LH;have Oo:=PySem.W.mg_none_of X G Oo;have MH:=PySem.W.mg_none_of X G MH;have NG:=PySem.W.mg_none_of X G NG;have NV:=PySem.W.mg_none_of X G NV;have C:MW K mg ⟨NX,Qt,Q9,Ra,Mi⟩:=⟨PySem.W.mg_of X G MG,PySem.W.mg_of X G Nj,PySem.W.mg_of X G Of,PySem.W.mg_of X G NC,PySem.W.mg_of X G Nf,Nk,PX.fN.of ND,L8,L6,Mu,Mb,Mc,LP,LQ,Mv⟩;refine⟨PySem.W.fnOf "law" "law" (cT gG) (bZ gG) (ao gG) .none kV52 dc52 pm52 an52 ZI ct52,λs v=>.of_eq rfl,λbase _ _=>?_⟩;have Ou:=e0.has l.prog w base X G λF=>G7 F C
 have MD:=e1.has l.prog w base X G λF=>oS F C Ob
 have Ng:=e2.has l.prog w base X G λF=>AI F C MD
 have QI:=e3.has l.prog w base X G λF=>EA F C LH
 have NQ:=e4.has l.prog w base X G λF=>EE F C
 have Oc:=e5.has l.prog w base X G λF=>G6 F C Ou NQ
 have Ov:=e6.has l.prog w base X G λF=>yv F C
 have OV:=e7.has l.prog w base X G λF=>AF F C
 have RB:=e8.has l.prog w base X G λF=>G3 F C OV Ov Ng
 have QJ:=e9.has l.prog w base X G λF=>EB F C Ng
 have Mg:=e10.has l.prog w base X G λF=>yA F C
 have RE:=e11.has l.prog w base X G λF=>G4 F C Ou
 have QH:=e12.has l.prog w base X G λF=>EC F C
 have LV:=e13.has l.prog w base X G λF=>AJ F C
 have Oz:=e14.has l.prog w base X G λF=>yC F C LV
 have MM:=e15.has l.prog w base X G λF=>xg F C
 have F16:=ot (st:=hJ) l16 c16 k16;have Og:sv l.prog w K mg base "total" 2 ["dots", "colour"] "colour" (jX _):=⟨_,_,ED F16 C MM NG,PySem.W.mg_of X G a16,k16,qG λs us O9 hl=>(match us,hl with|[_,_],_=>.of_defaults rfl (O9 _ _ ZG) rfl rfl rfl),qF 1 rfl λs us O9 hl=>(match us,hl with|[_],_=>.of_defaults rfl (O9 _ _ ZG) rfl rfl rfl),q9 1 rfl λs us w O9 hl=>(match us,hl with|[_],_=>.of_defaults rfl (O9 _ _ ZG) rfl rfl rfl)⟩;have F17:=ot (st:=fZ) l17 c17 k17;have OW:sv l.prog w K mg base "weighed" 3 ["dots", "gauge", "colour"] "colour" (gP _):=⟨_,_,AK F17 C MM Mg Oc LV,PySem.W.mg_of X G a17,k17,qG λs us O9 hl=>(match us,hl with|[_,_,_],_=>.of_defaults rfl (O9 _ _ ZH) rfl rfl rfl),qF 2 rfl λs us O9 hl=>(match us,hl with|[_,_],_=>.of_defaults rfl (O9 _ _ ZH) rfl rfl rfl),q9 2 rfl λs us w O9 hl=>(match us,hl with|[_,_],_=>.of_defaults rfl (O9 _ _ ZH) rfl rfl rfl)⟩;have Pm:=e18.has l.prog w base X G λF=>Ez F C QH LD
 have RF:=e19.has l.prog w base X G λF=>G0 F C Pm Mg LD Oo MH
 have Nl:=e20.has l.prog w base X G λF=>rD F C LV
 have NR:=e21.has l.prog w base X G λF=>uS F C Nl QI LD
 have Od:=e22.has l.prog w base X G λF=>xh F C RB Mg LV
 have Oy:=e23.has l.prog w base X G λF=>yB F C OW Oo MH
 have NU:=e24.has l.prog w base X G λF=>uR F C Od NR
 have M7:=e25.has l.prog w base X G λF=>p4 F C QJ NQ
 have OX:=e26.has l.prog w base X G λF=>AE F C M7 Oc LD LH
 have PN:=e27.has l.prog w base X G λF=>CK F C OX
 have TJ:=e28.has l.prog w base X G λF=>JA F C RE LD LH
 have NS:=e29.has l.prog w base X G λF=>uN F C
 have Ox:=e30.has l.prog w base X G λF=>yx F C
 have Nw:=e31.has l.prog w base X G λF=>sZ F C NS Ox NU Oy
 have RG:=e32.has l.prog w base X G λF=>G5 F C
 have OY:=e33.has l.prog w base X G λF=>AG F C RF Oz
 have M8:=e34.has l.prog w base X G λF=>p5 F C PN OY TJ RG Og
 have MJ:=e35.has l.prog w base X G λF=>CL F C Nw M8 Og
 have MY:=e36.has l.prog w base X G λF=>xf F C OA Nb Lz
 have LG:=e37.has l.prog w base X G λF=>tm F C LD
 have LY:=e38.has l.prog w base X G λF=>tw F C Ob
 have Oh:=e39.has l.prog w base X G λF=>AH F C Nb
 have OB:=e40.has l.prog w base X G λF=>yw F C LG Oh
 have MA:=e41.has l.prog w base X G λF=>w8 F C Nb Oe
 have Mq:=e42.has l.prog w base X G λF=>uO F C LY
 have MQ:=e43.has l.prog w base X G λF=>nE F C Mq LD
 have Nm:=e44.has l.prog w base X G λF=>rC F C LY MY Lz LD NV
 have Md:=e45.has l.prog w base X G λF=>xc F C
 have Mz:=e46.has l.prog w base X G λF=>w9 F C
 have Ny:=e47.has l.prog w base X G λF=>tu F C Mz Nm Md Lz LD MV LH
 have Nx:=e48.has l.prog w base X G λF=>tj F C Mz Md
 have NW:=e49.has l.prog w base X G λF=>uQ F C Nx Md LD LH
 have MX:=e50.has l.prog w base X G λF=>tB F C MJ Mr Lz
 have Nd:=e51.has l.prog w base X G λF=>uP F C Ny MA NW MJ MV NG
 exact Jz (ot (st:=gG) l52 c52 k52) C LG MA OB MQ MX Nd MJ MV PO Oe LH NG
end LW
def PySem.W.Fast.te9598497421286837627:True:=trivial
def PySem.W.Fast.tw1572003894070282794:PySem.Program:=PySem.Challenge.pw_halvecut_k53_whole_regions
theorem PySem.W.Fast.te1572003894070282794:PySem.Challenge.pw_halvecut_k53_whole_regions=PySem.W.Fast.tw1572003894070282794:=rfl
namespace PySem.W.Fast
def tw12275211996057913088:=()
def tw18199473712633795553:=()
def tw4982691935089125078:=()
def tw1731559849847732970:=()
def tw2766483527518778328:=()
def tw3339186581494434380:=()
def tw17143671679171832:=()
def tw2968442748272966291:=()
def tw3326846131471523856:=()
def tw138095542247165112:=()
def tw17777234936537931214:=()
def tw11552061612394659386:=()
def tw9652621727968278700:=()
def tw4851486649288062558:=()
def tw8718670075134785980:=()
def tw14681316513521974630:=()
def tw12181513107386643278:=()
def tw7367228147920404008:=()
def tw14942227105355183108:=()
def tw5293456227162349034:=()
def tw2814735570476975519:=()
def tw14252526834758047139:=()
def tw11722936025892088078:=()
def tw17790930240095179389:=()
def tw15206508665235366019:=()
def tw10549660883390836058:=()
def tw10443759877147634667:=()
def tw9799592555754887041:=()
def tw9305183853340294775:=()
def tw13351874102462074641:=()
def tw4761186239175579321:=()
def tw15050457326902357859:=()
def tw8607828831292145888:=()
def tw12038203318673530840:=()
def tw3075190990106980092:=()
def tw1031423906548967491:=()
def tw4521374354872281607:=()
def tw6864301777654469732:=()
def tw13580550624895117557:=()
def tw3854520682742155856:=()
def tw16616445385978691977:=()
def tw15299986837364400601:=()
def tw14848421482230316370:=()
def tw4247621292191427615:=()
def tw6084782062597185925:=()
def tw6577391911740969788:=()
def tw8277743130715258267:=()
def tw18779997418335026:=()
def tw9711811855664057620:=()
def tw17599029116494250247:=()
def tw4643756974022513039:=()
def tw12381414060736330089:=()
def tw2708321821279125393:=()
def tw1978625376646472831:=()
def tw5012388128431184143:=()
def tw14180271302965283190:=()
def tw203631003942623603:=()
def tw16737598859595444322:=()
def tw10674428264511812178:=()
def tw4553928469522243445:=()
def tw617889148137205574:=()
def tw4296326445376113721:=()
def tw7648768227355262648:=()
def tw6883509663292454334:=()
def tw17036092159786885394:=()
def tw2848543759219435976:=()
def tw1422580607587161699:=()
def tw3631858289731246245:=()
def tw16676674288570368733:=()
def tw5437359719014046840:=()
def tw4177212882204808805:=()
def tw2034796538204350539:=()
def tw17630070849596402348:=()
def tw14061871011118786786:=()
def tw12257700199773098269:=()
def tw5778466173850631632:=()
def tw7124837584278608512:=()
def tw921982360846112720:=()
def tw5356613146173610180:=()
def tw1977671191142711544:=()
def tw9896811770710856476:=()
def tw10505852121836365130:=()
def tw11115437647718412077:=()
def tw12993045393748359148:=()
def tw223389578785482487:=()
def tw8927600095241032634:=()
def tw11027115070965449511:=()
def tw16718201520988055858:=()
def tw4568589639141475382:=()
def tw91022806993561533:=()
def tw17911580703527012445:=()
def tw6535617317660077011:=()
def tw13607314189376575069:=()
def tw15409762226060509729:=()
def tw548467853572388007:=()
def tw11984352842777003866:=()
def tw11988259134452519540:=()
def tw6880203490887717565:=()
def tw15511526328991284500:=()
def tw6850741851513041885:=()
def tw12110028913308564283:=()
def tw8146824945778822027:=()
def tw9703851295184240495:=()
def tw14273051277635460885:=()
def tw12838396751617275730:=()
def tw12889528482550753775:=()
def tw1491897665258411937:=()
def tw6879827717409060522:=()
def tw11940057698423803115:=()
def tw12329185597969637441:=()
def tw16415366426037223019:=()
def tw11513733677259451182:=()
def tw2551659888042858503:=()
def tw5196038905991454972:=()
def tw13817871971431089768:=()
def tw16854207928857295501:=()
def tw5206761218636501089:=()
def tw17125279811039693010:=()
def tw16500583004071497118:=()
def tw5909583146900361357:=()
def tw6646503173690204938:=()
def tw4361626994453517614:=()
def tw245618606898999145:=()
def tw4732387601469064830:=()
def tw15950503348235737798:=()
def tw16635009211351673767:=()
def tw6798218947701199147:=()
def tw7925562971687013477:=()
def tw9337477275819822359:=()
def tw7821908924608769555:=()
def tw17693686615543304277:=()
def tw14981829538136041942:=()
def tw3594197537803804272:=()
def tw7454051178056174962:=()
def tw5396479234864927425:=()
def tw383801547315619199:=()
def tw6571389002491766840:=()
def tw16766328248499621752:=()
def tw9674965634742711999:=()
def tw6483778103872270847:=()
def tw7561691688154204701:=()
def tw16430668035807959658:=()
def tw13793872184908845050:=()
def tw13802627822535437622:=()
def tw9060614656666090978:=()
def tw8143133838289591336:=()
def tw8644116956222974143:=()
def tw767428435268365446:=()
def tw5294968589586988363:=()
def tw707714262080781527:=()
def tw683813431976470162:=()
def tw10676834128536585113:=()
def tw14660725922332552852:=()
def tw18014947417319513097:=()
def tw9064426639213189904:=()
def tw449845654535326429:=()
def tw5472997053324588666:=()
def tw9203658996318864091:=()
def tw10333796203769214022:=()
def tw2133029430978346196:=()
def tw14887070405543788412:=()
def tw5275835645746329943:=()
def tw522408092621857760:=()
def tw6978734578574006828:=()
def tw5154284602791337285:=()
def tw9272415685427134461:=()
def tw7602651762148757862:=()
def tw7307075790967183385:=()
def tw9014785571401110390:=()
def tw11145354591936467302:=()
def tw6104224617417782798:=()
def tw1998180124778814278:=()
def tw11977544481529514250:=()
def tw7945870795461568961:=()
def tw7732772874492844199:=()
def tw1684203457423539581:=()
def tw7302276713879300486:=()
def tw15107591048366432961:=()
def tw18309570288078033640:=()
def tw2834700497995494793:=()
def tw10543577367409862960:=()
def tw8464420008039804211:=()
def tw9000657384154498935:=()
def tw9773632098576377955:=()
def tw17148120962175105234:=()
def tw13021670229386852644:=()
def tw13807280519677991246:=()
def tw16535180778450063159:=()
def tw11356765887483671528:=()
def tw7674506390606396569:=()
def tw6318867684822933138:=()
def tw11983362193872504391:=()
def tw18383331004321445471:=()
def tw4947875226273805548:=()
def tw4510517958795794280:=()
def tw11789543232332737863:=()
def tw4832447774510319339:=()
def tw6518182116903975997:=()
def tw10360796064557469333:=()
def tw5573106078751848049:=()
def tw5983405835134355447:=()
def tw14422336053976424355:=()
def tw5274082844218402228:=()
def tw15678088617820785450:=()
def tw8012560435713652285:=()
def tw2711126904259810941:=()
def tw13202828625136321647:=()
def tw12487006261339114706:=()
def tw6761398072312810128:=()
def tw14188893827358901636:=()
def tw11392643110680583831:=()
def tw7666369190620003901:=()
def tw16569236369187248516:=()
def tw877817746386857723:=()
def tw8680643984980650447:=()
def tw7893506053475447293:=()
def tw7534570516795310751:=()
def tw9422014230777138094:=()
def tw3367955078241116646:=()
def tw14491088339301813350:=()
def tw11536111641096165620:=()
def tw6792459143362922293:=()
def tw14726325407356720009:=()
def tw10250986250661156982:=()
def tw4832042590427502622:=()
def tw11438143163401612774:=()
def tw13576094127724394578:=()
def tw900620067753144389:=()
def tw17252824299246122780:=()
def tw3172378667894464338:=()
def tw396912440499561401:=()
def tw15743931869901125205:=()
def tw11829357197937940638:=()
def tw5683929402100735488:=()
def tw2574793669091909347:=()
def tw2421631307871564154:=()
def tw16950157619533771435:=()
def tw10838810514974022063:=()
def tw1163855456757933542:=()
def tw10106358936956679816:=()
def tw11070295634204678350:=()
def tw4386198241824381350:=()
def tw9329817758593111699:=()
def tw10072188769541373200:=()
def tw13892571772235277673:=()
def tw4197552769408032005:=()
def tw4141875084178947236:=()
def tw6587328127045938751:=()
def tw10170951983250961343:=()
def tw4083293715813826915:=()
def tw11414836521599307451:=()
def tw338655197179574680:=()
def tw4338575912818260145:=()
def tw5336703726798968699:=()
def tw2668232970026827955:=()
def tw10925880055198562609:=()
def tw8923359946671492750:=()
def tw15009548553516622456:=()
def tw10467543037545377592:=()
def tw15690161167948148282:=()
def tw12097094942208252685:=()
def tw7064674817163712264:=()
def tw16408676288104983488:=()
def tw7911119605593474293:=()
def tw5332384604828502829:=()
def tw16580698916210774311:=()
def tw6021972978409607862:=()
def tw6927402053311496405:=()
def tw5481626895288712071:=()
end PySem.W.Fast
open PySem PySem.W PyProof.Rows
set_option maxRecDepth 100000 in
set_option maxHeartbeats 0 in
theorem PySem.Challenge.cw_halvecut_k53_whole_regions_holds : PySem.Challenge.rw_halvecut_k53_whole_regions.Holds := by
 w_on; o_law; k_head; (case hw => w_witness2)
 k_fill
 refine PD.walk (l := PySem.Challenge.rw_halvecut_k53_whole_regions) (k := 10) (x := "_law_script") rfl rfl ⟨rfl, by decide, by decide⟩ (λw h Y => PySem.W.kIn_of Y) (λw => by kernel_rfl) ?F
 case F =>
  intro w mg fa h KX G Yl
  refine' LW.all_mk KX G Yl ?e0 ?e1 ?e2 ?e3 ?e4 ?e5 ?e6 ?e7 ?e8 ?e9 ?e10 ?e11 ?e12 ?e13 ?e14 ?e15 ?a16 ?l16 ?c16 ?k16 ?ZG ?a17 ?l17 ?c17 ?k17 ?ZH ?e18 ?e19 ?e20 ?e21 ?e22 ?e23 ?e24 ?e25 ?e26 ?e27 ?e28 ?e29 ?e30 ?e31 ?e32 ?e33 ?e34 ?e35 ?e36 ?e37 ?e38 ?e39 ?e40 ?e41 ?e42 ?e43 ?e44 ?e45 ?e46 ?e47 ?e48 ?e49 ?e50 ?e51 ?a52 ?l52 ?c52 ?k52 ?MG ?Nj ?Of ?NC ?Nf ?Nk ?ND ?L8 ?L6 ?Mu ?Mb ?Mc ?LP ?LQ ?Mv ?Mr ?Ob ?OA ?Nb ?Lz ?LD ?MV ?PO ?Oe ?LH ?Oo ?MH ?NG ?NV
  all_goals try (refine' PD.FL.mk ?a ?l ?c ?k; (case a => k_is); (case l => k_is); (case c => k_is); (case k => k_is))
  (case a16 => k_is)
  (case l16 => k_is)
  (case c16 => k_is)
  (case k16 => k_is)
  (case ZG => k_is)
  (case a17 => k_is)
  (case l17 => k_is)
  (case c17 => k_is)
  (case k17 => k_is)
  (case ZH => k_is)
  (case a52 => k_is)
  (case l52 => k_is)
  (case c52 => k_is)
  (case k52 => k_is)
  (case MG => k_is)
  (case Nj => k_is)
  (case Of => k_is)
  (case NC => k_is)
  (case Nf => k_is)
  (case Nk => kernel_rfl)
  (case ND => kernel_rfl)
  (case L8 => kernel_rfl)
  (case L6 => kernel_rfl)
  (case Mu => kernel_rfl)
  (case Mb => kernel_rfl)
  (case Mc => kernel_rfl)
  (case LP => kernel_rfl)
  (case LQ => kernel_rfl)
  (case Mv => kernel_rfl)
  (case Mr => k_is)
  (case Ob => k_is)
  (case OA => k_is)
  (case Nb => k_is)
  (case Lz => k_is)
  (case LD => k_is)
  (case MV => k_is)
  (case PO => k_is)
  (case Oe => k_is)
  (case LH => k_is)
  (case Oo => k_is)
  (case MH => k_is)
  (case NG => k_is)
  (case NV => k_is)
